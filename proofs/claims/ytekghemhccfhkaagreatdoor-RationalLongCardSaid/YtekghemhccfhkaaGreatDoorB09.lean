/-
  Walks of the program's functions: SubFrom, At, Plus, FromW, LowHigh, Join, Minus.
-/
import Derived.Test.YtekghemhccfhkaaGreatDoorB03
import Derived.Test.YtekghemhccfhkaaGreatDoorB04
import Derived.Shelf.Spec.BitsCarry
namespace Go.Proofs.YtekghemhccfhkaaGreatDoor
open Go.RowKit Go.Big
theorem run_sub (x y c : Nat) (hc : c ≤ 1) (w : World) :
    (callFunc 223 #[.int .u64 x, .int .u64 y, .int .u64 c]).run Tryz.prog w =
      .ok (.value (.tuple #[.int .u64 (subLo x y c), .int .u64 (subHi x y c)])) w := by
  rw [run_callFunc_extern Tryz.func223 (by kernel_rfl) (by kernel_rfl) (by kernel_rfl) (e := Proofs.sub64Entry) (by kernel_rfl), Proofs.run_sub64 x y c hc]
  rfl
theorem run_sub0 (x c : Nat) (hc : c ≤ 1) (w : World) :
    (callFunc 223 #[.int .u64 x, .int .u64 0, .int .u64 c]).run Tryz.prog w =
      .ok (.value (.tuple #[.int .u64 (subLo x 0 c), .int .u64 (subHi x 0 c)])) w := run_sub x 0 c hc w

def SubPost (w : World) (g : Nat) (pre a post b : List Nat) (e : Ending) (w' : World) : Prop :=
  ∃ (cur : List Nat) (c : Nat), e = .returned (.int .u64 c) ∧ w' = wput w g .u64 (pre ++ (cur ++ post)) ∧ Subbed a b cur c

set_option maxRecDepth 100000 in
set_option maxHeartbeats 400000 in
theorem subFrom_any (g capa capb : Nat) (bo : Option Addr) (pre a post b : List Nat) (w : World)
    (hg : isRow w g 71 .u64 (pre ++ (a ++ post))) (ha : Wd B64 a) (hbw : Wd B64 b) (hb : SlA w .u64 bo capb b) (hne : b ≠ [] → ∀ p, bo = some p → p.block ≠ g)
    (hl : b.length ≤ a.length) (hm : a.length ≤ 1099511627776) :
    Calls Tryz.prog 217 #[.slice (some ⟨g, pre.length, none⟩) a.length capa, .slice bo b.length capb] w (SubPost w g pre a post b) := by
  go_enter Tryz.func217, Tryz.ntmps217
  go_wp2
  go_loopw [5, 11] (fun c i wr => ∃ (k cn : Nat) (cur : List Nat), k ≤ b.length ∧ i = .int .i64 k ∧ c = .int .u64 cn ∧ SubInv a b k cur cn ∧ wr = wput w g .u64 (pre ++ (cur ++ post)))
    (fun _ i _ => b.length - (intOf i).toNat)
  case atStart => exact ⟨0, 0, a, Nat.zero_le _, rfl, rfl, SubInv.start b ha, (put_self hg).symm⟩
  case round =>
    obtain ⟨k, cn, cur, hk, rfl, rfl, hinv, rfl⟩ := hrel
    have hcn := hinv.carry
    have HL : Hid (cur.length = a.length) := hinv.len
    by_cases hlt : k < b.length
    · obtain ⟨gb, offb, rfl, _, hbc⟩ := hb.at hlt
      have hgb : gb ≠ g := hne (by intro e; simp [e] at hlt) _ rfl
      have hcb : (wput w g .u64 (pre ++ (cur ++ post))).cell? ⟨gb, offb + k, none⟩ = some (.int .u64 (nth b k)) := by rw [put_other _ _ _ hgb]; exact hbc k hlt
      have hca : (wput w g .u64 (pre ++ (cur ++ post))).cell? ⟨g, pre.length + k, none⟩ = some (.int .u64 (nth cur k)) := by
        rw [(hg.put _).cell (by have := HL.out; simp; omega), nth_mid _ _ _ _ (by have := HL.out; omega)]
      have hfr : (wput w g .u64 (pre ++ (cur ++ post))).frozen? ⟨g, pre.length + k, none⟩ = false := (hg.put _).frozen _
      have hadd := run_sub (nth cur k) (nth b k) cn hcn (wput w g .u64 (pre ++ (cur ++ post)))
      generalize hW : wput w g .u64 (pre ++ (cur ++ post)) = W at *
      have HW := Lib.hid hW
      clear hW hb hbc hgb hne
      go_wp2_with fail
      go_roundw
      case rel => exact ⟨k + 1, _, cur.set k (subLo (nth cur k) (nth b k) cn), by omega, by go_num, rfl, hinv.step (by omega) hlt hbw, by rw [← HW.out, put_store hg, set_mid _ _ _ _ _ (by have := HL.out; omega)]⟩
      case measure => simp [intOf]; omega
    · have hkb : k = b.length := by omega
      subst hkb
      clear hb hne
      go_wp2_with fail
      go_loopw [5, 8] (fun c i wr => ∃ (k cn : Nat) (cur : List Nat), b.length ≤ k ∧ k ≤ a.length ∧ i = .int .i64 k ∧ c = .int .u64 cn ∧ SubInv a b k cur cn ∧ wr = wput w g .u64 (pre ++ (cur ++ post)))
        (fun _ i _ => a.length - (intOf i).toNat)
      case atStart => exact ⟨b.length, cn, cur, Nat.le_refl _, hl, rfl, rfl, hinv, rfl⟩
      case round =>
        clear hinv HL hcn
        obtain ⟨k, cn, cur, hk, hka, rfl, rfl, hinv, rfl⟩ := hrel
        have hcn := hinv.carry
        have HL : Hid (cur.length = a.length) := hinv.len
        by_cases hlt : k < a.length
        · have hca : (wput w g .u64 (pre ++ (cur ++ post))).cell? ⟨g, pre.length + k, none⟩ = some (.int .u64 (nth cur k)) := by
            rw [(hg.put _).cell (by have := HL.out; simp; omega), nth_mid _ _ _ _ (by have := HL.out; omega)]
          have hfr : (wput w g .u64 (pre ++ (cur ++ post))).frozen? ⟨g, pre.length + k, none⟩ = false := (hg.put _).frozen _
          have hadd := run_sub0 (nth cur k) cn hcn (wput w g .u64 (pre ++ (cur ++ post)))
          generalize hW : wput w g .u64 (pre ++ (cur ++ post)) = W at *
          have HW := Lib.hid hW
          clear hW
          by_cases hz : cn = 0
          · subst hz
            go_wp2_with fail
            go_ret
            exact ⟨cur, 0, rfl, HW.out.symm, hinv.done hk hka (.inr rfl)⟩
          · have hz' : ((cn : Int) != 0) = true := by rw [bne_iff_ne]; omega
            go_wp2_with fail
            go_roundw
            case rel => exact ⟨k + 1, _, cur.set k (subLo (nth cur k) 0 cn), by omega, by omega, by go_num, rfl, hinv.step0 hlt hk, by rw [← HW.out, put_store hg, set_mid _ _ _ _ _ (by have := HL.out; omega)]⟩
            case measure => simp [intOf]; omega
        · go_wp2_with fail
          go_ret
          exact ⟨cur, cn, rfl, rfl, hinv.done hk hka (.inl hlt)⟩
end Go.Proofs.YtekghemhccfhkaaGreatDoor
namespace Go.Proofs.YtekghemhccfhkaaGreatDoor
open Go.RowKit Go.Big
theorem ret_i {k : IntKind} {a b : Int} (h : a = b) : Ending.returned (.int k a) = .returned (.int k b) := by rw [h]
theorem addTo_at {g capa capb n off nb : Nat} {bo : Option Addr} {pre a post b : List Nat} {w : World}
    (hg : isRow w g 71 .u64 (pre ++ (a ++ post))) (ha : Wd B64 a) (hbw : Wd B64 b) (hb : SlA w .u64 bo capb b) (hne : b ≠ [] → ∀ p, bo = some p → p.block ≠ g)
    (hl : b.length ≤ a.length) (hm : a.length ≤ 1099511627776) (hn : a.length = n) (ho : pre.length = off) (hnb : b.length = nb) :
    Calls Tryz.prog 213 #[.slice (some ⟨g, off, none⟩) n capa, .slice bo nb capb] w (AddPost w g pre a post b) := by
  subst hn ho hnb; exact addTo_any g capa capb bo pre a post b w hg ha hbw hb hne hl hm
theorem subFrom_at {g capa capb n off nb : Nat} {bo : Option Addr} {pre a post b : List Nat} {w : World}
    (hg : isRow w g 71 .u64 (pre ++ (a ++ post))) (ha : Wd B64 a) (hbw : Wd B64 b) (hb : SlA w .u64 bo capb b) (hne : b ≠ [] → ∀ p, bo = some p → p.block ≠ g)
    (hl : b.length ≤ a.length) (hm : a.length ≤ 1099511627776) (hn : a.length = n) (ho : pre.length = off) (hnb : b.length = nb) :
    Calls Tryz.prog 217 #[.slice (some ⟨g, off, none⟩) n capa, .slice bo nb capb] w (SubPost w g pre a post b) := by
  subst hn ho hnb; exact subFrom_any g capa capb bo pre a post b w hg ha hbw hb hne hl hm
theorem trim_at {ao : Option Addr} {cap n : Nat} {l : List Nat} {w : World} (h : SlA w .u64 ao cap l) (hn : l.length = n) :
    Calls Tryz.prog 174 #[.slice ao n cap] w (TrimPost w ao cap l) := by
  subst hn; exact trim_any ao cap l w h
theorem trim_det_at {ao : Option Addr} {cap n : Nat} {l : List Nat} {w : World} (h : SlA w .u64 ao cap l) (hn : l.length = n) :
    Calls Tryz.prog 174 #[.slice ao n cap] w fun e w' => e = .returned (.slice ao (tl l n) cap) ∧ w' = w := by
  subst hn; exact trim_det ao cap l w h
theorem natv_trim {ao : Option Addr} {cap n m : Nat} {l : List Nat} {w : World} (h : SlA w .u64 ao cap l) (hw : Wd B64 l) (hn : l.length = n) (hv : val B64 l = m) : NatV w .u64 B64 (.slice ao (tl l n) cap) m := by
  subst hn
  have := NatV.mk h hw (tl_le l l.length) (tl_Nz l _ (Nat.le_refl _))
  rwa [tl_val B64 l _ (Nat.le_refl _), List.take_length, hv] at this
/-- 'make(natural, x)'. -/
theorem mk64 (x : Int) (n : Nat) (hx : x = n) (hn : n ≤ 1099511627776) (w : World) :
    (Instr.makeSlice 108 (.int .i64 x) (.int .i64 x)).run Tryz.prog w = .ok (.slice (some ⟨w.heap.size, 0, none⟩) n n) (w.alloc (.cells (cellsOf .u64 (zeros n)) 71)) :=
  run_mk 108 71 .u64 Tryz.underlying108 8 (by kernel_rfl) (by decide) x n hx hn w
theorem copy64 {w : World} {g : Nat} {L l : List Nat} {off dLen dCap cap : Nat} {so : Option Addr} (hg : isRow w g 71 .u64 L) (hl : SlA w .u64 so cap l) (h1 : l.length ≤ dLen) (h2 : off + dLen ≤ L.length) (ty : TypeId) :
    (Builtin.copy_ #[108, 108] ty #[.slice (some ⟨g, off, none⟩) dLen dCap, .slice so l.length cap]).run Tryz.prog w = .ok (goInt l.length) (wput w g .u64 (L.take off ++ (l ++ L.drop (off + l.length)))) :=
  run_copy 108 108 ty 71 Tryz.underlying108 (by kernel_rfl) hg hl h1 h2
theorem SlA.blk {w : World} {k : IntKind} {ao : Option Addr} {cap : Nat} {l : List Nat} (h : SlA w k ao cap l) (hl : l ≠ []) : ∀ p, ao = some p → p.block < w.heap.size := by
  intro p hp
  obtain ⟨b, off, e, hlt, _⟩ := h.cells hl
  rw [hp] at e
  cases e
  exact hlt
end Go.Proofs.YtekghemhccfhkaaGreatDoor
namespace Go.Proofs.YtekghemhccfhkaaGreatDoor
open Go.RowKit Go.Big
/-- A natural number comes back, in a world that only has more blocks. -/
def RetNat (w : World) (n : Nat) (e : Ending) (w' : World) : Prop := ∃ v, e = .returned v ∧ NatV w' .u64 B64 v n ∧ Below w.heap.size w w'

theorem zeros_fill {n m : Nat} {l : List Nat} : (zeros n).take 0 ++ (l ++ (zeros n).drop (0 + m)) = l ++ zeros (n - m) := by
  rw [zeros_drop, List.take_zero, List.nil_append, Nat.zero_add]

theorem plus_val {la lb cur : List Nat} {c m n : Nat} (ha : Wd B64 la) (hb : Wd B64 lb) (h : Added (la ++ zeros 1) lb cur c) (hl : lb.length ≤ la.length) (hm : val B64 la = m) (hn : val B64 lb = n) : val B64 cur = m + n := by
  have e := h.eq
  rw [val_append, zeros_val, Nat.mul_zero, Nat.add_zero, hm, hn] at e
  have h1 := val_lt ha
  have h2 := val_lt hb
  have h3 : B64 ^ lb.length ≤ B64 ^ la.length := Nat.pow_le_pow_right (by decide) hl
  have h4 : (la ++ zeros 1).length = la.length + 1 := by simp [zeros]
  rw [h4, Nat.pow_succ] at e
  rcases Nat.eq_zero_or_pos c with h5 | h5
  · subst h5; omega
  · have : c = 1 := by have := h.carry; omega
    subst this
    have : B64 ^ la.length * 2 ≤ B64 ^ la.length * B64 := Nat.mul_le_mul_left _ (by decide)
    omega

set_option maxRecDepth 100000 in
set_option maxHeartbeats 400000 in
theorem plus_ge (ao bo : Option Addr) (capa capb : Nat) (la lb : List Nat) (w : World) (m n : Nat) (sa : SlA w .u64 ao capa la) (sb : SlA w .u64 bo capb lb)
    (wa : Wd B64 la) (wb : Wd B64 lb) (va : val B64 la = m) (vb : val B64 lb = n) (hK : la.length < 1099511627776) (hge : lb.length ≤ la.length) :
    Calls Tryz.prog 189 #[.slice ao la.length capa, .slice bo lb.length capb] w (RetNat w (m + n)) := by
  have hmk := mk64 (la.length + 1) (la.length + 1) rfl hK w
  have hr0 : isRow (w.alloc (.cells (cellsOf .u64 (zeros (la.length + 1))) 71)) w.heap.size 71 .u64 (zeros (la.length + 1)) := isRow_alloc _ _ _ _
  have hb0 : Below w.heap.size w (w.alloc (.cells (cellsOf .u64 (zeros (la.length + 1))) 71)) := (Below.refl _ _).alloc (Nat.le_refl _) _
  generalize hW : w.alloc (.cells (cellsOf .u64 (zeros (la.length + 1))) 71) = W at *
  clear hW
  have hcp := copy64 (off := 0) (dLen := la.length + 1) (dCap := la.length + 1) (cap := capa) hr0 (sa.below hb0) (by omega) (by rw [zeros_len]; omega) 3
  rw [zeros_fill, Nat.add_sub_cancel_left] at hcp
  have hr1 : isRow (wput W w.heap.size .u64 (la ++ zeros 1)) w.heap.size 71 .u64 (la ++ zeros 1) := hr0.put _
  have hb1 : Below w.heap.size w (wput W w.heap.size .u64 (la ++ zeros 1)) := hb0.put (Nat.le_refl _) _ _
  generalize hW1 : wput W w.heap.size .u64 (la ++ zeros 1) = W1 at *
  clear hW1
  have hblk : lb ≠ [] → ∀ p, bo = some p → p.block ≠ w.heap.size := fun h p hp => by have := SlA.blk sb h p hp; omega
  have hcall := addTo_at (n := la.length + 1) (off := 0) (capa := la.length + 1) (capb := capb) (pre := []) (post := []) (a := la ++ zeros 1) (b := lb) (by simpa using hr1) (wa.append (zeros_wd (by decide) _)) wb (sb.below hb1) hblk (by simp; omega) (by simp [zeros]; omega) (by simp [zeros]) rfl rfl
  have H := Lib.hid hcall
  clear hcall hblk
  have hge' : ¬ la.length < lb.length := by omega
  go_enter Tryz.func189, Tryz.ntmps189
  go_wp2_with fail
  refine H.out.mono ?_
  rintro e w2 ⟨cur, c, rfl, rfl, had⟩
  clear H
  simp only [List.nil_append, List.append_nil]
  have hlen : cur.length = la.length + 1 := by rw [had.len]; simp [zeros]
  have hr2 := hr1.put cur
  have hb2 := hb1.put (Nat.le_refl _) .u64 cur
  have hv := plus_val wa wb had hge va vb
  have hwd := had.wd
  have hs2 := hr2.sl (cap := la.length + 1) (by omega) (by omega)
  have htr := trim_at hs2 hlen
  have H := Lib.hid htr
  have HL := Lib.hid hlen
  clear htr had hlen
  go_wp2_with fail
  refine H.out.mono ?_
  rintro e w3 ⟨n', hn', rfl, rfl, hz, hvv⟩
  have HV := Lib.hid hvv
  have Hv := Lib.hid hv
  clear hvv hv H
  go_wp2_with fail
  go_ret
  refine ⟨_, rfl, ?_, hb2⟩
  have := NatV.mk hs2 hwd hn' hz
  rwa [HV.out, Hv.out] at this
set_option maxRecDepth 100000 in
set_option maxHeartbeats 400000 in
theorem plus_lt (ao bo : Option Addr) (capa capb : Nat) (la lb : List Nat) (w : World) (m n : Nat) (sa : SlA w .u64 ao capa la) (sb : SlA w .u64 bo capb lb)
    (wa : Wd B64 la) (wb : Wd B64 lb) (va : val B64 la = m) (vb : val B64 lb = n) (hK : la.length < 1099511627776) (hge : lb.length < la.length) :
    Calls Tryz.prog 189 #[.slice bo lb.length capb, .slice ao la.length capa] w (RetNat w (m + n)) := by
  have hmk := mk64 (la.length + 1) (la.length + 1) rfl hK w
  have hr0 : isRow (w.alloc (.cells (cellsOf .u64 (zeros (la.length + 1))) 71)) w.heap.size 71 .u64 (zeros (la.length + 1)) := isRow_alloc _ _ _ _
  have hb0 : Below w.heap.size w (w.alloc (.cells (cellsOf .u64 (zeros (la.length + 1))) 71)) := (Below.refl _ _).alloc (Nat.le_refl _) _
  generalize hW : w.alloc (.cells (cellsOf .u64 (zeros (la.length + 1))) 71) = W at *
  clear hW
  have hcp := copy64 (off := 0) (dLen := la.length + 1) (dCap := la.length + 1) (cap := capa) hr0 (sa.below hb0) (by omega) (by rw [zeros_len]; omega) 3
  rw [zeros_fill, Nat.add_sub_cancel_left] at hcp
  have hr1 : isRow (wput W w.heap.size .u64 (la ++ zeros 1)) w.heap.size 71 .u64 (la ++ zeros 1) := hr0.put _
  have hb1 : Below w.heap.size w (wput W w.heap.size .u64 (la ++ zeros 1)) := hb0.put (Nat.le_refl _) _ _
  generalize hW1 : wput W w.heap.size .u64 (la ++ zeros 1) = W1 at *
  clear hW1
  have hblk : lb ≠ [] → ∀ p, bo = some p → p.block ≠ w.heap.size := fun h p hp => by have := SlA.blk sb h p hp; omega
  have hcall := addTo_at (n := la.length + 1) (off := 0) (capa := la.length + 1) (capb := capb) (pre := []) (post := []) (a := la ++ zeros 1) (b := lb) (by simpa using hr1) (wa.append (zeros_wd (by decide) _)) wb (sb.below hb1) hblk (by simp; omega) (by simp [zeros]; omega) (by simp [zeros]) rfl rfl
  have H := Lib.hid hcall
  clear hcall hblk
  go_enter Tryz.func189, Tryz.ntmps189
  go_wp2_with fail
  refine H.out.mono ?_
  rintro e w2 ⟨cur, c, rfl, rfl, had⟩
  clear H
  simp only [List.nil_append, List.append_nil]
  have hlen : cur.length = la.length + 1 := by rw [had.len]; simp [zeros]
  have hr2 := hr1.put cur
  have hb2 := hb1.put (Nat.le_refl _) .u64 cur
  have hv := plus_val wa wb had (Nat.le_of_lt hge) va vb
  have hwd := had.wd
  have hs2 := hr2.sl (cap := la.length + 1) (by omega) (by omega)
  have htr := trim_at hs2 hlen
  have H := Lib.hid htr
  have HL := Lib.hid hlen
  clear htr had hlen
  go_wp2_with fail
  refine H.out.mono ?_
  rintro e w3 ⟨n', hn', rfl, rfl, hz, hvv⟩
  have HV := Lib.hid hvv
  have Hv := Lib.hid hv
  clear hvv hv H
  go_wp2_with fail
  go_ret
  refine ⟨_, rfl, ?_, hb2⟩
  have := NatV.mk hs2 hwd hn' hz
  rwa [HV.out, Hv.out] at this

theorem natv_len {w : World} {v : Value} {n K : Nat} (h : NatV w .u64 B64 v n) (hn : n < B64 ^ K) :
    ∃ ao cap l, v = .slice ao l.length cap ∧ SlA w .u64 ao cap l ∧ Wd B64 l ∧ Nz l ∧ val B64 l = n ∧ l.length ≤ K := by
  obtain ⟨ao, cap, l, e, hs, hw, hz, hv⟩ := h
  exact ⟨ao, cap, l, e, hs, hw, hz, hv, len_lt (by decide) hz hv hn⟩

/-- (natural).plus -/
theorem plus_any {va vb : Value} {m n K : Nat} {w : World} (ha : NatV w .u64 B64 va m) (hb : NatV w .u64 B64 vb n) (hK : K < 1099511627776) (hm : m < B64 ^ K) (hn : n < B64 ^ K) :
    Calls Tryz.prog 189 #[va, vb] w (RetNat w (m + n)) := by
  obtain ⟨ao, capa, la, rfl, sa, wa, _, ea, la'⟩ := natv_len ha hm
  obtain ⟨bo, capb, lb, rfl, sb, wb, _, eb, lb'⟩ := natv_len hb hn
  rcases Nat.lt_or_ge la.length lb.length with h | h
  · rw [Nat.add_comm]
    exact plus_lt bo ao capb capa lb la w n m sb sa wb wa eb ea (by omega) h
  · exact plus_ge ao bo capa capb la lb w m n sa sb wa wb ea eb (by omega) h
end Go.Proofs.YtekghemhccfhkaaGreatDoor
namespace Go.Proofs.YtekghemhccfhkaaGreatDoor
open Go.RowKit Go.Big
theorem trim_ret {w0 w : World} {ao : Option Addr} {cap : Nat} {l : List Nat} {n : Nat} (hs : SlA w .u64 ao cap l) (hw : Wd B64 l) (hv : val B64 l = n) (hb : Below w0.heap.size w0 w) {e : Ending} {w' : World}
    (h : TrimPost w ao cap l e w') : RetNat w0 n e w' := by
  obtain ⟨n', hn', rfl, rfl, hz, hvv⟩ := h
  refine ⟨_, rfl, ?_, hb⟩
  have := NatV.mk hs hw hn' hz
  rwa [hvv, hv] at this

set_option maxRecDepth 100000 in
set_option maxHeartbeats 400000 in
/-- fromWord -/
theorem fromWord_any (x : Nat) (hx : x < B64) (w : World) : Calls Tryz.prog 151 #[.int .u64 x] w (RetNat w x) := by
  have hr0 : isRow (w.alloc (.cells #[.int .u64 x] 71)) w.heap.size 71 .u64 [x] := isRow_alloc w 71 .u64 [x]
  have hb0 : Below w.heap.size w (w.alloc (.cells #[.int .u64 x] 71)) := (Below.refl _ _).alloc (Nat.le_refl _) _
  have hs := hr0.sl (cap := 1) (by simp) (by simp)
  have ht := trim_at (n := 1) hs rfl
  have H := Lib.hid ht
  clear ht
  go_enter Tryz.func151, Tryz.ntmps151
  go_wp2_with fail
  refine H.out.mono ?_
  intro e w1 ht
  have hret := trim_ret (n := x) hs (fun y hy => by simp at hy; omega) (by simp [val]) hb0 ht
  obtain ⟨v, rfl, hv, hb⟩ := hret
  clear H ht
  go_wp2_with fail
  go_ret
  exact ⟨v, rfl, hv, hb⟩
end Go.Proofs.YtekghemhccfhkaaGreatDoor
namespace Go.Big
open Go Go.RowKit
variable {P : Program}
/-- The address of 'a[k:]'. -/
def dropA (ao : Option Addr) (cap k : Nat) : Option Addr := if cap = k then ao else ao.map (·.add k)
theorem SlA.drop {w : World} {k : IntKind} {ao : Option Addr} {cap : Nat} {l : List Nat} (h : SlA w k ao cap l) (n : Nat) (hn : n ≤ l.length) : SlA w k (dropA ao cap n) (cap - n) (l.drop n) := by
  refine ⟨by have := h.le; rw [List.length_drop]; omega, by have := h.max; rw [List.length_drop]; omega, fun hl => ?_⟩
  have hlt : n < l.length := by
    rcases Nat.lt_or_ge n l.length with h1 | h1
    · exact h1
    · exact absurd (List.drop_eq_nil_of_le h1) hl
  obtain ⟨b, off, rfl, hb, hc⟩ := h.at hlt
  have hle := h.le
  have e : (⟨b, off, none⟩ : Addr).add n = ⟨b, off + n, none⟩ := by unfold Addr.add; split <;> simp_all
  refine ⟨b, off + n, ?_, hb, fun j hj => ?_⟩
  · simp only [dropA, Option.map_some, e]
    rw [if_neg (by omega)]
  · rw [List.length_drop] at hj
    rw [Nat.add_assoc, hc (n + j) (by omega), nth_drop']
theorem run_slice_from (t e : TypeId) (ht : P.underlying t = some (.slice e)) (hs : (P.info? e).map (·.size) = some 1) (ao : Option Addr) (n cap k : Nat) (h1 : k ≤ n) (w : World) :
    (Instr.slice t (.slice ao n cap) (some (.int .i64 (k : Int))) none none).run P w = .ok (.slice (dropA ao cap k) (n - k) (cap - k)) w := by
  have h0 : (0 : Int) ≤ k ∧ (k : Int) ≤ n := by omega
  have h2 : ¬ n < k := by omega
  cases hq : P.info? e with
  | none => rw [hq] at hs; cases hs
  | some i =>
    rw [hq] at hs
    have hs1 : i.size = 1 := by simpa using hs
    simp [Instr.slice, run_underlying ht, Instr.sliceBounds, Instr.sliceBound, asIntOf, h0, sizeOf, typeInfo, hq, hs1, dropA, h2]
theorem run_slice_to (t e : TypeId) (ht : P.underlying t = some (.slice e)) (hs : (P.info? e).map (·.size) = some 1) (ao : Option Addr) (n cap k : Nat) (h1 : k ≤ cap) (w : World) :
    (Instr.slice t (.slice ao n cap) none (some (.int .i64 (k : Int))) none).run P w = .ok (.slice ao k cap) w := by
  have h0 : (0 : Int) ≤ k ∧ (k : Int) ≤ cap := by omega
  have h2 : ¬ cap < k := by omega
  cases hq : P.info? e with
  | none => rw [hq] at hs; cases hs
  | some i =>
    have ha : ∀ a : Addr, a.add 0 = a := fun a => by simp [Addr.add]
    simp [Instr.slice, run_underlying ht, Instr.sliceBounds, Instr.sliceBound, asIntOf, h0, sizeOf, typeInfo, hq, h2, ha]
theorem val_div_pow {B : Nat} {l : List Nat} (h : Wd B l) (k : Nat) (hk : k ≤ l.length) : val B l / B ^ k = val B (l.drop k) := by
  rw [take_drop_val B l k hk]
  have := val_lt (h.take k)
  rw [List.length_take, Nat.min_eq_left hk] at this
  rw [Nat.add_mul_div_left _ _ (by omega), Nat.div_eq_of_lt this, Nat.zero_add]
theorem val_mod_pow {B : Nat} {l : List Nat} (h : Wd B l) (k : Nat) (hk : k ≤ l.length) : val B l % B ^ k = val B (l.take k) := by
  rw [take_drop_val B l k hk]
  have := val_lt (h.take k)
  rw [List.length_take, Nat.min_eq_left hk] at this
  rw [Nat.add_mul_mod_self_left, Nat.mod_eq_of_lt this]
theorem Nz.drop {l : List Nat} (h : Nz l) (k : Nat) : Nz (l.drop k) := by
  unfold Nz at *
  rw [List.getLast?_drop]
  split
  · simp
  · exact h
end Go.Big
namespace Go.Proofs.YtekghemhccfhkaaGreatDoor
open Go.RowKit Go.Big
theorem from64 (ao : Option Addr) (n cap k : Nat) (h1 : k ≤ n) (w : World) :
    (Instr.slice 108 (.slice ao n cap) (some (.int .i64 (k : Int))) none none).run Tryz.prog w = .ok (.slice (dropA ao cap k) (n - k) (cap - k)) w :=
  run_slice_from 108 71 Tryz.underlying108 (by kernel_rfl) ao n cap k h1 w

set_option maxRecDepth 100000 in
set_option maxHeartbeats 400000 in
/-- (natural).high -/
theorem high_any {va : Value} {m k : Nat} {w : World} (ha : NatV w .u64 B64 va m) (_hk : k ≤ 1099511627776) :
    Calls Tryz.prog 209 #[va, .int .i64 k] w (RetNat w (m / B64 ^ k)) := by
  obtain ⟨ao, capa, la, rfl, sa, wa, na, ea⟩ := ha
  have hl := sa.len_le
  have hle := sa.le
  rcases Nat.lt_or_ge la.length k with h | h
  · have hsl := from64 ao la.length capa la.length (Nat.le_refl _)
    have hres : NatV w .u64 B64 (.slice (dropA ao capa la.length) (la.length - la.length) (capa - la.length)) (m / B64 ^ k) := by
      refine ⟨_, _, la.drop la.length, by rw [List.length_drop], sa.drop la.length (Nat.le_refl _), wa.drop _, na.drop _, ?_⟩
      rw [List.drop_length, Nat.div_eq_of_lt]; · rfl
      have := val_lt wa
      have h3 : B64 ^ la.length ≤ B64 ^ k := Nat.pow_le_pow_right (by decide) (Nat.le_of_lt h)
      omega
    rw [Nat.sub_self] at hres
    have H := Lib.hid hres
    clear hres ea
    go_enter Tryz.func209, Tryz.ntmps209
    go_wp2_with fail
    go_ret
    exact ⟨_, rfl, H.out, Below.refl _ _⟩
  · have hsl := from64 ao la.length capa k h
    have hres : NatV w .u64 B64 (.slice (dropA ao capa k) (la.length - k) (capa - k)) (m / B64 ^ k) := 
      ⟨_, _, la.drop k, by rw [List.length_drop], sa.drop k h, wa.drop k, na.drop k, by rw [← ea, val_div_pow wa k h]⟩
    have H := Lib.hid hres
    clear hres ea
    go_enter Tryz.func209, Tryz.ntmps209
    go_wp2_with fail
    go_ret
    exact ⟨_, rfl, H.out, Below.refl _ _⟩

set_option maxRecDepth 100000 in
set_option maxHeartbeats 400000 in
/-- (natural).low -/
theorem low_any {va : Value} {m k : Nat} {w : World} (ha : NatV w .u64 B64 va m) (_hk : k ≤ 1099511627776) :
    Calls Tryz.prog 211 #[va, .int .i64 k] w (RetNat w (m % B64 ^ k)) := by
  obtain ⟨ao, capa, la, rfl, sa, wa, na, ea⟩ := ha
  have hl := sa.len_le
  have hle := sa.le
  have hsl : ∀ (q : Nat), q ≤ capa → ∀ w, (Instr.slice 108 (.slice ao la.length capa) none (some (.int .i64 (q : Int))) none).run Tryz.prog w = .ok (.slice ao q capa) w :=
    fun q h w => run_slice_to 108 71 Tryz.underlying108 (by kernel_rfl) ao la.length capa q h w
  rcases Nat.lt_or_ge la.length k with h | h
  · have hs1 := hsl la.length hle
    have ht := trim_at sa rfl
    have hv : val B64 la = m % B64 ^ k := by
      rw [Nat.mod_eq_of_lt, ea]
      have := val_lt wa
      have h3 : B64 ^ la.length ≤ B64 ^ k := Nat.pow_le_pow_right (by decide) (Nat.le_of_lt h)
      omega
    have H := Lib.hid ht
    have HV := Lib.hid hv
    clear ht ea hv hsl
    go_enter Tryz.func211, Tryz.ntmps211
    go_wp2_with fail
    refine H.out.mono ?_
    intro e w1 ht
    obtain ⟨v, rfl, hv, hb⟩ := trim_ret sa wa HV.out (Below.refl _ _) ht
    clear H ht
    go_wp2_with fail
    go_ret
    exact ⟨v, rfl, hv, hb⟩
  · have hs1 := hsl k (by omega)
    have hkl : (la.take k).length = k := by rw [List.length_take, Nat.min_eq_left h]
    have ht := trim_at (sa.take k) hkl
    have hv : val B64 (la.take k) = m % B64 ^ k := by rw [← ea, val_mod_pow wa k h]
    have H := Lib.hid ht
    have HV := Lib.hid hv
    clear ht ea hv hsl hkl
    go_enter Tryz.func211, Tryz.ntmps211
    go_wp2_with fail
    refine H.out.mono ?_
    intro e w1 ht
    obtain ⟨v, rfl, hv, hb⟩ := trim_ret (sa.take k) (wa.take k) HV.out (Below.refl _ _) ht
    clear H ht
    go_wp2_with fail
    go_ret
    exact ⟨v, rfl, hv, hb⟩
end Go.Proofs.YtekghemhccfhkaaGreatDoor
namespace Go.Proofs.YtekghemhccfhkaaGreatDoor
open Go.RowKit Go.Big
end Go.Proofs.YtekghemhccfhkaaGreatDoor
namespace Go.Proofs.YtekghemhccfhkaaGreatDoor
open Go.RowKit Go.Big
theorem minus_val {la lb cur : List Nat} {c m n : Nat} (ha : Wd B64 la) (h : Subbed la lb cur c) (hm : val B64 la = m) (hn : val B64 lb = n) (hle : n ≤ m) : val B64 cur = m - n := by
  have e := h.eq
  rw [hm, hn] at e
  have h1 := val_lt ha
  have h2 := val_lt h.wd
  rw [h.len] at h2
  rcases Nat.eq_zero_or_pos c with h5 | h5
  · subst h5; omega
  · have : c = 1 := by have := h.carry; omega
    subst this
    omega

set_option maxRecDepth 100000 in
set_option maxHeartbeats 400000 in
theorem minus_core (ao bo : Option Addr) (capa capb : Nat) (la lb : List Nat) (w : World) (m n : Nat) (sa : SlA w .u64 ao capa la) (sb : SlA w .u64 bo capb lb)
    (wa : Wd B64 la) (wb : Wd B64 lb) (va : val B64 la = m) (vb : val B64 lb = n) (hge : lb.length ≤ la.length) (hle : n ≤ m) :
    Calls Tryz.prog 193 #[.slice ao la.length capa, .slice bo lb.length capb] w (RetNat w (m - n)) := by
  have hK := sa.len_le
  have hmk := mk64 la.length la.length rfl hK w
  have hr0 : isRow (w.alloc (.cells (cellsOf .u64 (zeros la.length)) 71)) w.heap.size 71 .u64 (zeros la.length) := isRow_alloc _ _ _ _
  have hb0 : Below w.heap.size w (w.alloc (.cells (cellsOf .u64 (zeros la.length)) 71)) := (Below.refl _ _).alloc (Nat.le_refl _) _
  generalize hW : w.alloc (.cells (cellsOf .u64 (zeros la.length)) 71) = W at *
  clear hW
  have hcp := copy64 (off := 0) (dLen := la.length) (dCap := la.length) (cap := capa) hr0 (sa.below hb0) (by omega) (by rw [zeros_len]; omega) 3
  rw [zeros_fill, Nat.sub_self, show zeros 0 = [] from rfl, List.append_nil] at hcp
  have hr1 : isRow (wput W w.heap.size .u64 la) w.heap.size 71 .u64 la := hr0.put _
  have hb1 : Below w.heap.size w (wput W w.heap.size .u64 la) := hb0.put (Nat.le_refl _) _ _
  generalize hW1 : wput W w.heap.size .u64 la = W1 at *
  clear hW1
  have hblk : lb ≠ [] → ∀ p, bo = some p → p.block ≠ w.heap.size := fun h p hp => by have := SlA.blk sb h p hp; omega
  have hcall := subFrom_at (n := la.length) (off := 0) (capa := la.length) (capb := capb) (pre := []) (post := []) (a := la) (b := lb) (by simpa using hr1) wa wb (sb.below hb1) hblk hge hK rfl rfl rfl
  have H := Lib.hid hcall
  clear hcall hblk
  go_enter Tryz.func193, Tryz.ntmps193
  go_wp2_with fail
  refine H.out.mono ?_
  rintro e w2 ⟨cur, c, rfl, rfl, had⟩
  clear H
  simp only [List.nil_append, List.append_nil]
  have hlen : cur.length = la.length := had.len
  have hr2 := hr1.put cur
  have hb2 := hb1.put (Nat.le_refl _) .u64 cur
  have hv := minus_val wa had va vb hle
  have hwd := had.wd
  have hs2 := hr2.sl (cap := la.length) (by omega) (by omega)
  have htr := trim_at hs2 hlen
  have H := Lib.hid htr
  have HL := Lib.hid hlen
  clear htr had hlen
  go_wp2_with fail
  refine H.out.mono ?_
  rintro e w3 ⟨n', hn', rfl, rfl, hz, hvv⟩
  have HV := Lib.hid hvv
  have Hv := Lib.hid hv
  clear hvv hv H
  go_wp2_with fail
  go_ret
  refine ⟨_, rfl, ?_, hb2⟩
  have := NatV.mk hs2 hwd hn' hz
  rwa [HV.out, Hv.out] at this

/-- (natural).minus -/
theorem minus_any {va vb : Value} {m n : Nat} {w : World} (ha : NatV w .u64 B64 va m) (hb : NatV w .u64 B64 vb n) (hle : n ≤ m) :
    Calls Tryz.prog 193 #[va, vb] w (RetNat w (m - n)) := by
  obtain ⟨ao, capa, la, rfl, sa, wa, na, ea⟩ := ha
  obtain ⟨bo, capb, lb, rfl, sb, wb, nb, eb⟩ := hb
  refine minus_core ao bo capa capb la lb w m n sa sb wa wb ea eb ?_ hle
  rcases Nat.lt_or_ge la.length lb.length with h | h
  · have := val_lt_of_len (B := B64) (by decide) wa nb h; omega
  · exact h
end Go.Proofs.YtekghemhccfhkaaGreatDoor
