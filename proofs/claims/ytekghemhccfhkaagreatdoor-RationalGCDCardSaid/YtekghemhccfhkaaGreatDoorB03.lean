/-
  Walks of the program's functions: Plus, FromW, LowHigh, Widen, App1, Cmp, Compare.
-/
import Derived.Test.YtekghemhccfhkaaGreatDoorB02
import Derived.Lib.AppendZerosOnto
import Derived.Test.YtekghemhccfhkaaGreatDoorB01
import Derived.ArgAppend
import Derived.Deep.QuietTactic
import Derived.BigQuiet
namespace Go.Proofs.YtekghemhccfhkaaGreatDoor
open Go.RowKit Go.Big
/-- A natural number comes back, in a world that only has more blocks. -/
def RetNat (w : World) (n : Nat) (e : Ending) (w' : World) : Prop := ∃ v, e = .returned v ∧ NatV w' .u64 B64 v n ∧ Below w.heap.size w w'

theorem zeros_fill {n m : Nat} {l : List Nat} : (zeros n).take 0 ++ (l ++ (zeros n).drop (0 + m)) = l ++ zeros (n - m) := by
  rw [zeros_drop, List.take_zero, List.nil_append, Nat.zero_add]

theorem plus_val {la lb cur : List Nat} {c m n : Nat} (ha : Wd B64 la) (hb : Wd B64 lb) (h : Added (la ++ zeros 1) lb cur c) (hl : lb.length ≤ la.length) (hm : val B64 la = m) (hn : val B64 lb = n) : val B64 cur = m + n := by
  have e := h.eq
  rw [val_append, zeros_val, Nat.mul_zero, Nat.add_zero, hm, hn] at e
  have h1 := val_lt ha
  have h2 := val_lt hb
  have h3 : B64 ^ lb.length ≤ B64 ^ la.length := Nat.pow_le_pow_right (by decide) hl
  have h4 : (la ++ zeros 1).length = la.length + 1 := by simp [zeros]
  rw [h4, Nat.pow_succ] at e
  rcases Nat.eq_zero_or_pos c with h5 | h5
  · subst h5; omega
  · have : c = 1 := by have := h.carry; omega
    subst this
    have : B64 ^ la.length * 2 ≤ B64 ^ la.length * B64 := Nat.mul_le_mul_left _ (by decide)
    omega

set_option maxRecDepth 100000 in
set_option maxHeartbeats 400000 in
theorem plus_ge (ao bo : Option Addr) (capa capb : Nat) (la lb : List Nat) (w : World) (m n : Nat) (sa : SlA w .u64 ao capa la) (sb : SlA w .u64 bo capb lb)
    (wa : Wd B64 la) (wb : Wd B64 lb) (va : val B64 la = m) (vb : val B64 lb = n) (hK : la.length < 1099511627776) (hge : lb.length ≤ la.length) :
    Calls Tryz.prog 189 #[.slice ao la.length capa, .slice bo lb.length capb] w (RetNat w (m + n)) := by
  have hmk := mk64 (la.length + 1) (la.length + 1) rfl hK w
  have hr0 : isRow (w.alloc (.cells (cellsOf .u64 (zeros (la.length + 1))) 71)) w.heap.size 71 .u64 (zeros (la.length + 1)) := isRow_alloc _ _ _ _
  have hb0 : Below w.heap.size w (w.alloc (.cells (cellsOf .u64 (zeros (la.length + 1))) 71)) := (Below.refl _ _).alloc (Nat.le_refl _) _
  generalize hW : w.alloc (.cells (cellsOf .u64 (zeros (la.length + 1))) 71) = W at *
  clear hW
  have hcp := copy64 (off := 0) (dLen := la.length + 1) (dCap := la.length + 1) (cap := capa) hr0 (sa.below hb0) (by omega) (by rw [zeros_len]; omega) 3
  rw [zeros_fill, Nat.add_sub_cancel_left] at hcp
  have hr1 : isRow (wput W w.heap.size .u64 (la ++ zeros 1)) w.heap.size 71 .u64 (la ++ zeros 1) := hr0.put _
  have hb1 : Below w.heap.size w (wput W w.heap.size .u64 (la ++ zeros 1)) := hb0.put (Nat.le_refl _) _ _
  generalize hW1 : wput W w.heap.size .u64 (la ++ zeros 1) = W1 at *
  clear hW1
  have hblk : lb ≠ [] → ∀ p, bo = some p → p.block ≠ w.heap.size := fun h p hp => by have := SlA.blk sb h p hp; omega
  have hcall := addTo_at (n := la.length + 1) (off := 0) (capa := la.length + 1) (capb := capb) (pre := []) (post := []) (a := la ++ zeros 1) (b := lb) (by simpa using hr1) (wa.append (zeros_wd (by decide) _)) wb (sb.below hb1) hblk (by simp; omega) (by simp [zeros]; omega) (by simp [zeros]) rfl rfl
  have H := Lib.hid hcall
  clear hcall hblk
  have hge' : ¬ la.length < lb.length := by omega
  go_enter Tryz.func189, Tryz.ntmps189
  go_wp2_with fail
  refine H.out.mono ?_
  rintro e w2 ⟨cur, c, rfl, rfl, had⟩
  clear H
  simp only [List.nil_append, List.append_nil]
  have hlen : cur.length = la.length + 1 := by rw [had.len]; simp [zeros]
  have hr2 := hr1.put cur
  have hb2 := hb1.put (Nat.le_refl _) .u64 cur
  have hv := plus_val wa wb had hge va vb
  have hwd := had.wd
  have hs2 := hr2.sl (cap := la.length + 1) (by omega) (by omega)
  have htr := trim_at hs2 hlen
  have H := Lib.hid htr
  have HL := Lib.hid hlen
  clear htr had hlen
  go_wp2_with fail
  refine H.out.mono ?_
  rintro e w3 ⟨n', hn', rfl, rfl, hz, hvv⟩
  have HV := Lib.hid hvv
  have Hv := Lib.hid hv
  clear hvv hv H
  go_wp2_with fail
  go_ret
  refine ⟨_, rfl, ?_, hb2⟩
  have := NatV.mk hs2 hwd hn' hz
  rwa [HV.out, Hv.out] at this
set_option maxRecDepth 100000 in
set_option maxHeartbeats 400000 in
theorem plus_lt (ao bo : Option Addr) (capa capb : Nat) (la lb : List Nat) (w : World) (m n : Nat) (sa : SlA w .u64 ao capa la) (sb : SlA w .u64 bo capb lb)
    (wa : Wd B64 la) (wb : Wd B64 lb) (va : val B64 la = m) (vb : val B64 lb = n) (hK : la.length < 1099511627776) (hge : lb.length < la.length) :
    Calls Tryz.prog 189 #[.slice bo lb.length capb, .slice ao la.length capa] w (RetNat w (m + n)) := by
  have hmk := mk64 (la.length + 1) (la.length + 1) rfl hK w
  have hr0 : isRow (w.alloc (.cells (cellsOf .u64 (zeros (la.length + 1))) 71)) w.heap.size 71 .u64 (zeros (la.length + 1)) := isRow_alloc _ _ _ _
  have hb0 : Below w.heap.size w (w.alloc (.cells (cellsOf .u64 (zeros (la.length + 1))) 71)) := (Below.refl _ _).alloc (Nat.le_refl _) _
  generalize hW : w.alloc (.cells (cellsOf .u64 (zeros (la.length + 1))) 71) = W at *
  clear hW
  have hcp := copy64 (off := 0) (dLen := la.length + 1) (dCap := la.length + 1) (cap := capa) hr0 (sa.below hb0) (by omega) (by rw [zeros_len]; omega) 3
  rw [zeros_fill, Nat.add_sub_cancel_left] at hcp
  have hr1 : isRow (wput W w.heap.size .u64 (la ++ zeros 1)) w.heap.size 71 .u64 (la ++ zeros 1) := hr0.put _
  have hb1 : Below w.heap.size w (wput W w.heap.size .u64 (la ++ zeros 1)) := hb0.put (Nat.le_refl _) _ _
  generalize hW1 : wput W w.heap.size .u64 (la ++ zeros 1) = W1 at *
  clear hW1
  have hblk : lb ≠ [] → ∀ p, bo = some p → p.block ≠ w.heap.size := fun h p hp => by have := SlA.blk sb h p hp; omega
  have hcall := addTo_at (n := la.length + 1) (off := 0) (capa := la.length + 1) (capb := capb) (pre := []) (post := []) (a := la ++ zeros 1) (b := lb) (by simpa using hr1) (wa.append (zeros_wd (by decide) _)) wb (sb.below hb1) hblk (by simp; omega) (by simp [zeros]; omega) (by simp [zeros]) rfl rfl
  have H := Lib.hid hcall
  clear hcall hblk
  go_enter Tryz.func189, Tryz.ntmps189
  go_wp2_with fail
  refine H.out.mono ?_
  rintro e w2 ⟨cur, c, rfl, rfl, had⟩
  clear H
  simp only [List.nil_append, List.append_nil]
  have hlen : cur.length = la.length + 1 := by rw [had.len]; simp [zeros]
  have hr2 := hr1.put cur
  have hb2 := hb1.put (Nat.le_refl _) .u64 cur
  have hv := plus_val wa wb had (Nat.le_of_lt hge) va vb
  have hwd := had.wd
  have hs2 := hr2.sl (cap := la.length + 1) (by omega) (by omega)
  have htr := trim_at hs2 hlen
  have H := Lib.hid htr
  have HL := Lib.hid hlen
  clear htr had hlen
  go_wp2_with fail
  refine H.out.mono ?_
  rintro e w3 ⟨n', hn', rfl, rfl, hz, hvv⟩
  have HV := Lib.hid hvv
  have Hv := Lib.hid hv
  clear hvv hv H
  go_wp2_with fail
  go_ret
  refine ⟨_, rfl, ?_, hb2⟩
  have := NatV.mk hs2 hwd hn' hz
  rwa [HV.out, Hv.out] at this

theorem natv_len {w : World} {v : Value} {n K : Nat} (h : NatV w .u64 B64 v n) (hn : n < B64 ^ K) :
    ∃ ao cap l, v = .slice ao l.length cap ∧ SlA w .u64 ao cap l ∧ Wd B64 l ∧ Nz l ∧ val B64 l = n ∧ l.length ≤ K := by
  obtain ⟨ao, cap, l, e, hs, hw, hz, hv⟩ := h
  exact ⟨ao, cap, l, e, hs, hw, hz, hv, len_lt (by decide) hz hv hn⟩

/-- (natural).plus -/
theorem plus_any {va vb : Value} {m n K : Nat} {w : World} (ha : NatV w .u64 B64 va m) (hb : NatV w .u64 B64 vb n) (hK : K < 1099511627776) (hm : m < B64 ^ K) (hn : n < B64 ^ K) :
    Calls Tryz.prog 189 #[va, vb] w (RetNat w (m + n)) := by
  obtain ⟨ao, capa, la, rfl, sa, wa, _, ea, la'⟩ := natv_len ha hm
  obtain ⟨bo, capb, lb, rfl, sb, wb, _, eb, lb'⟩ := natv_len hb hn
  rcases Nat.lt_or_ge la.length lb.length with h | h
  · rw [Nat.add_comm]
    exact plus_lt bo ao capb capa lb la w n m sb sa wb wa eb ea (by omega) h
  · exact plus_ge ao bo capa capb la lb w m n sa sb wa wb ea eb (by omega) h
end Go.Proofs.YtekghemhccfhkaaGreatDoor
namespace Go.Proofs.YtekghemhccfhkaaGreatDoor
open Go.RowKit Go.Big
theorem trim_ret {w0 w : World} {ao : Option Addr} {cap : Nat} {l : List Nat} {n : Nat} (hs : SlA w .u64 ao cap l) (hw : Wd B64 l) (hv : val B64 l = n) (hb : Below w0.heap.size w0 w) {e : Ending} {w' : World}
    (h : TrimPost w ao cap l e w') : RetNat w0 n e w' := by
  obtain ⟨n', hn', rfl, rfl, hz, hvv⟩ := h
  refine ⟨_, rfl, ?_, hb⟩
  have := NatV.mk hs hw hn' hz
  rwa [hvv, hv] at this

set_option maxRecDepth 100000 in
set_option maxHeartbeats 400000 in
/-- fromWord -/
theorem fromWord_any (x : Nat) (hx : x < B64) (w : World) : Calls Tryz.prog 151 #[.int .u64 x] w (RetNat w x) := by
  have hr0 : isRow (w.alloc (.cells #[.int .u64 x] 71)) w.heap.size 71 .u64 [x] := isRow_alloc w 71 .u64 [x]
  have hb0 : Below w.heap.size w (w.alloc (.cells #[.int .u64 x] 71)) := (Below.refl _ _).alloc (Nat.le_refl _) _
  have hs := hr0.sl (cap := 1) (by simp) (by simp)
  have ht := trim_at (n := 1) hs rfl
  have H := Lib.hid ht
  clear ht
  go_enter Tryz.func151, Tryz.ntmps151
  go_wp2_with fail
  refine H.out.mono ?_
  intro e w1 ht
  have hret := trim_ret (n := x) hs (fun y hy => by simp at hy; omega) (by simp [val]) hb0 ht
  obtain ⟨v, rfl, hv, hb⟩ := hret
  clear H ht
  go_wp2_with fail
  go_ret
  exact ⟨v, rfl, hv, hb⟩
end Go.Proofs.YtekghemhccfhkaaGreatDoor
namespace Go.Big
open Go Go.RowKit
variable {P : Program}
/-- The address of 'a[k:]'. -/
def dropA (ao : Option Addr) (cap k : Nat) : Option Addr := if cap = k then ao else ao.map (·.add k)
theorem SlA.drop {w : World} {k : IntKind} {ao : Option Addr} {cap : Nat} {l : List Nat} (h : SlA w k ao cap l) (n : Nat) (hn : n ≤ l.length) : SlA w k (dropA ao cap n) (cap - n) (l.drop n) := by
  refine ⟨by have := h.le; rw [List.length_drop]; omega, by have := h.max; rw [List.length_drop]; omega, fun hl => ?_⟩
  have hlt : n < l.length := by
    rcases Nat.lt_or_ge n l.length with h1 | h1
    · exact h1
    · exact absurd (List.drop_eq_nil_of_le h1) hl
  obtain ⟨b, off, rfl, hb, hc⟩ := h.at hlt
  have hle := h.le
  have e : (⟨b, off, none⟩ : Addr).add n = ⟨b, off + n, none⟩ := by unfold Addr.add; split <;> simp_all
  refine ⟨b, off + n, ?_, hb, fun j hj => ?_⟩
  · simp only [dropA, Option.map_some, e]
    rw [if_neg (by omega)]
  · rw [List.length_drop] at hj
    rw [Nat.add_assoc, hc (n + j) (by omega), nth_drop']
theorem run_slice_from (t e : TypeId) (ht : P.underlying t = some (.slice e)) (hs : (P.info? e).map (·.size) = some 1) (ao : Option Addr) (n cap k : Nat) (h1 : k ≤ n) (w : World) :
    (Instr.slice t (.slice ao n cap) (some (.int .i64 (k : Int))) none none).run P w = .ok (.slice (dropA ao cap k) (n - k) (cap - k)) w := by
  have h0 : (0 : Int) ≤ k ∧ (k : Int) ≤ n := by omega
  have h2 : ¬ n < k := by omega
  cases hq : P.info? e with
  | none => rw [hq] at hs; cases hs
  | some i =>
    rw [hq] at hs
    have hs1 : i.size = 1 := by simpa using hs
    simp [Instr.slice, run_underlying ht, Instr.sliceBounds, Instr.sliceBound, asIntOf, h0, sizeOf, typeInfo, hq, hs1, dropA, h2]
theorem run_slice_to (t e : TypeId) (ht : P.underlying t = some (.slice e)) (hs : (P.info? e).map (·.size) = some 1) (ao : Option Addr) (n cap k : Nat) (h1 : k ≤ cap) (w : World) :
    (Instr.slice t (.slice ao n cap) none (some (.int .i64 (k : Int))) none).run P w = .ok (.slice ao k cap) w := by
  have h0 : (0 : Int) ≤ k ∧ (k : Int) ≤ cap := by omega
  have h2 : ¬ cap < k := by omega
  cases hq : P.info? e with
  | none => rw [hq] at hs; cases hs
  | some i =>
    have ha : ∀ a : Addr, a.add 0 = a := fun a => by simp [Addr.add]
    simp [Instr.slice, run_underlying ht, Instr.sliceBounds, Instr.sliceBound, asIntOf, h0, sizeOf, typeInfo, hq, h2, ha]
theorem val_div_pow {B : Nat} {l : List Nat} (h : Wd B l) (k : Nat) (hk : k ≤ l.length) : val B l / B ^ k = val B (l.drop k) := by
  rw [take_drop_val B l k hk]
  have := val_lt (h.take k)
  rw [List.length_take, Nat.min_eq_left hk] at this
  rw [Nat.add_mul_div_left _ _ (by omega), Nat.div_eq_of_lt this, Nat.zero_add]
theorem val_mod_pow {B : Nat} {l : List Nat} (h : Wd B l) (k : Nat) (hk : k ≤ l.length) : val B l % B ^ k = val B (l.take k) := by
  rw [take_drop_val B l k hk]
  have := val_lt (h.take k)
  rw [List.length_take, Nat.min_eq_left hk] at this
  rw [Nat.add_mul_mod_self_left, Nat.mod_eq_of_lt this]
theorem Nz.drop {l : List Nat} (h : Nz l) (k : Nat) : Nz (l.drop k) := by
  unfold Nz at *
  rw [List.getLast?_drop]
  split
  · simp
  · exact h
end Go.Big
namespace Go.Proofs.YtekghemhccfhkaaGreatDoor
open Go.RowKit Go.Big
theorem from64 (ao : Option Addr) (n cap k : Nat) (h1 : k ≤ n) (w : World) :
    (Instr.slice 108 (.slice ao n cap) (some (.int .i64 (k : Int))) none none).run Tryz.prog w = .ok (.slice (dropA ao cap k) (n - k) (cap - k)) w :=
  run_slice_from 108 71 Tryz.underlying108 (by kernel_rfl) ao n cap k h1 w

set_option maxRecDepth 100000 in
set_option maxHeartbeats 400000 in
/-- (natural).high -/
theorem high_any {va : Value} {m k : Nat} {w : World} (ha : NatV w .u64 B64 va m) (hk : k ≤ 1099511627776) :
    Calls Tryz.prog 209 #[va, .int .i64 k] w (RetNat w (m / B64 ^ k)) := by
  obtain ⟨ao, capa, la, rfl, sa, wa, na, ea⟩ := ha
  have hl := sa.len_le
  have hle := sa.le
  rcases Nat.lt_or_ge la.length k with h | h
  · have hsl := from64 ao la.length capa la.length (Nat.le_refl _)
    have hres : NatV w .u64 B64 (.slice (dropA ao capa la.length) (la.length - la.length) (capa - la.length)) (m / B64 ^ k) := by
      refine ⟨_, _, la.drop la.length, by rw [List.length_drop], sa.drop la.length (Nat.le_refl _), wa.drop _, na.drop _, ?_⟩
      rw [List.drop_length, Nat.div_eq_of_lt]; · rfl
      have := val_lt wa
      have h3 : B64 ^ la.length ≤ B64 ^ k := Nat.pow_le_pow_right (by decide) (Nat.le_of_lt h)
      omega
    rw [Nat.sub_self] at hres
    have H := Lib.hid hres
    clear hres ea
    go_enter Tryz.func209, Tryz.ntmps209
    go_wp2_with fail
    go_ret
    exact ⟨_, rfl, H.out, Below.refl _ _⟩
  · have hsl := from64 ao la.length capa k h
    have hres : NatV w .u64 B64 (.slice (dropA ao capa k) (la.length - k) (capa - k)) (m / B64 ^ k) := 
      ⟨_, _, la.drop k, by rw [List.length_drop], sa.drop k h, wa.drop k, na.drop k, by rw [← ea, val_div_pow wa k h]⟩
    have H := Lib.hid hres
    clear hres ea
    go_enter Tryz.func209, Tryz.ntmps209
    go_wp2_with fail
    go_ret
    exact ⟨_, rfl, H.out, Below.refl _ _⟩

set_option maxRecDepth 100000 in
set_option maxHeartbeats 400000 in
/-- (natural).low -/
theorem low_any {va : Value} {m k : Nat} {w : World} (ha : NatV w .u64 B64 va m) (hk : k ≤ 1099511627776) :
    Calls Tryz.prog 211 #[va, .int .i64 k] w (RetNat w (m % B64 ^ k)) := by
  obtain ⟨ao, capa, la, rfl, sa, wa, na, ea⟩ := ha
  have hl := sa.len_le
  have hle := sa.le
  have hsl : ∀ (q : Nat), q ≤ capa → ∀ w, (Instr.slice 108 (.slice ao la.length capa) none (some (.int .i64 (q : Int))) none).run Tryz.prog w = .ok (.slice ao q capa) w :=
    fun q h w => run_slice_to 108 71 Tryz.underlying108 (by kernel_rfl) ao la.length capa q h w
  rcases Nat.lt_or_ge la.length k with h | h
  · have hs1 := hsl la.length hle
    have ht := trim_at sa rfl
    have hv : val B64 la = m % B64 ^ k := by
      rw [Nat.mod_eq_of_lt, ea]
      have := val_lt wa
      have h3 : B64 ^ la.length ≤ B64 ^ k := Nat.pow_le_pow_right (by decide) (Nat.le_of_lt h)
      omega
    have H := Lib.hid ht
    have HV := Lib.hid hv
    clear ht ea hv hsl
    go_enter Tryz.func211, Tryz.ntmps211
    go_wp2_with fail
    refine H.out.mono ?_
    intro e w1 ht
    obtain ⟨v, rfl, hv, hb⟩ := trim_ret sa wa HV.out (Below.refl _ _) ht
    clear H ht
    go_wp2_with fail
    go_ret
    exact ⟨v, rfl, hv, hb⟩
  · have hs1 := hsl k (by omega)
    have hkl : (la.take k).length = k := by rw [List.length_take, Nat.min_eq_left h]
    have ht := trim_at (sa.take k) hkl
    have hv : val B64 (la.take k) = m % B64 ^ k := by rw [← ea, val_mod_pow wa k h]
    have H := Lib.hid ht
    have HV := Lib.hid hv
    clear ht ea hv hsl hkl
    go_enter Tryz.func211, Tryz.ntmps211
    go_wp2_with fail
    refine H.out.mono ?_
    intro e w1 ht
    obtain ⟨v, rfl, hv, hb⟩ := trim_ret (sa.take k) (wa.take k) HV.out (Below.refl _ _) ht
    clear H ht
    go_wp2_with fail
    go_ret
    exact ⟨v, rfl, hv, hb⟩
end Go.Proofs.YtekghemhccfhkaaGreatDoor
namespace Go.Big
open Go Go.RowKit
variable {P : Program}
theorem growBy_le (n : Nat) : ∀ (r c : Nat), Builtin.growBy n r c ≤ max c (n + (n + 768) / 4)
  | 0, c => by simp only [Builtin.growBy]; omega
  | r + 1, c => by
    unfold Builtin.growBy
    split
    · omega
    · have := growBy_le n r (c + (c + 768) / 4)
      omega
theorem nextcap_le (n c : Nat) (h : c ≤ n) : Builtin.nextslicecap n c ≤ 2 * n + 1024 := by
  unfold Builtin.nextslicecap
  split
  · omega
  · split
    · omega
    · have := growBy_le n 4 c
      omega
theorem run_firstCells (w : World) {k : IntKind} {ao : Option Addr} {cap : Nat} {l : List Nat} (h : SlA w k ao cap l) :
    (Builtin.firstCells 1 l.length (.slice ao l.length cap)).run P w = .ok (cellsOf k l) w := by
  rcases Nat.eq_zero_or_pos l.length with h0 | hpos
  · have : l = [] := List.eq_nil_of_length_eq_zero h0
    subst this
    cases ao with
    | none => exact run_firstCells_none (P := P) w 1 0 0 cap
    | some b => exact run_firstCells_some (P := P) w 1 0 b 0 cap [] rfl (by simp)
  · obtain ⟨b, o, rfl, _, hc⟩ := h.at hpos
    refine run_firstCells_some (P := P) w 1 l.length ⟨b, o, none⟩ l.length cap (l.map fun (n : Nat) => Value.int k (Int.ofNat n)) (by simp) ?_
    intro j v hj
    have hjl : j < l.length := by
      rcases Nat.lt_or_ge j l.length with h | h
      · exact h
      · simp [List.getElem?_eq_none h] at hj
    have e : (⟨b, o, none⟩ : Addr).add j = ⟨b, o + j, none⟩ := by unfold Addr.add; split <;> simp_all
    rw [e, hc j hjl]
    simp [hjl] at hj
    rw [← hj, nth_lt hjl]
theorem cells_append (k : IntKind) (a b : List Nat) : cellsOf k a ++ cellsOf k b = cellsOf k (a ++ b) := by
  unfold cellsOf
  rw [List.map_append, List.append_toArray]
theorem zeroCells_eq (k : IntKind) (n : Nat) : Builtin.zeroCells (Value.int k 0).cells n = cellsOf k (zeros n) := by
  apply Array.ext
  · simp [Builtin.zeroCells, cellsOf, zeros, Value.cells]
  · intro i h1 h2
    have e : i % 1 = 0 := Nat.mod_one i
    simp [Builtin.zeroCells, cellsOf, Value.cells, zeros, e]
theorem wpList_append_run {w : World} {ops : Array Oper} {rest : List Oper} {o : Oper} {a : Act} {Q : Exit → Act → World → Prop} (hg : o.guard = none) (s x : Operand) (t tx : TypeId)
    (hop : o.op = Op.call { callee := Callee.builtin Builtin.append, args := #[s, x], argTypes := #[t, tx] }) (vs vx : Value) (hs : a.eval s = vs) (hx : a.eval x = vx) (v : Value) (w' : World)
    (hrun : (Builtin.append_ #[t, tx] o.type #[vs, vx]).run P w = .ok v w') (h : wpList P ops Q rest (a.put o.dst v) w') : wpList P ops Q (o :: rest) a w := by
  refine wpList_plain hg fun K hK' => ?_
  unfold Oper.wp
  simp [execOp, hop, resolve, invoke, builtin, hs, hx, hrun, Result.andThen]
  exact hK' _ _ h
/-- 'append(s, make([]T, n)...)', s full. -/
theorem run_append_zeros (t tn ty e : TypeId) (kn : IntKind) (k : IntKind) (ht : P.underlying t = some (.slice e)) (htn : P.underlying tn = some (.int kn)) (bytes : Nat)
    (hi : (P.info? e).map (fun i => (i.zero, i.size, i.bytes)) = some (some (.int k 0), 1, bytes)) (hby : bytes ≤ 8)
    {w : World} {ao : Option Addr} {l : List Nat} {n : Nat} (hs : SlA w k ao l.length l) (h0 : 0 < n) (hn : l.length + n ≤ 1099511627776) :
    ∃ cap, l.length + n ≤ cap ∧ (Builtin.append_ #[t, tn] ty #[.slice ao l.length l.length, .int .i64 n]).run P w =
      .ok (.slice (some ⟨w.heap.size, 0, none⟩) (l.length + n) cap) (w.drew.alloc (.cells (cellsOf k (l ++ (zeros n ++ zeros (cap - (l.length + n))))) e)) := by
  obtain ⟨i, hi', hi⟩ : ∃ i, P.info? e = some i ∧ (i.zero, i.size, i.bytes) = (some (.int k 0), 1, bytes) := by
    cases hq : P.info? e with
    | none => rw [hq] at hi; cases hi
    | some i => rw [hq] at hi; exact ⟨i, rfl, by simpa using hi⟩
  simp only [Prod.mk.injEq] at hi
  have hb : i.bytes ≤ 8 := by omega
  have hnext : Builtin.nextslicecap (l.length + n) l.length ≤ 2 * (l.length + n) + 1024 := nextcap_le _ _ (by omega)
  have hold := run_firstCells (P := P) w.drew (l := l) (hs.below (below_drewN (Below.refl _ _) 1))
  have hol : (cellsOf k l) = (l.map fun (n : Nat) => Value.int k (Int.ofNat n)).toArray := rfl
  rw [hol] at hold
  have h63 : ((l.length + n : Nat) : Int) ≤ 9223372036854775807 := by omega
  have hn1 : n ≤ 1099511627776 := by omega
  have h48 : n * i.bytes ≤ 281474976710656 := by
    have h1 : n * i.bytes ≤ n * 8 := Nat.mul_le_mul_left _ hb
    omega
  have hfit : Builtin.nextslicecap (l.length + n) l.length * i.bytes ≤ 281474976710656 := by
    have h1 : Builtin.nextslicecap (l.length + n) l.length * i.bytes ≤ Builtin.nextslicecap (l.length + n) l.length * 8 := Nat.mul_le_mul_left _ hb
    omega
  have := Lib.run_append_grow_zeros (P := P) w t tn ty e i (.int k 0) .i64 kn ht htn hi' hi.1 ao l.length l.length (l.map fun (n : Nat) => Value.int k (Int.ofNat n)) (by rw [hi.2.1]; exact hold) n h0 (by omega) (by omega) h63 h48 hfit
  refine ⟨_, grownCap_ge w (l.length + n) l.length e, ?_⟩
  rw [this, ← hol, zeroCells_eq, zeroCells_eq, cells_append, cells_append, List.append_assoc]
end Go.Big
namespace Go.Proofs.YtekghemhccfhkaaGreatDoor
open Go.RowKit Go.Big
/-- A slice comes back that reads l. -/
def RetSl (w : World) (l : List Nat) (n : Nat) (e : Ending) (w' : World) : Prop := ∃ ao cap, e = .returned (.slice ao n cap) ∧ SlA w' .u64 ao cap l ∧ Below w.heap.size w w'
set_option maxRecDepth 100000 in
set_option maxHeartbeats 400000 in
theorem clip_any (ao : Option Addr) (n cap : Nat) (h : n ≤ cap) (w : World) : Calls Tryz.prog 227 #[.slice ao n cap] w fun e w' => e = .returned (.slice ao n n) ∧ w' = w := by
  have hsl : (Instr.slice 108 (.slice ao n cap) none (some (.int .i64 (n : Int))) (some (.int .i64 (n : Int)))).run Tryz.prog w = .ok (.slice ao n n) w := by
    have ha : ∀ a : Addr, a.add 0 = a := fun a => by simp [Addr.add]
    have hq : (Tryz.prog.info? 71).map (·.size) = some 1 := by kernel_rfl
    cases hi : Tryz.prog.info? 71 with
    | none => rw [hi] at hq; cases hq
    | some i => simp [Instr.slice, run_underlying Tryz.underlying108, Instr.sliceBounds, Instr.sliceBound, asIntOf, h, sizeOf, typeInfo, hi, ha]
  go_enter Tryz.func227, Tryz.ntmps227
  go_wp2_with fail
  go_ret
  exact ⟨rfl, rfl⟩
set_option maxRecDepth 100000 in
set_option maxHeartbeats 400000 in
/-- widen -/
theorem widen_any {ao : Option Addr} {cap n size : Nat} {l : List Nat} {w : World} (sa : SlA w .u64 ao cap l) (hn : l.length = n) (hs : n ≤ size) (hK : size ≤ 1099511627776) :
    Calls Tryz.prog 221 #[.slice ao n cap, .int .i64 size] w (RetSl w (l ++ zeros (size - n)) size) := by
  subst hn
  by_cases he : l.length = size
  · have hz : l ++ zeros (size - l.length) = l := by rw [he, Nat.sub_self]; simp [zeros]
    rw [hz]
    have he' : ((l.length : Int) == (size : Int)) = true := by rw [beq_iff_eq]; omega
    have SA := Lib.hid sa
    have HE0 := Lib.hid he
    clear hz he hs sa
    go_enter Tryz.func221, Tryz.ntmps221
    go_wp2_with fail
    go_ret
    exact ⟨ao, cap, by rw [← HE0.out]; rfl, SA.out, Below.refl _ _⟩
  · have he' : ((l.length : Int) == (size : Int)) = false := by rw [beq_eq_false_iff_ne]; omega
    obtain ⟨m, hm⟩ : ∃ m, size = l.length + m := ⟨size - l.length, by omega⟩
    have hd : (size : Int) - (l.length : Int) = (m : Int) := by omega
    have hz : l ++ zeros (size - l.length) = l ++ zeros m := by congr 2; omega
    rw [hz]
    have hcl := clip_any ao l.length cap sa.le w
    have ss : SlA w .u64 ao l.length l := ⟨Nat.le_refl _, sa.max, sa.cells⟩
    obtain ⟨c2, hc2, hap⟩ := run_append_zeros (P := Tryz.prog) 108 3 108 71 .i64 .u64 Tryz.underlying108 Tryz.underlying3 8 (by kernel_rfl) (by decide) ss (n := m) (by omega) (by omega)
    have hr := isRow_alloc w.drew 71 .u64 (l ++ (zeros m ++ zeros (c2 - (l.length + m))))
    have hb : Below w.heap.size w (w.drew.alloc (.cells (cellsOf .u64 (l ++ (zeros m ++ zeros (c2 - (l.length + m))))) 71)) := ((Below.refl _ _).drew).alloc (Nat.le_refl _) _
    have hsl : SlA (w.drew.alloc (.cells (cellsOf .u64 (l ++ (zeros m ++ zeros (c2 - (l.length + m))))) 71)) .u64 (some ⟨w.heap.size, 0, none⟩) c2 (l ++ zeros m) := by
      have := isRow.seg (pre := []) (seg := l ++ zeros m) (post := zeros (c2 - (l.length + m))) (cap := c2) (by rw [List.nil_append, List.append_assoc]; exact hr) (by simp [zeros]; omega) (by simp [zeros]; omega)
      exact this
    generalize w.drew.alloc (.cells (cellsOf .u64 (l ++ (zeros m ++ zeros (c2 - (l.length + m))))) 71) = W at *
    have HC := Lib.hid hcl
    have HS := Lib.hid hsl
    have hlen : l.length + m = size := hm.symm
    have HL := Lib.hid hlen
    clear hcl hsl hz he hs hm hr ss sa hlen
    go_enter Tryz.func221, Tryz.ntmps221
    go_wp2_with fail
    refine HC.out.mono ?_
    rintro e w1 ⟨rfl, rfl⟩
    have HAP := Lib.hid hap
    clear hap
    go_wp2_with (at_builtin; refine wpList_append_run rfl (.tmp 11) (.tmp 15) 108 3 rfl _ _ rfl rfl _ _ HAP.out ?_)
    go_ret
    exact ⟨_, c2, by rw [← HL.out]; rfl, HS.out, hb⟩
end Go.Proofs.YtekghemhccfhkaaGreatDoor
namespace Go.Proofs.YtekghemhccfhkaaGreatDoor
open Go.RowKit Go.Big
/-- append of one word, in place. -/
theorem run_append1 {w : World} {g cap c m : Nat} {A post : List Nat} {x : Nat} {a : Addr} {ty : TypeId} (hg : isRow w g 71 .u64 (A ++ x :: post)) (ha : w.cell? a = some (.int .u64 (c : Int))) (hroom : A.length + 1 ≤ cap) :
    (Builtin.append_ #[108, 108] ty #[.slice (some ⟨g, 0, none⟩) A.length cap, .slice (some a) 1 m]).run Tryz.prog w = .ok (.slice (some ⟨g, 0, none⟩) (A.length + 1) cap) (wput w g .u64 (A ++ c :: post)) := by
  have hq : (Tryz.prog.info? 71).map (·.size) = some 1 := by kernel_rfl
  obtain ⟨i, hi, hs⟩ : ∃ i, Tryz.prog.info? 71 = some i ∧ i.size = 1 := by
    cases h : Tryz.prog.info? 71 with
    | none => rw [h] at hq; cases hq
    | some i => rw [h] at hq; exact ⟨i, rfl, by simpa using hq⟩
  have hadd : a.add 0 = a := by simp [Addr.add]
  have hc0 := hg.cell (i := A.length) (by simp)
  have hf0 := hg.frozen A.length
  have := run_append_room_cells (P := Tryz.prog) (w := w) 108 ty 71 i Tryz.underlying108 hi g 0 A.length cap a 1 m [.int .u64 (c : Int)] (by simp [hs])
    (fun j u hj => by
      cases j with
      | zero => simp at hj; rw [hadd, ha, hj]
      | succ j => simp at hj)
    (fun u hu => by simp at hu; subst hu; rfl) hroom
    (fun j hj => by
      have : j = 0 := by simpa using hj
      subst this
      simp only [hs, Nat.mul_one, Nat.zero_add, Nat.add_zero, hc0, Option.isSome_some])
    (fun j hj => by
      have : j = 0 := by simpa using hj
      subst this
      simpa [hs] using hf0)
  rw [this]
  have e : w.setCell ⟨g, A.length, none⟩ (.int .u64 (c : Int)) = wput w g .u64 (A ++ c :: post) := by
    have h1 := put_store hg (A ++ x :: post) A.length c
    have hl : (A ++ x :: post).set A.length c = A ++ c :: post := by rw [List.set_append_right _ _ (Nat.le_refl _), Nat.sub_self]; rfl
    rw [hl, put_self hg] at h1
    exact h1
  simp [World.setCells, hs, e]
end Go.Proofs.YtekghemhccfhkaaGreatDoor
namespace Go.Big
/-- The order of two integers as cmp.Compare tells it. -/
def cmpInt (x y : Int) : Int := if x < y then -1 else if y < x then 1 else 0
end Go.Big
namespace Go.Proofs.YtekghemhccfhkaaGreatDoor
open Go.RowKit Go.Big
set_option maxRecDepth 100000 in
theorem cmp_u64 (x y : Int) (w : World) : Calls Tryz.prog 192 #[.int .u64 x, .int .u64 y] w fun e w' => e = .returned (.int .i64 (cmpInt x y)) ∧ w' = w := by
  rcases Int.lt_trichotomy x y with h | h | h
  · have e1 : cmpInt x y = -1 := by simp [cmpInt, h]
    rw [e1]; clear e1
    go_enter Tryz.func192, Tryz.ntmps192
    go_wp2
    go_ret
    exact ⟨rfl, rfl⟩
  · subst h
    have e1 : cmpInt x x = 0 := by simp [cmpInt]
    rw [e1]; clear e1
    go_enter Tryz.func192, Tryz.ntmps192
    go_wp2
    go_ret
    exact ⟨rfl, rfl⟩
  · have e1 : cmpInt x y = 1 := by simp [cmpInt, h]; omega
    rw [e1]; clear e1
    have h2 : ¬ x < y := by omega
    go_enter Tryz.func192, Tryz.ntmps192
    go_wp2
    go_ret
    exact ⟨rfl, rfl⟩
set_option maxRecDepth 100000 in
theorem cmp_i64 (x y : Int) (w : World) : Calls Tryz.prog 153 #[.int .i64 x, .int .i64 y] w fun e w' => e = .returned (.int .i64 (cmpInt x y)) ∧ w' = w := by
  rcases Int.lt_trichotomy x y with h | h | h
  · have e1 : cmpInt x y = -1 := by simp [cmpInt, h]
    rw [e1]; clear e1
    go_enter Tryz.func153, Tryz.ntmps153
    go_wp2
    go_ret
    exact ⟨rfl, rfl⟩
  · subst h
    have e1 : cmpInt x x = 0 := by simp [cmpInt]
    rw [e1]; clear e1
    go_enter Tryz.func153, Tryz.ntmps153
    go_wp2
    go_ret
    exact ⟨rfl, rfl⟩
  · have e1 : cmpInt x y = 1 := by simp [cmpInt, h]; omega
    rw [e1]; clear e1
    have h2 : ¬ x < y := by omega
    go_enter Tryz.func153, Tryz.ntmps153
    go_wp2
    go_ret
    exact ⟨rfl, rfl⟩
set_option maxRecDepth 100000 in
theorem cmp_int (x y : Int) (w : World) : Calls Tryz.prog 154 #[.int .i64 x, .int .i64 y] w fun e w' => e = .returned (.int .i64 (cmpInt x y)) ∧ w' = w := by
  rcases Int.lt_trichotomy x y with h | h | h
  · have e1 : cmpInt x y = -1 := by simp [cmpInt, h]
    rw [e1]; clear e1
    go_enter Tryz.func154, Tryz.ntmps154
    go_wp2
    go_ret
    exact ⟨rfl, rfl⟩
  · subst h
    have e1 : cmpInt x x = 0 := by simp [cmpInt]
    rw [e1]; clear e1
    go_enter Tryz.func154, Tryz.ntmps154
    go_wp2
    go_ret
    exact ⟨rfl, rfl⟩
  · have e1 : cmpInt x y = 1 := by simp [cmpInt, h]; omega
    rw [e1]; clear e1
    have h2 : ¬ x < y := by omega
    go_enter Tryz.func154, Tryz.ntmps154
    go_wp2
    go_ret
    exact ⟨rfl, rfl⟩
theorem cmp_u64_at {x y v : Int} (h : cmpInt x y = v) (w : World) : Calls Tryz.prog 192 #[.int .u64 x, .int .u64 y] w fun e w' => e = .returned (.int .i64 v) ∧ w' = w := by
  subst h; exact cmp_u64 x y w
theorem cmp_i64_at {x y v : Int} (h : cmpInt x y = v) (w : World) : Calls Tryz.prog 153 #[.int .i64 x, .int .i64 y] w fun e w' => e = .returned (.int .i64 v) ∧ w' = w := by
  subst h; exact cmp_i64 x y w
theorem cmp_int_at {x y v : Int} (h : cmpInt x y = v) (w : World) : Calls Tryz.prog 154 #[.int .i64 x, .int .i64 y] w fun e w' => e = .returned (.int .i64 v) ∧ w' = w := by
  subst h; exact cmp_int x y w
end Go.Proofs.YtekghemhccfhkaaGreatDoor
namespace Go.Proofs.YtekghemhccfhkaaGreatDoor
open Go.RowKit Go.Big
def RetCmp (w : World) (m n : Nat) (e : Ending) (w' : World) : Prop := e = .returned (.int .i64 (cmpInt m n)) ∧ Below w.heap.size w w'

theorem cmpInt_lt {m n : Int} (h : m < n) : cmpInt m n = -1 := by simp [cmpInt, h]
theorem cmpInt_gt {m n : Int} (h : n < m) : cmpInt m n = 1 := by simp [cmpInt, h]; omega
theorem cmpInt_eq (m : Int) : cmpInt m m = 0 := by simp [cmpInt]

set_option maxRecDepth 100000 in
set_option maxHeartbeats 2000000 in
/-- (natural).compare -/
theorem compare_any {va vb : Value} {m n : Nat} {w : World} (ha : NatV w .u64 B64 va m) (hb : NatV w .u64 B64 vb n) :
    Calls Tryz.prog 155 #[va, vb] w (RetCmp w m n) := by
  obtain ⟨ao, capa, la, rfl, sa, wa, na, ea⟩ := ha
  obtain ⟨bo, capb, lb, rfl, sb, wb, nb, eb⟩ := hb
  have la' := sa.len_le
  have lb' := sb.len_le
  rcases Nat.lt_trichotomy la.length lb.length with h | h | h
  · have hc := cmp_int la.length lb.length w
    rw [cmpInt_lt (by omega)] at hc
    have hv : cmpInt m n = -1 := cmpInt_lt (by have := val_lt_of_len (B := B64) (by decide) wa nb h; omega)
    have H := Lib.hid hc; have HV := Lib.hid hv
    clear hc hv ea eb
    go_enter Tryz.func155, Tryz.ntmps155
    go_wp2_with fail
    refine H.out.mono ?_
    rintro e w1 ⟨rfl, rfl⟩
    go_wp2_with fail
    go_ret
    exact ⟨ret_i HV.out.symm, Below.refl _ _⟩
  · have hc := cmp_int la.length lb.length w
    rw [← h, cmpInt_eq] at hc
    have H := Lib.hid hc; have HL := Lib.hid h
    clear hc
    rw [← h]
    clear h
    go_enter Tryz.func155, Tryz.ntmps155
    go_wp2_with fail
    refine H.out.mono ?_
    rintro e w1 ⟨rfl, rfl⟩
    have HA := Lib.hid ea
    have HB := Lib.hid eb
    clear ea eb H
    go_wp2_with fail
    go_loopw [6] (fun i wr => ∃ k : Nat, k ≤ la.length ∧ i = .int .i64 ((k : Int) - 1) ∧ la.drop k = lb.drop k ∧ Below w1.heap.size w1 wr) (fun i _ => (intOf i + 1).toNat)
    case atStart => exact ⟨la.length, Nat.le_refl _, rfl, by rw [List.drop_length, HL.out, List.drop_length], Below.refl _ _⟩
    case round =>
      obtain ⟨k, hk, rfl, hd, hbel⟩ := hrel
      have HD := Lib.hid hd
      clear hd
      rcases Nat.eq_zero_or_pos k with hk0 | hpos
      · subst hk0
        go_wp2_with fail
        go_ret
        have hab : la = lb := by have := HD.out; simpa using this
        exact ⟨ret_i (by rw [← HA.out, ← HB.out, hab, cmpInt_eq]), hbel⟩
      · obtain ⟨i, rfl⟩ : ∃ i, k = i + 1 := ⟨k - 1, by omega⟩
        obtain ⟨ba, offa, rfl, hba, hca⟩ := sa.at (i := i) (by omega)
        obtain ⟨bb, offb, rfl, hbb, hcb⟩ := sb.at (i := i) (by have := HL.out; omega)
        have ca := (hbel.cell (p := ⟨ba, offa + i, none⟩) hba).trans (hca i (by omega))
        have cb := (hbel.cell (p := ⟨bb, offb + i, none⟩) hbb).trans (hcb i (by have := HL.out; omega))
        have e1 : (((i + 1 : Nat) : Int) - 1) = i := by omega
        rw [e1]
        have SA := Lib.hid sa
        have SB := Lib.hid sb
        clear e1 hca hcb hba hbb sa sb hpos
        go_wp2_with fail
        rcases Nat.lt_trichotomy (nth la i) (nth lb i) with hx | hx | hx
        · have hv : cmpInt m n = -1 := by
            refine cmpInt_lt ?_
            have := val_cmp wa HL.out (i := i) (by omega) HD.out (by rw [← nth_lt, ← nth_lt]; exact hx)
            rw [← HA.out, ← HB.out]; omega
          have HV := Lib.hid hv
          have hc := fun w => cmp_u64_at (cmpInt_lt (m := nth la i) (n := nth lb i) (by omega)) w
          have H := Lib.hid hc
          clear hv hc hx
          go_quiet ((go_at_call 192; exact Calls.quiet_of_same (H.out _)))
          go_wp2_with fail
          go_ret
          exact ⟨ret_i HV.out.symm, below_drewN hbel _⟩
        · have hc := fun w => cmp_u64_at (x := nth la i) (y := nth lb i) (v := 0) (by rw [hx, cmpInt_eq]) w
          have H := Lib.hid hc
          have HX := Lib.hid hx
          clear hc hx
          go_quiet ((go_at_call 192; exact Calls.quiet_of_same (H.out _)))
          go_wp2_with fail
          go_roundw
          case rel => exact ⟨i, by omega, rfl, by rw [List.drop_eq_getElem_cons (l := la) (by omega), List.drop_eq_getElem_cons (l := lb) (by have := HL.out; omega), HD.out, ← nth_lt, ← nth_lt, HX.out], below_drewN hbel _⟩
          case measure => simp [intOf]
        · have hv : cmpInt m n = 1 := by
            refine cmpInt_gt ?_
            have hlt : i < lb.length := by have := HL.out; omega
            have := val_cmp wb HL.out.symm (i := i) hlt HD.out.symm (by rw [← nth_lt, ← nth_lt]; exact hx)
            rw [← HA.out, ← HB.out]; omega
          have HV := Lib.hid hv
          have hc := fun w => cmp_u64_at (cmpInt_gt (m := nth la i) (n := nth lb i) (by omega)) w
          have H := Lib.hid hc
          clear hv hc hx
          go_quiet ((go_at_call 192; exact Calls.quiet_of_same (H.out _)))
          go_wp2_with fail
          go_ret
          exact ⟨ret_i HV.out.symm, below_drewN hbel _⟩
  · have hc := cmp_int_at (cmpInt_gt (m := la.length) (n := lb.length) (by omega)) w
    have hv : cmpInt m n = 1 := cmpInt_gt (by have := val_lt_of_len (B := B64) (by decide) wb na h; omega)
    have H := Lib.hid hc; have HV := Lib.hid hv
    clear hc hv ea eb
    go_enter Tryz.func155, Tryz.ntmps155
    go_wp2_with fail
    refine H.out.mono ?_
    rintro e w1 ⟨rfl, rfl⟩
    go_wp2_with fail
    go_ret
    exact ⟨ret_i HV.out.symm, Below.refl _ _⟩
end Go.Proofs.YtekghemhccfhkaaGreatDoor
