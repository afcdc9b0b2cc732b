/-
  Walks of the program's functions: NMulM, NCmp.
-/
import Derived.Test.YtekghemhccfhkaaGreatDoorB04
import Derived.Test.YtekghemhccfhkaaGreatDoorB42
import Derived.Test.YtekghemhccfhkaaGreatDoorB12
import Derived.Deep.QuietTactic
import Derived.BigQuiet
namespace Go.Proofs.YtekghemhccfhkaaGreatDoor
open Go.RowKit Go.Big
theorem wrapN {x : Int} {n : Nat} (h : n < 18446744073709551616) (e : x = n) : IntKind.u64.wrap x = n := by
  rw [e, wrap_nat, Nat.mod_eq_of_lt h]
theorem mac32 {c x y o : Nat} (hc : c < 4294967296) (hx : x < 4294967296) (hy : y < 4294967296) (ho : o < 4294967296) :
    IntKind.u64.wrap ((c : Int) + IntKind.u64.wrap (IntKind.u64.wrap (IntKind.u64.wrap (x : Int) * IntKind.u64.wrap (y : Int)) + IntKind.u64.wrap (o : Int))) = ((c + (x * y + o) : Nat) : Int) := by
  have h1 : x * y ≤ 4294967295 * 4294967295 := Nat.mul_le_mul (by omega) (by omega)
  have e1 : IntKind.u64.wrap (x : Int) = (x : Nat) := wrapN (by omega) rfl
  have e2 : IntKind.u64.wrap (y : Int) = (y : Nat) := wrapN (by omega) rfl
  have e3 : IntKind.u64.wrap (o : Int) = (o : Nat) := wrapN (by omega) rfl
  have e4 : IntKind.u64.wrap ((x : Int) * (y : Int)) = ((x * y : Nat) : Int) := wrapN (by omega) (by rw [Int.natCast_mul])
  rw [e1, e2, e3, e4]
  generalize x * y = z at *
  have e5 : IntKind.u64.wrap ((z : Int) + (o : Int)) = ((z + o : Nat) : Int) := wrapN (by omega) (by omega)
  rw [e5]
  exact wrapN (by omega) (by omega)
set_option maxRecDepth 100000 in
set_option maxHeartbeats 1000000 in
theorem mulMag_core (ao bo : Option Addr) (capa capb : Nat) (la lb : List Nat) (w : World) (sa : SlA w .u32 ao capa la) (sb : SlA w .u32 bo capb lb)
    (wa : Wd B32 la) (wb : Wd B32 lb) (ha0 : la.length ≠ 0) (hb0' : lb.length ≠ 0) (hK : la.length + lb.length ≤ 1099511627776) :
    Calls Tryz.prog 117 #[.slice ao la.length capa, .slice bo lb.length capb] w (RetMag w (val B32 la * val B32 lb)) := by
  have hmk := mk32 (la.length + lb.length) (la.length + lb.length) rfl (by omega) w
  have hr0 : isRow (w.alloc (.cells (cellsOf .u32 (zeros (la.length + lb.length))) 73)) w.heap.size 73 .u32 (zeros (la.length + lb.length)) := isRow_alloc _ _ _ _
  have hb0 : Below w.heap.size w (w.alloc (.cells (cellsOf .u32 (zeros (la.length + lb.length))) 73)) := (Below.refl _ _).alloc (Nat.le_refl _) _
  generalize hW : w.alloc (.cells (cellsOf .u32 (zeros (la.length + lb.length))) 73) = W at *
  have HR := Lib.hid hr0
  clear hW hr0
  have h1 : ((la.length : Int) == 0) = false := by rw [beq_eq_false_iff_ne]; omega
  have h2 : ((lb.length : Int) == 0) = false := by rw [beq_eq_false_iff_ne]; omega
  go_enter Tryz.func117, Tryz.ntmps117
  go_wp2_with fail
  go_loopw [6] (fun i wr => ∃ (k : Nat) (cur : List Nat), k ≤ la.length ∧ i = .int .i64 k ∧ NMul B32 la lb k cur ∧ isRow wr w.heap.size 73 .u32 cur ∧ Below w.heap.size w wr)
    (fun i _ => la.length - (intOf i).toNat)
  case atStart => exact ⟨0, _, Nat.zero_le _, rfl, NMul.start (by decide) la lb, HR.out, hb0⟩
  case round =>
    clear hb0 HR
    obtain ⟨i, s0, hi, rfl, hmul, hr, hb⟩ := hrel
    have hl := hmul.len
    by_cases hlt : i < la.length
    · have HM := Lib.hid hmul
      go_wp2_with fail
      go_loopw [7, 8] (fun c i' wr' => ∃ (k cn : Nat) (cur : List Nat), k ≤ lb.length ∧ i' = .int .i64 k ∧ c = .int .u64 cn ∧ NMac B32 s0 lb (nth la i) i k cur cn ∧ isRow wr' w.heap.size 73 .u32 cur ∧ Below w.heap.size w wr')
        (fun _ i' _ => lb.length - (intOf i').toNat)
      case atStart => exact ⟨0, 0, s0, Nat.zero_le _, rfl, rfl, NMac.start (by decide) hmul.wd lb (nth la i) i, hr, hb⟩
      case round =>
        clear hr hb hmul
        obtain ⟨k, cn, cur, hk, rfl, rfl, hinv, hr, hb⟩ := hrel
        have hl2 := hinv.len
        have hc : cn < 4294967296 := hinv.carry
        by_cases hltk : k < lb.length
        · obtain ⟨ba, offa, rfl, hba, hca⟩ := sa.at hlt
          have ca := (hb.cell (p := ⟨ba, offa + i, none⟩) hba).trans (hca i hlt)
          obtain ⟨bb, offb, rfl, hbb, hcb⟩ := sb.at hltk
          have cb := (hb.cell (p := ⟨bb, offb + k, none⟩) hbb).trans (hcb k hltk)
          have c0 := hr.cell (i := i + k) (by omega)
          have f0 := hr.frozen (i + k)
          have e := mac32 hc (wa.nth hlt) (wb.nth hltk) (hinv.wd.nth (i := i + k) (by omega))
          have HE := Lib.hid e
          have HN := Lib.hid (hinv.step (by decide) wb (wa.nth hlt) (by omega))
          have HR := Lib.hid hr
          have HB := Lib.hid hb
          have hi1 : (i : Int) < (la.length : Int) := by omega
          have hk1 : (k : Int) < (lb.length : Int) := by omega
          clear hca hcb hba hbb e hinv hr hb
          go_wp2_with fail
          go_quiet (fail)
          go_wp2_with fail
          go_roundw
          case rel =>
            rw [HE.out]
            exact ⟨k + 1, _, _, by omega, by go_num, rfl, HN.out, ((HR.out.drewN _).storeRow (i + k) _), (below_drewN HB.out _).setCell (Nat.le_refl _) _⟩
          case measure => simp [intOf]; omega
        · have hkl : k = lb.length := by omega
          subst hkl
          have hst := HM.out.step hlt hinv
          have c0 := hr.cell (i := i + lb.length) (by omega)
          have f0 := hr.frozen (i + lb.length)
          have ew : (cn : Int) % 4294967296 = cn := by omega
          have HN := Lib.hid hst
          have HR := Lib.hid hr
          have HB := Lib.hid hb
          clear hst hinv hr hb
          go_wp2_with fail
          go_roundw
          case rel => exact ⟨i + 1, _, by omega, by go_num, HN.out, HR.out.storeRow (i + lb.length) _, HB.out.setCell (Nat.le_refl _) _⟩
          case measure => simp [intOf]; omega
    · have hil : i = la.length := by omega
      subst hil
      have hv := hmul.eq
      rw [List.take_length] at hv
      have hw := hmul.wd
      have hs2 := hr.sl (cap := la.length + lb.length) (by rw [hl]; exact Nat.le_refl _) (by rw [hl]; omega)
      have htr := ntrim_at hs2 hl
      have H := Lib.hid htr
      have HD := Lib.hid hv
      have HS := Lib.hid hs2
      have HBB := Lib.hid hb
      have HW := Lib.hid hw
      clear htr hv hs2 hb hr hw hl hmul
      go_wp2_with fail
      refine H.out.mono ?_
      intro e w1 ht
      have hret := ntrim_ret HS.out HW.out HD.out HBB.out ht
      obtain ⟨v, rfl, hv, hb⟩ := hret
      clear H ht
      go_wp2_with fail
      go_ret
      exact ⟨v, rfl, hv, hb⟩
set_option maxRecDepth 100000 in
set_option maxHeartbeats 1000000 in
theorem mulMag_zero {va vb : Value} {m n : Nat} {w : World} (ha : NatV w .u32 B32 va m) (hb : NatV w .u32 B32 vb n) (h : m = 0 ∨ n = 0) :
    Calls Tryz.prog 117 #[va, vb] w (RetMag w 0) := by
  obtain ⟨ao, capa, la, rfl, sa, wa, na, ea⟩ := ha
  obtain ⟨bo, capb, lb, rfl, sb, wb, nb, eb⟩ := hb
  have H0 : RetMag w 0 (.returned (.slice none 0 0)) w := ⟨_, rfl, ⟨none, 0, [], rfl, SlA.nil _ _ _ _, by intro x hx; simp at hx, Nz_nil, rfl⟩, Below.refl _ _⟩
  have HH := Lib.hid H0
  have la' := sa.len_le
  have lb' := sb.len_le
  clear H0
  by_cases ha : la.length = 0
  · have h1 : ((la.length : Int) == 0) = true := by rw [beq_iff_eq]; omega
    go_enter Tryz.func117, Tryz.ntmps117
    go_wp2_with fail
    go_ret
    exact HH.out
  · have h1 : ((la.length : Int) == 0) = false := by rw [beq_eq_false_iff_ne]; omega
    have hm : m ≠ 0 := by
      rw [← ea]; intro e
      have := (val_zero_iff (B := B32) (by decide) na).1 e
      rw [this] at ha; exact ha rfl
    have hn : n = 0 := by rcases h with h | h; exact absurd h hm; exact h
    have hb0 : lb.length = 0 := by
      rw [← eb] at hn
      rw [(val_zero_iff (B := B32) (by decide) nb).1 hn]; rfl
    have h2 : ((lb.length : Int) == 0) = true := by rw [beq_iff_eq]; omega
    go_enter Tryz.func117, Tryz.ntmps117
    go_wp2_with fail
    go_ret
    exact HH.out
/-- mulMag -/
theorem mulMag_any {va vb : Value} {m n K : Nat} {w : World} (ha : NatV w .u32 B32 va m) (hb : NatV w .u32 B32 vb n) (hK : K < 549755813888) (hm : m < B32 ^ K) (hn : n < B32 ^ K) :
    Calls Tryz.prog 117 #[va, vb] w (RetMag w (m * n)) := by
  by_cases h : m = 0 ∨ n = 0
  · have := mulMag_zero ha hb h
    rcases h with rfl | rfl
    · rw [Nat.zero_mul]; exact this
    · rw [Nat.mul_zero]; exact this
  · obtain ⟨ao, capa, la, rfl, sa, wa, _, ea, la'⟩ := nmag_len ha hm
    obtain ⟨bo, capb, lb, rfl, sb, wb, _, eb, lb'⟩ := nmag_len hb hn
    rw [← ea, ← eb]
    refine mulMag_core ao bo capa capb la lb w sa sb wa wb ?_ ?_ (by omega)
    · intro e; exact h (.inl (by rw [← ea, List.eq_nil_of_length_eq_zero e]; rfl))
    · intro e; exact h (.inr (by rw [← eb, List.eq_nil_of_length_eq_zero e]; rfl))
end Go.Proofs.YtekghemhccfhkaaGreatDoor
namespace Go.Proofs.YtekghemhccfhkaaGreatDoor
open Go.RowKit Go.Big
set_option maxRecDepth 100000 in
set_option maxHeartbeats 1000000 in
/-- cmpMag -/
theorem cmpMag_any {va vb : Value} {m n : Nat} {w : World} (ha : NatV w .u32 B32 va m) (hb : NatV w .u32 B32 vb n) :
    Calls Tryz.prog 118 #[va, vb] w (RetCmp w m n) := by
  obtain ⟨ao, capa, la, rfl, sa, wa, na, ea⟩ := ha
  obtain ⟨bo, capb, lb, rfl, sb, wb, nb, eb⟩ := hb
  have la' := sa.len_le
  have lb' := sb.len_le
  rcases Nat.lt_trichotomy la.length lb.length with h | h | h
  · have hv : cmpInt m n = -1 := cmpInt_lt (by have := val_lt_of_len (B := B32) (by decide) wa nb h; omega)
    have HV := Lib.hid hv
    have h1 : ((la.length : Int) != (lb.length : Int)) = true := by rw [bne_iff_ne]; omega
    clear hv ea eb
    go_enter Tryz.func118, Tryz.ntmps118
    go_wp2_with fail
    go_ret
    exact ⟨ret_i HV.out.symm, Below.refl _ _⟩
  · have HL := Lib.hid h
    have HA := Lib.hid ea
    have HB := Lib.hid eb
    rw [← h]
    clear h ea eb
    go_enter Tryz.func118, Tryz.ntmps118
    go_wp2_with fail
    go_loopw [5] (fun i wr => ∃ k : Nat, k ≤ la.length ∧ i = .int .i64 ((k : Int) - 1) ∧ la.drop k = lb.drop k ∧ Below w.heap.size w wr) (fun i _ => (intOf i + 1).toNat)
    case atStart => exact ⟨la.length, Nat.le_refl _, rfl, by rw [List.drop_length, HL.out, List.drop_length], Below.refl _ _⟩
    case round =>
      obtain ⟨k, hk, rfl, hd, hbel⟩ := hrel
      have HD := Lib.hid hd
      clear hd
      rcases Nat.eq_zero_or_pos k with hk0 | hpos
      · subst hk0
        go_wp2_with fail
        go_ret
        have hab : la = lb := by have := HD.out; simpa using this
        exact ⟨ret_i (by rw [← HA.out, ← HB.out, hab, cmpInt_eq]), hbel⟩
      · obtain ⟨i, rfl⟩ : ∃ i, k = i + 1 := ⟨k - 1, by omega⟩
        obtain ⟨ba, offa, rfl, hba, hca⟩ := sa.at (i := i) (by omega)
        obtain ⟨bb, offb, rfl, hbb, hcb⟩ := sb.at (i := i) (by have := HL.out; omega)
        have ca := (hbel.cell (p := ⟨ba, offa + i, none⟩) hba).trans (hca i (by omega))
        have cb := (hbel.cell (p := ⟨bb, offb + i, none⟩) hbb).trans (hcb i (by have := HL.out; omega))
        have e1 : (((i + 1 : Nat) : Int) - 1) = i := by omega
        rw [e1]
        have SA := Lib.hid sa
        have SB := Lib.hid sb
        have hi1 : (i : Int) < (la.length : Int) := by omega
        clear e1 hca hcb hba hbb sa sb hpos
        rcases Nat.lt_trichotomy (nth la i) (nth lb i) with hx | hx | hx
        · have hv : cmpInt m n = -1 := by
            refine cmpInt_lt ?_
            have := val_cmp wa HL.out (i := i) (by omega) HD.out (by rw [← nth_lt, ← nth_lt]; exact hx)
            rw [← HA.out, ← HB.out]; omega
          have HV := Lib.hid hv
          have h1 : ((nth la i : Int) != (nth lb i : Int)) = true := by rw [bne_iff_ne]; omega
          have h2 : decide (nth la i < nth lb i) = true := decide_eq_true hx
          clear hv hx
          go_wp2_with fail
          go_quiet (fail)
          go_wp2_with fail
          go_quiet (fail)
          go_wp2_with fail
          go_ret
          exact ⟨ret_i HV.out.symm, below_drewN (below_drewN hbel _) _⟩
        · have HX := Lib.hid hx
          rw [← hx] at cb
          clear hx
          go_wp2_with fail
          go_quiet (fail)
          go_wp2_with fail
          go_roundw
          case rel => exact ⟨i, by omega, rfl, by rw [List.drop_eq_getElem_cons (l := la) (by omega), List.drop_eq_getElem_cons (l := lb) (by have := HL.out; omega), HD.out, ← nth_lt, ← nth_lt, HX.out], below_drewN hbel _⟩
          case measure => simp [intOf]
        · have hv : cmpInt m n = 1 := by
            refine cmpInt_gt ?_
            have hlt : i < lb.length := by have := HL.out; omega
            have := val_cmp wb HL.out.symm (i := i) hlt HD.out.symm (by rw [← nth_lt, ← nth_lt]; exact hx)
            rw [← HA.out, ← HB.out]; omega
          have HV := Lib.hid hv
          have h1 : ((nth la i : Int) != (nth lb i : Int)) = true := by rw [bne_iff_ne]; omega
          have h2 : decide (nth la i < nth lb i) = false := decide_eq_false (by omega)
          clear hv hx
          go_wp2_with fail
          go_quiet (fail)
          go_wp2_with fail
          go_quiet (fail)
          go_wp2_with fail
          go_ret
          exact ⟨ret_i HV.out.symm, below_drewN (below_drewN hbel _) _⟩
  · have hv : cmpInt m n = 1 := cmpInt_gt (by have := val_lt_of_len (B := B32) (by decide) wb na h; omega)
    have HV := Lib.hid hv
    have h1 : ((la.length : Int) != (lb.length : Int)) = true := by rw [bne_iff_ne]; omega
    have h2 : decide ((la.length : Int) < (lb.length : Int)) = false := decide_eq_false (by omega)
    clear hv ea eb
    go_enter Tryz.func118, Tryz.ntmps118
    go_wp2_with fail
    go_ret
    exact ⟨ret_i HV.out.symm, Below.refl _ _⟩
end Go.Proofs.YtekghemhccfhkaaGreatDoor
