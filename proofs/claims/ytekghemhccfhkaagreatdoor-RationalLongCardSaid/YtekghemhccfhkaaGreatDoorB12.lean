/-
  Walks of the program's functions: Cmp, Compare.
-/
import Derived.Test.YtekghemhccfhkaaGreatDoorB09
import Derived.Deep.QuietTactic
import Derived.BigQuiet
namespace Go.Big
/-- The order of two integers as cmp.Compare tells it. -/
def cmpInt (x y : Int) : Int := if x < y then -1 else if y < x then 1 else 0
end Go.Big
namespace Go.Proofs.YtekghemhccfhkaaGreatDoor
open Go.RowKit Go.Big
set_option maxRecDepth 100000 in
theorem cmp_u64 (x y : Int) (w : World) : Calls Tryz.prog 192 #[.int .u64 x, .int .u64 y] w fun e w' => e = .returned (.int .i64 (cmpInt x y)) ∧ w' = w := by
  rcases Int.lt_trichotomy x y with h | h | h
  · have e1 : cmpInt x y = -1 := by simp [cmpInt, h]
    rw [e1]; clear e1
    go_enter Tryz.func192, Tryz.ntmps192
    go_wp2
    go_ret
    exact ⟨rfl, rfl⟩
  · subst h
    have e1 : cmpInt x x = 0 := by simp [cmpInt]
    rw [e1]; clear e1
    go_enter Tryz.func192, Tryz.ntmps192
    go_wp2
    go_ret
    exact ⟨rfl, rfl⟩
  · have e1 : cmpInt x y = 1 := by simp [cmpInt, h]; omega
    rw [e1]; clear e1
    have h2 : ¬ x < y := by omega
    go_enter Tryz.func192, Tryz.ntmps192
    go_wp2
    go_ret
    exact ⟨rfl, rfl⟩
set_option maxRecDepth 100000 in
theorem cmp_i64 (x y : Int) (w : World) : Calls Tryz.prog 153 #[.int .i64 x, .int .i64 y] w fun e w' => e = .returned (.int .i64 (cmpInt x y)) ∧ w' = w := by
  rcases Int.lt_trichotomy x y with h | h | h
  · have e1 : cmpInt x y = -1 := by simp [cmpInt, h]
    rw [e1]; clear e1
    go_enter Tryz.func153, Tryz.ntmps153
    go_wp2
    go_ret
    exact ⟨rfl, rfl⟩
  · subst h
    have e1 : cmpInt x x = 0 := by simp [cmpInt]
    rw [e1]; clear e1
    go_enter Tryz.func153, Tryz.ntmps153
    go_wp2
    go_ret
    exact ⟨rfl, rfl⟩
  · have e1 : cmpInt x y = 1 := by simp [cmpInt, h]; omega
    rw [e1]; clear e1
    have h2 : ¬ x < y := by omega
    go_enter Tryz.func153, Tryz.ntmps153
    go_wp2
    go_ret
    exact ⟨rfl, rfl⟩
set_option maxRecDepth 100000 in
theorem cmp_int (x y : Int) (w : World) : Calls Tryz.prog 154 #[.int .i64 x, .int .i64 y] w fun e w' => e = .returned (.int .i64 (cmpInt x y)) ∧ w' = w := by
  rcases Int.lt_trichotomy x y with h | h | h
  · have e1 : cmpInt x y = -1 := by simp [cmpInt, h]
    rw [e1]; clear e1
    go_enter Tryz.func154, Tryz.ntmps154
    go_wp2
    go_ret
    exact ⟨rfl, rfl⟩
  · subst h
    have e1 : cmpInt x x = 0 := by simp [cmpInt]
    rw [e1]; clear e1
    go_enter Tryz.func154, Tryz.ntmps154
    go_wp2
    go_ret
    exact ⟨rfl, rfl⟩
  · have e1 : cmpInt x y = 1 := by simp [cmpInt, h]; omega
    rw [e1]; clear e1
    have h2 : ¬ x < y := by omega
    go_enter Tryz.func154, Tryz.ntmps154
    go_wp2
    go_ret
    exact ⟨rfl, rfl⟩
theorem cmp_u64_at {x y v : Int} (h : cmpInt x y = v) (w : World) : Calls Tryz.prog 192 #[.int .u64 x, .int .u64 y] w fun e w' => e = .returned (.int .i64 v) ∧ w' = w := by
  subst h; exact cmp_u64 x y w
theorem cmp_int_at {x y v : Int} (h : cmpInt x y = v) (w : World) : Calls Tryz.prog 154 #[.int .i64 x, .int .i64 y] w fun e w' => e = .returned (.int .i64 v) ∧ w' = w := by
  subst h; exact cmp_int x y w
end Go.Proofs.YtekghemhccfhkaaGreatDoor
namespace Go.Proofs.YtekghemhccfhkaaGreatDoor
open Go.RowKit Go.Big
def RetCmp (w : World) (m n : Nat) (e : Ending) (w' : World) : Prop := e = .returned (.int .i64 (cmpInt m n)) ∧ Below w.heap.size w w'

theorem cmpInt_lt {m n : Int} (h : m < n) : cmpInt m n = -1 := by simp [cmpInt, h]
theorem cmpInt_gt {m n : Int} (h : n < m) : cmpInt m n = 1 := by simp [cmpInt, h]; omega
theorem cmpInt_eq (m : Int) : cmpInt m m = 0 := by simp [cmpInt]

set_option maxRecDepth 100000 in
set_option maxHeartbeats 2000000 in
/-- (natural).compare -/
theorem compare_any {va vb : Value} {m n : Nat} {w : World} (ha : NatV w .u64 B64 va m) (hb : NatV w .u64 B64 vb n) :
    Calls Tryz.prog 155 #[va, vb] w (RetCmp w m n) := by
  obtain ⟨ao, capa, la, rfl, sa, wa, na, ea⟩ := ha
  obtain ⟨bo, capb, lb, rfl, sb, wb, nb, eb⟩ := hb
  have la' := sa.len_le
  have lb' := sb.len_le
  rcases Nat.lt_trichotomy la.length lb.length with h | h | h
  · have hc := cmp_int la.length lb.length w
    rw [cmpInt_lt (by omega)] at hc
    have hv : cmpInt m n = -1 := cmpInt_lt (by have := val_lt_of_len (B := B64) (by decide) wa nb h; omega)
    have H := Lib.hid hc; have HV := Lib.hid hv
    clear hc hv ea eb
    go_enter Tryz.func155, Tryz.ntmps155
    go_wp2_with fail
    refine H.out.mono ?_
    rintro e w1 ⟨rfl, rfl⟩
    go_wp2_with fail
    go_ret
    exact ⟨ret_i HV.out.symm, Below.refl _ _⟩
  · have hc := cmp_int la.length lb.length w
    rw [← h, cmpInt_eq] at hc
    have H := Lib.hid hc; have HL := Lib.hid h
    clear hc
    rw [← h]
    clear h
    go_enter Tryz.func155, Tryz.ntmps155
    go_wp2_with fail
    refine H.out.mono ?_
    rintro e w1 ⟨rfl, rfl⟩
    have HA := Lib.hid ea
    have HB := Lib.hid eb
    clear ea eb H
    go_wp2_with fail
    go_loopw [6] (fun i wr => ∃ k : Nat, k ≤ la.length ∧ i = .int .i64 ((k : Int) - 1) ∧ la.drop k = lb.drop k ∧ Below w1.heap.size w1 wr) (fun i _ => (intOf i + 1).toNat)
    case atStart => exact ⟨la.length, Nat.le_refl _, rfl, by rw [List.drop_length, HL.out, List.drop_length], Below.refl _ _⟩
    case round =>
      obtain ⟨k, hk, rfl, hd, hbel⟩ := hrel
      have HD := Lib.hid hd
      clear hd
      rcases Nat.eq_zero_or_pos k with hk0 | hpos
      · subst hk0
        go_wp2_with fail
        go_ret
        have hab : la = lb := by have := HD.out; simpa using this
        exact ⟨ret_i (by rw [← HA.out, ← HB.out, hab, cmpInt_eq]), hbel⟩
      · obtain ⟨i, rfl⟩ : ∃ i, k = i + 1 := ⟨k - 1, by omega⟩
        obtain ⟨ba, offa, rfl, hba, hca⟩ := sa.at (i := i) (by omega)
        obtain ⟨bb, offb, rfl, hbb, hcb⟩ := sb.at (i := i) (by have := HL.out; omega)
        have ca := (hbel.cell (p := ⟨ba, offa + i, none⟩) hba).trans (hca i (by omega))
        have cb := (hbel.cell (p := ⟨bb, offb + i, none⟩) hbb).trans (hcb i (by have := HL.out; omega))
        have e1 : (((i + 1 : Nat) : Int) - 1) = i := by omega
        rw [e1]
        have SA := Lib.hid sa
        have SB := Lib.hid sb
        clear e1 hca hcb hba hbb sa sb hpos
        go_wp2_with fail
        rcases Nat.lt_trichotomy (nth la i) (nth lb i) with hx | hx | hx
        · have hv : cmpInt m n = -1 := by
            refine cmpInt_lt ?_
            have := val_cmp wa HL.out (i := i) (by omega) HD.out (by rw [← nth_lt, ← nth_lt]; exact hx)
            rw [← HA.out, ← HB.out]; omega
          have HV := Lib.hid hv
          have hc := fun w => cmp_u64_at (cmpInt_lt (m := nth la i) (n := nth lb i) (by omega)) w
          have H := Lib.hid hc
          clear hv hc hx
          go_quiet ((go_at_call 192; exact Calls.quiet_of_same (H.out _)))
          go_wp2_with fail
          go_ret
          exact ⟨ret_i HV.out.symm, below_drewN hbel _⟩
        · have hc := fun w => cmp_u64_at (x := nth la i) (y := nth lb i) (v := 0) (by rw [hx, cmpInt_eq]) w
          have H := Lib.hid hc
          have HX := Lib.hid hx
          clear hc hx
          go_quiet ((go_at_call 192; exact Calls.quiet_of_same (H.out _)))
          go_wp2_with fail
          go_roundw
          case rel => exact ⟨i, by omega, rfl, by rw [List.drop_eq_getElem_cons (l := la) (by omega), List.drop_eq_getElem_cons (l := lb) (by have := HL.out; omega), HD.out, ← nth_lt, ← nth_lt, HX.out], below_drewN hbel _⟩
          case measure => simp [intOf]
        · have hv : cmpInt m n = 1 := by
            refine cmpInt_gt ?_
            have hlt : i < lb.length := by have := HL.out; omega
            have := val_cmp wb HL.out.symm (i := i) hlt HD.out.symm (by rw [← nth_lt, ← nth_lt]; exact hx)
            rw [← HA.out, ← HB.out]; omega
          have HV := Lib.hid hv
          have hc := fun w => cmp_u64_at (cmpInt_gt (m := nth la i) (n := nth lb i) (by omega)) w
          have H := Lib.hid hc
          clear hv hc hx
          go_quiet ((go_at_call 192; exact Calls.quiet_of_same (H.out _)))
          go_wp2_with fail
          go_ret
          exact ⟨ret_i HV.out.symm, below_drewN hbel _⟩
  · have hc := cmp_int_at (cmpInt_gt (m := la.length) (n := lb.length) (by omega)) w
    have hv : cmpInt m n = 1 := cmpInt_gt (by have := val_lt_of_len (B := B64) (by decide) wb na h; omega)
    have H := Lib.hid hc; have HV := Lib.hid hv
    clear hc hv ea eb
    go_enter Tryz.func155, Tryz.ntmps155
    go_wp2_with fail
    refine H.out.mono ?_
    rintro e w1 ⟨rfl, rfl⟩
    go_wp2_with fail
    go_ret
    exact ⟨ret_i HV.out.symm, Below.refl _ _⟩
end Go.Proofs.YtekghemhccfhkaaGreatDoor
