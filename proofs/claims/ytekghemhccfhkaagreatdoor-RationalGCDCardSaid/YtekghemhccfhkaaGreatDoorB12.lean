/-
  Walks of the program's functions: Apply, RestW, GcdWMath, Tz, GcdW, Gcd.
-/
import Derived.Test.YtekghemhccfhkaaGreatDoorB11
import Derived.Deep.RegionHeld3
import Derived.Test.YtekghemhccfhkaaGreatDoorB05
import Derived.Test.YtekghemhccfhkaaGreatDoorB04
import Derived.Lib.TrailingZeros
import Derived.Test.YtekghemhccfhkaaGreatDoorB01
import Derived.Lib.Hide
import Derived.Shelf.Spec.TrailingZeros
import Derived.Test.YtekghemhccfhkaaGreatDoorB02
import Derived.Test.YtekghemhccfhkaaGreatDoorB03
import Derived.Test.YtekghemhccfhkaaGreatDoorB07
namespace Go.Proofs.YtekghemhccfhkaaGreatDoor
open Go.RowKit Go.Big
theorem minusProducts_any {va vb : Value} {m k x y r : Nat} {w : World} (ha : NatV w .u64 B64 va m) (hb : NatV w .u64 B64 vb k) (hx : x < 18446744073709551616) (hy : y < 18446744073709551616)
    (e : x * m = y * k + r) (hr : r ≤ m ∨ r ≤ k) : Calls Tryz.prog 199 #[va, .int .u64 x, vb, .int .u64 y] w (RetNat w r) := by
  obtain ⟨ao, capa, la, rfl, sa, wa, na, rfl⟩ := ha
  obtain ⟨bo, capb, lb, rfl, sb, wb, nb, rfl⟩ := hb
  have h1 := val_lt wa
  have h2 := val_lt wb
  have h3 : B64 ^ la.length ≤ B64 ^ max la.length lb.length := Nat.pow_le_pow_right (by decide) (Nat.le_max_left _ _)
  have h4 : B64 ^ lb.length ≤ B64 ^ max la.length lb.length := Nat.pow_le_pow_right (by decide) (Nat.le_max_right _ _)
  have h5 : r < B64 ^ max la.length lb.length := by
    rcases hr with h | h
    · exact Nat.lt_of_le_of_lt h (Nat.lt_of_lt_of_le h1 h3)
    · exact Nat.lt_of_le_of_lt h (Nat.lt_of_lt_of_le h2 h4)
  have := minusProducts_core ao bo capa capb la lb x y _ w sa sb wa wb hx hy rfl (by omega) (by omega)
  rwa [show x * val B64 la - y * val B64 lb = r by omega] at this
/-- What a call behind the box leaves: the box's cells, and all that was there. -/
def ApPost (w0 w' : World) (g aA bA aB bB r : Nat) (e : Ending) (w1 : World) : Prop :=
  ∃ v, e = .returned v ∧ NatV w1 .u64 B64 v r ∧ Below w'.heap.size w' w1 ∧ w1.cell? ⟨g, 1, none⟩ = some (.int .u64 aA) ∧ w1.cell? ⟨g, 2, none⟩ = some (.int .u64 bA) ∧
    w1.cell? ⟨g, 3, none⟩ = some (.int .u64 aB) ∧ w1.cell? ⟨g, 4, none⟩ = some (.int .u64 bB) ∧ Below w0.heap.size w0 w1
theorem minusProducts_ap {va vb : Value} {m k x y r : Nat} {w0 : World} (ha : NatV w0 .u64 B64 va m) (hb : NatV w0 .u64 B64 vb k) (hx : x < 18446744073709551616) (hy : y < 18446744073709551616)
    (e : x * m = y * k + r) (hr : r ≤ m ∨ r ≤ k) {g aA bA aB bB : Nat} (k1 : w0.cell? ⟨g, 1, none⟩ = some (.int .u64 aA)) (k2 : w0.cell? ⟨g, 2, none⟩ = some (.int .u64 bA))
    (k3 : w0.cell? ⟨g, 3, none⟩ = some (.int .u64 aB)) (k4 : w0.cell? ⟨g, 4, none⟩ = some (.int .u64 bB)) (w' : World) (hw : Below w0.heap.size w0 w') :
    Calls Tryz.prog 199 #[va, .int .u64 x, vb, .int .u64 y] w' (ApPost w0 w' g aA bA aB bB r) := by
  refine (minusProducts_any (ha.below hw) (hb.below hw) hx hy e hr).mono ?_
  rintro e' w1 ⟨v, rfl, hv, hbel⟩
  have h := below_trans hw hbel
  have hg := World.block_lt_of_cell? w0 _ k1
  exact ⟨v, rfl, hv, hbel, (h.cell (p := ⟨g, 1, none⟩) hg).trans k1, (h.cell (p := ⟨g, 2, none⟩) hg).trans k2, (h.cell (p := ⟨g, 3, none⟩) hg).trans k3, (h.cell (p := ⟨g, 4, none⟩) hg).trans k4, h⟩
set_option maxRecDepth 100000 in
set_option maxHeartbeats 1000000 in
/-- apply -/
theorem apply_any {va vb : Value} {S m k c aA bA aB bB x y P Q : Nat} {w : World} (ha : NatV w .u64 B64 va m) (hb : NatV w .u64 B64 vb k) (hinv : FsInv S m k c aA bA aB bB x y P Q) (hcnt : FsCnt c aA bA aB bB y)
    (hc : c < 17179869184) : Calls Tryz.prog 165 #[.agg #[.int .i64 c, .int .u64 aA, .int .u64 bA, .int .u64 aB, .int .u64 bB], va, vb] w (RetNat2 w P Q) := by
  obtain ⟨w0, hw0⟩ : ∃ w0, w.alloc (.cells #[.int .i64 c, .int .u64 aA, .int .u64 bA, .int .u64 aB, .int .u64 bB] 164) = w0 := ⟨_, rfl⟩
  have hbel : Below w.heap.size w w0 := by rw [← hw0]; exact (Below.refl _ _).alloc (Nat.le_refl _) _
  have hrow : w0.heap[w.heap.size]? = some (.cells #[.int .i64 c, .int .u64 aA, .int .u64 bA, .int .u64 aB, .int .u64 bB] 164 (0, 0)) := by rw [← hw0]; exact heap_alloc_new w _
  have k0 : w0.cell? ⟨w.heap.size, 0, none⟩ = some (.int .i64 c) := by simp [World.cell?, hrow]
  have k1 : w0.cell? ⟨w.heap.size, 1, none⟩ = some (.int .u64 aA) := by simp [World.cell?, hrow]
  have k2 : w0.cell? ⟨w.heap.size, 2, none⟩ = some (.int .u64 bA) := by simp [World.cell?, hrow]
  have k3 : w0.cell? ⟨w.heap.size, 3, none⟩ = some (.int .u64 aB) := by simp [World.cell?, hrow]
  have k4 : w0.cell? ⟨w.heap.size, 4, none⟩ = some (.int .u64 bB) := by simp [World.cell?, hrow]
  have HB := Lib.hid hbel
  have ha0 := ha.below hbel
  have hb0 := hb.below hbel
  by_cases ht : c % 2 = 0
  · have ht' : ((c : Int) % 2 == 0) = true := by rw [beq_iff_eq]; omega
    have l1 := (Lin.even ht).1 hinv.lP
    have l2 := (Lin.odd (by omega)).1 hinv.lQ
    have C1 := Lib.hid (minusProducts_ap ha0 hb0 hcnt.a1 hcnt.a2 l1 (.inl hinv.hPm) k1 k2 k3 k4)
    have C2 := Lib.hid (minusProducts_ap hb0 ha0 hcnt.a4 hcnt.a3 l2 (.inl hinv.hQk) k1 k2 k3 k4)
    have B0 : Hid (Below w0.heap.size w0 w0.drew) := Lib.hid (below_drewN (Below.refl w0.heap.size w0) 1)
    clear ha hb hinv hcnt hbel hrow ha0 hb0 l1 l2 ht
    go_enter Tryz.func165, Tryz.ntmps165
    go_wp2_with fail
    go_region_held3 (fun w' => w'.cell? ⟨w.heap.size, 1, none⟩ = some (.int .u64 aA) ∧ w'.cell? ⟨w.heap.size, 2, none⟩ = some (.int .u64 bA) ∧ w'.cell? ⟨w.heap.size, 3, none⟩ = some (.int .u64 aB) ∧ w'.cell? ⟨w.heap.size, 4, none⟩ = some (.int .u64 bB) ∧ Below w0.heap.size w0 w')
      (first | exact ⟨k1, k2, k3, k4, B0.out⟩ | exact ⟨s1, s2, s3, s4, s5⟩ | fail)
      (first | (go_at_call 199; (with_reducible refine (C1.out _ B0.out).mono ?_); rintro e w1 ⟨v, rfl, hv, hb1, s1, s2, s3, s4, s5⟩) | (go_at_call 199; (with_reducible refine (C2.out _ s5).mono ?_); rintro e w2 ⟨v2, rfl, hv2, hb2, s1, s2, s3, s4, s5⟩) | fail)
    have hv1 := hv.below hb2
    have hB := Lib.hid (below_trans HB.out s5)
    clear s1 s2 s3 s4 s5 hv hb1 hb2 C1 C2 B0 HB k0 k1 k2 k3 k4
    go_wp2_with fail
    refine bodyPost_ret (v := .tuple #[v, v2]) (by simp [results, Tryz.results165, go_sem]) rfl ⟨v, v2, rfl, hv1, hv2, hB.out⟩
  · have ht' : ((c : Int) % 2 == 0) = false := by rw [beq_eq_false_iff_ne]; omega
    have l1 := (Lin.odd ht).1 hinv.lP
    have l2 := (Lin.even (by omega)).1 hinv.lQ
    have C1 := Lib.hid (minusProducts_ap hb0 ha0 hcnt.a2 hcnt.a1 l1 (.inr hinv.hPm) k1 k2 k3 k4)
    have C2 := Lib.hid (minusProducts_ap ha0 hb0 hcnt.a3 hcnt.a4 l2 (.inr hinv.hQk) k1 k2 k3 k4)
    have B0 : Hid (Below w0.heap.size w0 w0.drew) := Lib.hid (below_drewN (Below.refl w0.heap.size w0) 1)
    clear ha hb hinv hcnt hbel hrow ha0 hb0 l1 l2 ht
    go_enter Tryz.func165, Tryz.ntmps165
    go_wp2_with fail
    go_region_held3 (fun w' => w'.cell? ⟨w.heap.size, 1, none⟩ = some (.int .u64 aA) ∧ w'.cell? ⟨w.heap.size, 2, none⟩ = some (.int .u64 bA) ∧ w'.cell? ⟨w.heap.size, 3, none⟩ = some (.int .u64 aB) ∧ w'.cell? ⟨w.heap.size, 4, none⟩ = some (.int .u64 bB) ∧ Below w0.heap.size w0 w')
      (first | exact ⟨k1, k2, k3, k4, B0.out⟩ | exact ⟨s1, s2, s3, s4, s5⟩ | fail)
      (first | (go_at_call 199; (with_reducible refine (C1.out _ B0.out).mono ?_); rintro e w1 ⟨v, rfl, hv, hb1, s1, s2, s3, s4, s5⟩) | (go_at_call 199; (with_reducible refine (C2.out _ s5).mono ?_); rintro e w2 ⟨v2, rfl, hv2, hb2, s1, s2, s3, s4, s5⟩) | fail)
    have hv1 := hv.below hb2
    have hB := Lib.hid (below_trans HB.out s5)
    clear s1 s2 s3 s4 s5 hv hb1 hb2 C1 C2 B0 HB k0 k1 k2 k3 k4
    go_wp2_with fail
    refine bodyPost_ret (v := .tuple #[v, v2]) (by simp [results, Tryz.results165, go_sem]) rfl ⟨v, v2, rfl, hv1, hv2, hB.out⟩
end Go.Proofs.YtekghemhccfhkaaGreatDoor
namespace Go.Proofs.YtekghemhccfhkaaGreatDoor
open Go.RowKit Go.Big
theorem rest_step {a : List Nat} {x i r : Nat} (hi : i < a.length) (hr : r = val B64 (a.drop (i + 1)) % x) : dvR r (nth a i) x = val B64 (a.drop i) % x := by
  rw [drop_val_nth _ _ _ hi, hr, dvR_mod]
  unfold dvR
  rw [Nat.add_comm, Nat.mul_comm]
set_option maxRecDepth 100000 in
set_option maxHeartbeats 1000000 in
/-- restByWord -/
theorem restByWord_any {va : Value} {m x : Nat} {w : World} (ha : NatV w .u64 B64 va m) (hx0 : 0 < x) (hx : x < 18446744073709551616) :
    Calls Tryz.prog 166 #[va, .int .u64 x] w fun e w' => e = .returned (.int .u64 (m % x : Nat)) ∧ ∃ n, w' = w.drewN n := by
  obtain ⟨ao, capa, a, rfl, sa, wa, _, ea⟩ := ha
  have hm := sa.len_le
  have HX := Lib.hid hx
  have HE := Lib.hid ea
  clear hx ea
  go_enter Tryz.func166, Tryz.ntmps166
  go_wp2_with fail
  go_loopw [5, 6] (fun c i wr => ∃ (k r d : Nat), k ≤ a.length ∧ i = .int .i64 ((k : Int) - 1) ∧ c = .int .u64 r ∧ r = val B64 (a.drop k) % x ∧ wr = w.drewN d)
    (fun _ i _ => (intOf i + 1).toNat)
  case atStart => exact ⟨a.length, 0, 0, Nat.le_refl _, rfl, rfl, by rw [List.drop_length]; simp [val], rfl⟩
  case round =>
    obtain ⟨k, r, d, hk, rfl, rfl, hr, rfl⟩ := hrel
    have HR := Lib.hid hr
    clear hr
    rcases Nat.eq_zero_or_pos k with hk0 | hpos
    · subst hk0
      go_wp2_with fail
      go_ret
      exact ⟨ret_i (by rw [HR.out, List.drop_zero, HE.out]), d, rfl⟩
    · obtain ⟨i, rfl⟩ : ∃ i, k = i + 1 := ⟨k - 1, by omega⟩
      obtain ⟨ba, offa, rfl, _, hc⟩ := sa.at (i := i) (by omega)
      have ci := hc i (by omega)
      have hcall := fun w' => rem64_any (hi := r) hx0 HX.out (wa.nth (i := i) (by omega)) w'
      have HC := Lib.hid hcall
      have e1 : (((i + 1 : Nat) : Int) - 1) = i := by omega
      rw [e1]
      have SA := Lib.hid sa
      clear hcall e1 hpos hc sa
      go_wp2_with fail
      refine (HC.out _).mono ?_
      rintro e w1 ⟨rfl, m, rfl⟩
      go_wp2_with fail
      go_roundw
      case rel => exact ⟨i, _, _, by omega, rfl, rfl, rest_step (by omega) HR.out, rfl⟩
      case measure => simp [intOf]
end Go.Proofs.YtekghemhccfhkaaGreatDoor
namespace Go.Big
open Go
/-- The number of trailing zeros, and what is left. -/
theorem ctz_spec {x : Nat} (h0 : x ≠ 0) (hx : x < 18446744073709551616) : Lib.ctz 64 x < 64 ∧ ∃ m, x = 2 ^ Lib.ctz 64 x * (2 * m + 1) := by
  have h := Lib.ctzFrom_spec 64 x (by omega) hx
  obtain ⟨m, h1, h2⟩ := h
  simp only [Lib.ctz, h0, if_false]
  exact ⟨h2, m, h1⟩
theorem two_unique {i j m n : Nat} (h : 2 ^ i * (2 * m + 1) = 2 ^ j * (2 * n + 1)) : i = j := by
  rcases Nat.lt_trichotomy i j with h1 | h1 | h1
  · obtain ⟨d, rfl⟩ : ∃ d, j = i + (d + 1) := ⟨j - i - 1, by omega⟩
    have e : 2 ^ (i + (d + 1)) * (2 * n + 1) = 2 ^ i * (2 * (2 ^ d * (2 * n + 1))) := by rw [Nat.pow_add, Nat.pow_succ]; grind
    rw [e] at h
    have := Nat.eq_of_mul_eq_mul_left (Nat.pow_pos (by decide)) h
    omega
  · exact h1
  · obtain ⟨d, rfl⟩ : ∃ d, i = j + (d + 1) := ⟨i - j - 1, by omega⟩
    have e : 2 ^ (j + (d + 1)) * (2 * m + 1) = 2 ^ j * (2 * (2 ^ d * (2 * m + 1))) := by rw [Nat.pow_add, Nat.pow_succ]; grind
    rw [e] at h
    have := Nat.eq_of_mul_eq_mul_left (Nat.pow_pos (by decide)) h
    omega
theorem or_odd {x y : Nat} (h : x % 2 = 1 ∨ y % 2 = 1) : ∃ m, x ||| y = 2 * m + 1 := by
  have : (x ||| y).testBit 0 = true := by
    rw [Nat.testBit_or, Nat.testBit_zero, Nat.testBit_zero]
    simpa using h
  rw [Nat.testBit_zero] at this
  refine ⟨(x ||| y) / 2, ?_⟩
  have h2 : (x ||| y) % 2 = 1 := by simpa using this
  omega
theorem or_mul (i x y : Nat) : 2 ^ i * x ||| 2 ^ i * y = 2 ^ i * (x ||| y) := by
  have h := Nat.shiftLeft_or_distrib (a := x) (b := y) (i := i)
  simp only [Nat.shiftLeft_eq] at h
  rw [Nat.mul_comm, Nat.mul_comm (2 ^ i) y, Nat.mul_comm (2 ^ i) (x ||| y), h]
/-- The trailing zeros of 'a | b' are those of the one that has fewer. -/
theorem ctz_or {a b : Nat} (ha : a ≠ 0) (hb : b ≠ 0) (ha' : a < 18446744073709551616) (hb' : b < 18446744073709551616) :
    Lib.ctz 64 (a ||| b) = min (Lib.ctz 64 a) (Lib.ctz 64 b) := by
  obtain ⟨_, m, hm⟩ := ctz_spec ha ha'
  obtain ⟨_, n, hn⟩ := ctz_spec hb hb'
  have hlt : a ||| b < 18446744073709551616 := Nat.or_lt_two_pow (n := 64) ha' hb'
  have h0 : a ||| b ≠ 0 := by
    intro h
    have := (Nat.or_eq_zero_iff).1 h
    exact ha this.1
  obtain ⟨_, k, hk⟩ := ctz_spec h0 hlt
  generalize Lib.ctz 64 (a ||| b) = z at *
  generalize Lib.ctz 64 a = i at *
  generalize Lib.ctz 64 b = j at *
  rcases Nat.le_total i j with h | h
  · obtain ⟨d, rfl⟩ : ∃ d, j = i + d := ⟨j - i, by omega⟩
    rw [Nat.min_eq_left h]
    have e : b = 2 ^ i * (2 ^ d * (2 * n + 1)) := by rw [hn, Nat.pow_add, Nat.mul_assoc]
    have e2 : a ||| b = 2 ^ i * ((2 * m + 1) ||| (2 ^ d * (2 * n + 1))) := by rw [e]; rw [hm]; exact or_mul _ _ _
    obtain ⟨q, hq⟩ := or_odd (x := 2 * m + 1) (y := 2 ^ d * (2 * n + 1)) (.inl (by omega))
    rw [hq, hk] at e2
    exact two_unique e2
  · obtain ⟨d, rfl⟩ : ∃ d, i = j + d := ⟨i - j, by omega⟩
    rw [Nat.min_eq_right h]
    have e : a = 2 ^ j * (2 ^ d * (2 * m + 1)) := by rw [hm, Nat.pow_add, Nat.mul_assoc]
    have e2 : a ||| b = 2 ^ j * ((2 ^ d * (2 * m + 1)) ||| (2 * n + 1)) := by rw [e]; rw [hn]; exact or_mul _ _ _
    obtain ⟨q, hq⟩ := or_odd (x := 2 ^ d * (2 * m + 1)) (y := 2 * n + 1) (.inr (by omega))
    rw [hq, hk] at e2
    exact two_unique e2
theorem odd_coprime {a : Nat} (h : a % 2 = 1) (k : Nat) : Nat.Coprime (2 ^ k) a := by
  apply Nat.Coprime.pow_left
  unfold Nat.Coprime
  rw [Nat.gcd_rec, h]
  rfl
theorem gcd_odd {a b k : Nat} (h : a % 2 = 1) : Nat.gcd a (2 ^ k * b) = Nat.gcd a b := Nat.Coprime.gcd_mul_left_cancel_right _ (odd_coprime h k)
/-- What the loop of gcdWords keeps: a is odd. -/
structure GwInv (g a b : Nat) : Prop where
  odd : a % 2 = 1
  gcd : Nat.gcd a b = g
  alt : a < 18446744073709551616
  blt : b < 18446744073709551616
theorem GwInv.start {a b : Nat} (ha : a ≠ 0) (hb : b ≠ 0) (ha' : a < 18446744073709551616) (hb' : b < 18446744073709551616) :
    ∃ g, GwInv g (shrW a (Lib.ctz 64 a)) b ∧ Nat.gcd a b = g * 2 ^ Lib.ctz 64 (a ||| b) := by
  obtain ⟨h1, m, hm⟩ := ctz_spec ha ha'
  obtain ⟨h2, n, hn⟩ := ctz_spec hb hb'
  rw [ctz_or ha hb ha' hb']
  have e : shrW a (Lib.ctz 64 a) = 2 * m + 1 := by
    rw [shrW_eq (by omega)]
    exact Nat.div_eq_of_eq_mul_right (Nat.pow_pos (by decide)) hm
  rw [e]
  have hm' : 2 * m + 1 ≤ a := by
    have : 1 * (2 * m + 1) ≤ 2 ^ Lib.ctz 64 a * (2 * m + 1) := Nat.mul_le_mul_right _ (Nat.pow_pos (by decide))
    rw [← hm, Nat.one_mul] at this
    exact this
  refine ⟨Nat.gcd (2 * m + 1) b, ⟨by omega, rfl, by omega, hb'⟩, ?_⟩
  generalize Lib.ctz 64 a = i at *
  generalize Lib.ctz 64 b = j at *
  have hg : Nat.gcd (2 * m + 1) b = Nat.gcd (2 * m + 1) (2 * n + 1) := by rw [hn]; exact gcd_odd (by omega)
  rw [hg]
  rcases Nat.le_total i j with h | h
  · obtain ⟨d, rfl⟩ : ∃ d, j = i + d := ⟨j - i, by omega⟩
    rw [Nat.min_eq_left h, hm, hn, Nat.pow_add, Nat.mul_assoc, Nat.gcd_mul_left, gcd_odd (by omega), Nat.mul_comm]
  · obtain ⟨d, rfl⟩ : ∃ d, i = j + d := ⟨i - j, by omega⟩
    rw [Nat.min_eq_right h, hm, hn, Nat.pow_add, Nat.mul_assoc, Nat.gcd_mul_left, Nat.gcd_comm, gcd_odd (by omega), Nat.gcd_comm, Nat.mul_comm]
/-- One round: b without its trailing zeros, then the difference. -/
theorem GwInv.step {g a b : Nat} (h : GwInv g a b) (hb : b ≠ 0) :
    let c := shrW b (Lib.ctz 64 b)
    (c < 18446744073709551616 ∧ c ≤ b ∧ 0 < c) ∧ (a ≤ c → GwInv g a (c - a)) ∧ (c < a → GwInv g c (a - c)) := by
  obtain ⟨h1, m, hm⟩ := ctz_spec hb h.blt
  have e : shrW b (Lib.ctz 64 b) = 2 * m + 1 := by
    rw [shrW_eq (by omega)]
    exact Nat.div_eq_of_eq_mul_right (Nat.pow_pos (by decide)) hm
  simp only [e]
  have hm' : 2 * m + 1 ≤ b := by
    have : 1 * (2 * m + 1) ≤ 2 ^ Lib.ctz 64 b * (2 * m + 1) := Nat.mul_le_mul_right _ (Nat.pow_pos (by decide))
    rw [← hm, Nat.one_mul] at this
    exact this
  have hgc : Nat.gcd a (2 * m + 1) = g := by
    rw [← h.gcd]
    conv => rhs; rw [hm]
    exact (gcd_odd h.odd).symm
  have hbl := h.blt
  have hal := h.alt
  refine ⟨⟨by omega, hm', by omega⟩, fun hle => ⟨h.odd, ?_, hal, by omega⟩, fun hlt => ⟨by omega, ?_, by omega, by omega⟩⟩
  · rw [Nat.gcd_sub_self_right hle]; exact hgc
  · rw [Nat.gcd_sub_self_right (by omega), Nat.gcd_comm]; exact hgc
end Go.Big
namespace Go.Big
open Go
/-- A table of bytes lies in block g. -/
def TabU8 (g : Nat) (tab : List Nat) (w : World) : Prop := ∀ j, j < tab.length → w.cell? ⟨g, j, none⟩ = some (.int .u8 (nth tab j))
end Go.Big
namespace Go.Proofs.YtekghemhccfhkaaGreatDoor
open Go.RowKit Go.Big
set_option maxRecDepth 100000 in
set_option maxHeartbeats 1000000 in
theorem tz_any {x : Nat} (hx0 : x ≠ 0) (hx : x < 18446744073709551616) (w : World) (hT : TabU8 1 Lib.deBruijn64tab w) :
    Calls Tryz.prog 163 #[.int .u64 x] w fun e w' => e = .returned (.int .i64 (Lib.ctz 64 x)) ∧ w' = w := by
  have hb : ((x : Int) == 0) = false := by rw [beq_eq_false_iff_ne]; omega
  obtain ⟨hlow, hk⟩ := Lib.lowest_bit 64 x hx0 hx
  obtain ⟨hi, htab⟩ := Lib.deBruijn64_at _ hk
  have key := Proofs.tz64_key x _ hx hx0 hlow
  have hc := hT _ hi
  have e : nth Lib.deBruijn64tab (2 ^ Lib.ctz 64 x * 285870213051353865 % 18446744073709551616 / 288230376151711744) = Lib.ctz 64 x := htab
  rw [e] at hc
  obtain ⟨idx, hidx⟩ : ∃ idx, 2 ^ Lib.ctz 64 x * 285870213051353865 % 18446744073709551616 / 288230376151711744 = idx := ⟨_, rfl⟩
  rw [hidx] at key hc hi
  have hi2 : idx < 64 := hi
  have hk2 : Lib.ctz 64 x ≤ 63 := by omega
  clear hx hlow htab e hx0 hT hidx hi hk
  go_enter Tryz.func163, Tryz.ntmps163
  go_wp2_with fail
  go_ret
  exact ⟨rfl, rfl⟩
end Go.Proofs.YtekghemhccfhkaaGreatDoor
namespace Go.Proofs.YtekghemhccfhkaaGreatDoor
open Go.RowKit Go.Big
/-- The table of math/bits, where it lies. -/
abbrev Tabs (w : World) : Prop := TabU8 1 Lib.deBruijn64tab w
set_option maxRecDepth 100000 in
set_option maxHeartbeats 1000000 in
/-- gcdWords -/
theorem gcdWords_any {a b : Nat} (ha : a < 18446744073709551616) (hb : b < 18446744073709551616) (w : World) (hT : Tabs w) :
    Calls Tryz.prog 134 #[.int .u64 a, .int .u64 b] w fun e w' => e = .returned (.int .u64 (Nat.gcd a b)) ∧ w' = w := by
  by_cases h0 : a = 0
  · have e : orW a b = Nat.gcd a b := by rw [h0, orW, Nat.mod_eq_of_lt hb, Nat.gcd_zero_left]; simp
    have hz : ((a : Int) == 0) = true := by rw [beq_iff_eq]; omega
    have HE := Lib.hid e
    rw [← HE.out]
    clear e ha hb hT h0
    go_enter Tryz.func134, Tryz.ntmps134
    go_wp2_with fail
    go_ret
    exact ⟨rfl, rfl⟩
  · by_cases h1 : b = 0
    · have e : orW a b = Nat.gcd a b := by rw [h1, orW, Nat.mod_eq_of_lt ha, Nat.gcd_zero_right]; simp
      have hz : ((a : Int) == 0) = false := by rw [beq_eq_false_iff_ne]; omega
      have hz2 : ((b : Int) == 0) = true := by rw [beq_iff_eq]; omega
      have HE := Lib.hid e
      rw [← HE.out]
      clear e ha hb hT h0 h1
      go_enter Tryz.func134, Tryz.ntmps134
      go_wp2_with fail
      go_ret
      exact ⟨rfl, rfl⟩
    · have hza : ((a : Int) == 0) = false := by rw [beq_eq_false_iff_ne]; omega
      have hzb : ((b : Int) == 0) = false := by rw [beq_eq_false_iff_ne]; omega
      obtain ⟨g, hinv, hg⟩ := GwInv.start h0 h1 ha hb
      have hor : orW a b = a ||| b := by rw [orW, Nat.mod_eq_of_lt ha, Nat.mod_eq_of_lt hb]
      have ho0 : a ||| b ≠ 0 := by
        intro h
        exact h0 ((Nat.or_eq_zero_iff).1 h).1
      have hol : a ||| b < 18446744073709551616 := Nat.or_lt_two_pow (n := 64) ha hb
      have t1 := tz_any ho0 hol w hT
      have t2 := tz_any h0 ha w hT
      have hs := (ctz_spec ho0 hol).1
      have hg64 : g * 2 ^ Lib.ctz 64 (a ||| b) < 18446744073709551616 := by
        rw [← hg]; exact Nat.lt_of_le_of_lt (Nat.gcd_le_left _ (by omega)) ha
      have HG := Lib.hid hg
      rw [HG.out]
      have HI := Lib.hid hinv
      have T1 := Lib.hid t1
      have T2 := Lib.hid t2
      have H64 := Lib.hid hg64
      have tzs := fun (x : Nat) (h : x ≠ 0) (h2 : x < 18446744073709551616) => tz_any h h2 w hT
      have TZ := Lib.hid tzs
      clear hg hinv t1 t2 hg64 tzs ho0 hol ha hb hT
      generalize Lib.ctz 64 (a ||| b) = s at *
      generalize a ||| b = ab at *
      go_enter Tryz.func134, Tryz.ntmps134
      go_wp2_with fail
      refine T1.out.mono ?_
      rintro e w1 ⟨rfl, rfl⟩
      go_wp2_with fail
      refine T2.out.mono ?_
      rintro e w1 ⟨rfl, rfl⟩
      go_wp2_with fail
      go_loop [0, 1] (fun x y => ∃ a b : Nat, x = .int .u64 a ∧ y = .int .u64 b ∧ GwInv g a b) (fun x y => (intOf x).toNat + (intOf y).toNat)
      case atStart => exact ⟨_, _, rfl, rfl, HI.out⟩
      case round =>
        clear hza hzb h0 h1 HI hor
        obtain ⟨a, b, rfl, rfl, hinv⟩ := hrel
        have HI := Lib.hid hinv
        by_cases hb : b = 0
        · have hb' : ((b : Int) != 0) = false := by rw [hb]; rfl
          have hg : a = g := by have := hinv.gcd; rw [hb, Nat.gcd_zero_right] at this; exact this
          have he : shlW a s = g * 2 ^ s := by rw [shlW, Nat.min_eq_left (by omega), hg, Nat.mod_eq_of_lt H64.out]
          have HE := Lib.hid he
          have HG := Lib.hid hg
          clear hb hinv hg he
          go_wp2_with fail
          go_ret
          exact ⟨ret_i (by rw [HE.out]; simp), rfl⟩
        · have hb' : ((b : Int) != 0) = true := by rw [bne_iff_ne]; omega
          have hst := hinv.step hb
          obtain ⟨⟨c1, c2, c3⟩, s1, s2⟩ := hst
          have hT := TZ.out b hb hinv.blt
          have hodd : 0 < a := by have := hinv.odd; omega
          have hal := hinv.alt
          have HT := Lib.hid hT
          have hs64 : Lib.ctz 64 b ≤ 63 := by have := (ctz_spec hb hinv.blt).1; omega
          clear hb hT hinv
          obtain ⟨c, hc⟩ : ∃ c, shrW b (Lib.ctz 64 b) = c := ⟨_, rfl⟩
          rw [hc] at c1 c2 c3 s1 s2
          have HAL := Lib.hid hal
          have HCL := Lib.hid c1
          rcases Nat.lt_or_ge c a with h | h
          · have hsb : subW a c = a - c := subW_le (by omega) hal
            have HS := Lib.hid (s2 h)
            clear s1 s2 hal c1
            go_wp2_with (go_at_call 163; refine HT.out.mono ?_; rintro e w2 ⟨rfl, rfl⟩)
            go_round
            case rel => exact ⟨_, _, rfl, rfl, HS.out⟩
            case measure => simp [intOf]; omega
          · have hsb : subW c a = c - a := subW_le h c1
            have HS := Lib.hid (s1 h)
            clear s1 s2 hal c1
            go_wp2_with (go_at_call 163; refine HT.out.mono ?_; rintro e w2 ⟨rfl, rfl⟩)
            go_round
            case rel => exact ⟨_, _, rfl, rfl, HS.out⟩
            case measure => simp [intOf]; omega
end Go.Proofs.YtekghemhccfhkaaGreatDoor
namespace Go.Proofs.YtekghemhccfhkaaGreatDoor
open Go.RowKit Go.Big
theorem tabs_below {w w' : World} (h : Tabs w) (hb : Below w.heap.size w w') : Tabs w' := by
  intro j hj
  exact (hb.cell (p := ⟨1, j, none⟩) (World.block_lt_of_cell? w _ (h j hj))).trans (h j hj)
def GcdRel (w : World) (G K g : Nat) (x y : Value) (wr : World) : Prop :=
  ∃ m k, k ≤ g ∧ k ≤ m ∧ m < B64 ^ K ∧ Nat.gcd m k = G ∧ NatV wr .u64 B64 x m ∧ NatV wr .u64 B64 y k ∧ Below w.heap.size w wr
theorem two_words {B : Nat} (hB : 0 < B) {l : List Nat} (hz : Nz l) (h : 2 ≤ l.length) : B ≤ val B l := by
  have h1 := val_ge (B := B) hz (by intro e; simp [e] at h)
  have h2 : B ^ 1 ≤ B ^ (l.length - 1) := Nat.pow_le_pow_right hB (by omega)
  rw [Nat.pow_one] at h2
  omega
/-- What the calls at the end leave. -/
def GePost (w0 : World) (g off x : Nat) (v : Value) (e : Ending) (w1 : World) : Prop := e = .returned v ∧ w1.cell? ⟨g, off, none⟩ = some (.int .u64 x) ∧ Below w0.heap.size w0 w1
theorem ge_same {w0 w1 : World} {g off x : Nat} (hc : w0.cell? ⟨g, off, none⟩ = some (.int .u64 x)) (h : Below w0.heap.size w0 w1) : w1.cell? ⟨g, off, none⟩ = some (.int .u64 x) :=
  (h.cell (p := ⟨g, off, none⟩) (World.block_lt_of_cell? w0 _ hc)).trans hc
theorem ge_rest {va : Value} {m x : Nat} {w0 : World} (ha : NatV w0 .u64 B64 va m) (hx0 : 0 < x) (hx : x < 18446744073709551616) {g off : Nat} (hc : w0.cell? ⟨g, off, none⟩ = some (.int .u64 x)) (w' : World) (h : Below w0.heap.size w0 w') :
    Calls Tryz.prog 166 #[va, .int .u64 x] w' (GePost w0 g off x (.int .u64 (m % x : Nat))) := by
  refine (restByWord_any (ha.below h) hx0 hx).mono ?_
  rintro e w1 ⟨rfl, n, rfl⟩
  have h2 := below_drewN h n
  exact ⟨rfl, ge_same hc h2, h2⟩
theorem ge_gcd {a b x : Nat} {w0 : World} (hT : Tabs w0) (ha : a < 18446744073709551616) (hb : b < 18446744073709551616) {g off : Nat} (hc : w0.cell? ⟨g, off, none⟩ = some (.int .u64 x)) (w' : World) (h : Below w0.heap.size w0 w') :
    Calls Tryz.prog 134 #[.int .u64 a, .int .u64 b] w' (GePost w0 g off x (.int .u64 (Nat.gcd a b))) := by
  refine (gcdWords_any ha hb w' (tabs_below hT h)).mono ?_
  rintro e w1 ⟨rfl, rfl⟩
  exact ⟨rfl, ge_same hc h, h⟩
theorem ge_word {r x : Nat} {w0 : World} (hr : r < B64) {g off : Nat} (hc : w0.cell? ⟨g, off, none⟩ = some (.int .u64 x)) (w' : World) (h : Below w0.heap.size w0 w') :
    Calls Tryz.prog 151 #[.int .u64 r] w' fun e w1 => ∃ v, NatV w1 .u64 B64 v r ∧ GePost w0 g off x v e w1 := by
  refine (fromWord_any r hr w').mono ?_
  rintro e w1 ⟨v, rfl, hv, hb⟩
  have h2 := below_trans h hb
  exact ⟨v, hv, rfl, ge_same hc h2, h2⟩
set_option maxRecDepth 100000 in
set_option maxHeartbeats 1000000 in
/-- gcd -/
theorem gcd_any {va vb : Value} {m k K : Nat} {w : World} (ha : NatV w .u64 B64 va m) (hb : NatV w .u64 B64 vb k) (hT : Tabs w) (hK : K < 239) (hm : m < B64 ^ K) (hk : k < B64 ^ K) :
    Calls Tryz.prog 135 #[va, vb] w (RetNat w (Nat.gcd m k)) := by
  obtain ⟨v, hv⟩ : ∃ v, cmpInt m k = v := ⟨_, rfl⟩
  have HC := Lib.hid (compare_at ha hb hv)
  have HA := Lib.hid ha
  have HBb := Lib.hid hb
  have HM := Lib.hid (And.intro hm hk)
  have HV := Lib.hid hv
  have HT := Lib.hid hT
  obtain ⟨G, hG⟩ : ∃ G, Nat.gcd m k = G := ⟨_, rfl⟩
  rw [hG]
  have HG := Lib.hid hG
  clear ha hb hm hk hv hT hG
  go_enter Tryz.func135, Tryz.ntmps135
  go_upto_if 11 with (go_at_call 155; refine HC.out.mono ?_; rintro e w1 ⟨rfl, hb1⟩)
  have HB1 := Lib.hid hb1
  clear hb1 HC
  go_cut [0, 1] (fun x y wr => ∃ g, GcdRel w G K g x y wr)
  case first =>
    have ha1 := HA.out.below HB1.out
    have hb1 := HBb.out.below HB1.out
    by_cases h : m < k
    · have hv1 : v = -1 := by rw [← HV.out]; exact cmpInt_lt (by omega)
      have HH := Lib.hid (show GcdRel w G K m vb va w1 from ⟨k, m, Nat.le_refl _, by omega, HM.out.2, by rw [Nat.gcd_comm]; exact HG.out, hb1, ha1, HB1.out⟩)
      clear ha1 hb1 h
      subst hv1
      go_wp2_with fail
      go_meet
      exact ⟨_, HH.out⟩
    · have hv1 : 0 ≤ v := by
        have := HV.out
        unfold cmpInt at this
        rw [if_neg (by omega)] at this
        split at this <;> (rw [← this]; decide)
      have HH := Lib.hid (show GcdRel w G K k va vb w1 from ⟨m, k, Nat.le_refl _, by omega, HM.out.1, HG.out, ha1, hb1, HB1.out⟩)
      clear ha1 hb1 h
      go_wp2_with fail
      go_meet
      exact ⟨_, HH.out⟩
  case rest =>
    obtain ⟨g0, hrel0⟩ := hcut
    have HR0 := Lib.hid hrel0
    clear hrel0 HA HBb HM HV HB1 HG
    go_wp2_with fail
    go_loopg [0, 1] g0 (fun g x y wr => GcdRel w G K g x y wr)
    case atStart => exact HR0.out
    case round =>
      clear HR0
      obtain ⟨m, k, hkg, hkm, hm, hG, ha, hb, hbel⟩ := hrel
      obtain ⟨bo, capb, lb, rfl, sb, wb, nb, eb⟩ := hb
      have hlm := sb.len_le
      by_cases h1 : 1 < lb.length
      · have hk64 : B64 ≤ k := by rw [← eb]; exact two_words (by decide) nb h1
        have hb : NatV wr .u64 B64 (.slice bo lb.length capb) k := ⟨bo, capb, lb, rfl, sb, wb, nb, eb⟩
        have HF := Lib.hid (findSteps_any ha hb hkm hk64)
        have HA := Lib.hid ha
        have HB := Lib.hid hb
        have HBel := Lib.hid hbel
        have HN := Lib.hid (And.intro hkg (And.intro hkm (And.intro hm (And.intro hG hk64))))
        clear ha hb hbel sb wb nb eb hkg hkm hm hG hk64
        go_wp2_with fail
        refine HF.out.mono ?_
        rintro e w1 ⟨S, c, aA, bA, aB, bB, x, y, P, Q, rfl, hinv, hcnt, hc, hb1⟩
        have HI := Lib.hid hinv
        have HCN := Lib.hid hcnt
        have HC34 := Lib.hid hc
        have HB1 := Lib.hid hb1
        clear hinv hcnt hc hb1
        have HB2 := Lib.hid (fun o => (HB1.out.alloc HB1.out.size o : Below wr.heap.size wr (w1.alloc o)))
        by_cases h0 : c = 0
        · subst h0
          go_wp2_with fail
          refine (divide_any (HA.out.below (HB2.out _)) (HB.out.below (HB2.out _)) hK HN.out.2.2.1 (Nat.lt_of_le_of_lt HN.out.2.1 HN.out.2.2.1) (by have := HN.out.2.2.2.2; have : (0 : Nat) < B64 := (by decide); omega)).mono ?_
          rintro e w2 ⟨q, r, rfl, hq, hr, hb2⟩
          have HR := Lib.hid hr
          have HB3 := Lib.hid (below_trans (HB2.out _) hb2)
          clear hq hr hb2
          have hk0 : 0 < k := by have := HN.out.2.2.2.2; have : (0 : Nat) < B64 := (by decide); omega
          have hlt := Nat.mod_lt m hk0
          have HLT := Lib.hid hlt
          clear hlt hk0
          go_wp2_with fail
          go_roundg (m % k)
          case rel => exact ⟨k, m % k, Nat.le_refl _, Nat.le_of_lt HLT.out, Nat.lt_of_le_of_lt HN.out.2.1 HN.out.2.2.1, by rw [← HN.out.2.2.2.1, Nat.gcd_comm k, ← Nat.gcd_rec, Nat.gcd_comm], HB.out.below HB3.out, HR.out, below_trans HBel.out HB3.out⟩
          case measure => have := HLT.out; have := HN.out.1; omega
        · have hcp : (0 : Int) < (c : Int) := by omega
          have hprog := Lib.hid (HI.out.prog (by omega))
          go_wp2_with fail
          refine (apply_any (HA.out.below (HB2.out _)) (HB.out.below (HB2.out _)) HI.out HCN.out HC34.out).mono ?_
          rintro e w2 ⟨p, q, rfl, hp, hq, hb2⟩
          have HP := Lib.hid hp
          have HQ := Lib.hid hq
          have HB3 := Lib.hid (below_trans (HB2.out _) hb2)
          clear hp hq hb2
          go_wp2_with fail
          go_roundg Q
          case rel => exact ⟨P, Q, Nat.le_refl _, HI.out.hPQ, Nat.lt_of_le_of_lt HI.out.hPm HN.out.2.2.1, by rw [HI.out.hg]; exact HN.out.2.2.2.1, HP.out, HQ.out, below_trans HBel.out HB3.out⟩
          case measure => have := hprog.out.1; have := HN.out.1; omega
      · by_cases h2 : lb.length = 0
        · have hk0 : k = 0 := by
            have : lb = [] := List.eq_nil_of_length_eq_zero h2
            rw [← eb, this]; rfl
          rw [hk0, Nat.gcd_zero_right] at hG
          have HA := Lib.hid (show RetNat w G (.returned u0) wr from ⟨_, rfl, by rw [← hG]; exact ha, hbel⟩)
          clear ha hbel sb wb nb eb hkg hkm hm hG hk0 h1
          rw [h2]
          go_wp2_with fail
          go_ret
          exact HA.out
        · have h3 : lb.length = 1 := by omega
          obtain ⟨gb, offb, rfl, hgb, hcb⟩ := sb.at (i := 0) (by omega)
          have hc0 := hcb 0 (by omega)
          rw [Nat.add_zero, one_word h3 eb] at hc0
          have hk : k < 18446744073709551616 := by
            have := val_lt wb
            rw [h3, Nat.pow_one, eb] at this
            exact this
          have hk0 : 0 < k := by
            have := val_ge (B := B64) nb (by intro e; simp [e] at h3)
            rw [h3, eb] at this
            simp at this
            omega
          have hlt := Nat.mod_lt m hk0
          have hTw := tabs_below HT.out hbel
          have c1 := ge_rest ha hk0 hk hc0
          have c2 := ge_gcd (a := k) (b := m % k) hTw hk (by omega) hc0
          have hgk : Nat.gcd k (m % k) = G := by rw [← hG, Nat.gcd_comm k, ← Nat.gcd_rec, Nat.gcd_comm]
          rw [hgk] at c2
          have hGk : G < B64 := by
            have := Nat.gcd_le_left (m % k) hk0
            rw [hgk] at this
            exact Nat.lt_of_le_of_lt this hk
          obtain ⟨rr, hrr⟩ : ∃ rr, m % k = rr := ⟨_, rfl⟩
          rw [hrr] at c1 c2
          have C1 := Lib.hid c1
          have C2 := Lib.hid c2
          have C3 := Lib.hid (ge_word hGk hc0)
          have B0 : Hid (Below wr.heap.size wr wr.drew) := Lib.hid (below_drewN (Below.refl wr.heap.size wr) 1)
          have HBel := Lib.hid hbel
          clear hcb sb wb nb eb hkg hkm hm hG hk0 hk hlt hTw hgk hGk hbel ha h1 h2 hlm c1 c2 hrr
          rw [h3]
          go_wp2_with fail
          go_region_held3 (fun w' => w'.cell? ⟨gb, offb, none⟩ = some (.int .u64 k) ∧ Below wr.heap.size wr w')
            (first | exact ⟨hc0, B0.out⟩ | exact ⟨s1, s2⟩ | fail)
            (first | (go_at_call 166; (with_reducible refine (C1.out _ B0.out).mono ?_); rintro e w1 ⟨rfl, s1, s2⟩) | (go_at_call 134; (with_reducible refine (C2.out _ s2).mono ?_); rintro e w2 ⟨rfl, s1, s2⟩) | (go_at_call 151; (with_reducible refine (C3.out _ s2).mono ?_); rintro e w3 ⟨v, hv, rfl, s1, s2⟩) | fail)
          have HF := Lib.hid (show RetNat w G (.returned v) _ from ⟨v, rfl, hv, below_trans HBel.out s2⟩)
          clear s1 s2 hv C1 C2 C3 B0 HBel hc0
          go_wp2_with fail
          go_ret
          exact HF.out
end Go.Proofs.YtekghemhccfhkaaGreatDoor
