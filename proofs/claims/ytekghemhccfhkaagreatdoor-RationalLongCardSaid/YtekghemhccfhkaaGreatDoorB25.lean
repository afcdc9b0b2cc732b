/-
  Walks of the program's functions: GcdWMath.
-/
import Derived.Test.YtekghemhccfhkaaGreatDoorB05
import Derived.Lib.TrailingZeros
namespace Go.Big
open Go
/-- The number of trailing zeros, and what is left. -/
theorem ctz_spec {x : Nat} (h0 : x ≠ 0) (hx : x < 18446744073709551616) : Lib.ctz 64 x < 64 ∧ ∃ m, x = 2 ^ Lib.ctz 64 x * (2 * m + 1) := by
  have h := Lib.ctzFrom_spec 64 x (by omega) hx
  obtain ⟨m, h1, h2⟩ := h
  simp only [Lib.ctz, h0, if_false]
  exact ⟨h2, m, h1⟩
theorem two_unique {i j m n : Nat} (h : 2 ^ i * (2 * m + 1) = 2 ^ j * (2 * n + 1)) : i = j := by
  rcases Nat.lt_trichotomy i j with h1 | h1 | h1
  · obtain ⟨d, rfl⟩ : ∃ d, j = i + (d + 1) := ⟨j - i - 1, by omega⟩
    have e : 2 ^ (i + (d + 1)) * (2 * n + 1) = 2 ^ i * (2 * (2 ^ d * (2 * n + 1))) := by rw [Nat.pow_add, Nat.pow_succ]; grind
    rw [e] at h
    have := Nat.eq_of_mul_eq_mul_left (Nat.pow_pos (by decide)) h
    omega
  · exact h1
  · obtain ⟨d, rfl⟩ : ∃ d, i = j + (d + 1) := ⟨i - j - 1, by omega⟩
    have e : 2 ^ (j + (d + 1)) * (2 * m + 1) = 2 ^ j * (2 * (2 ^ d * (2 * m + 1))) := by rw [Nat.pow_add, Nat.pow_succ]; grind
    rw [e] at h
    have := Nat.eq_of_mul_eq_mul_left (Nat.pow_pos (by decide)) h
    omega
theorem or_odd {x y : Nat} (h : x % 2 = 1 ∨ y % 2 = 1) : ∃ m, x ||| y = 2 * m + 1 := by
  have : (x ||| y).testBit 0 = true := by
    rw [Nat.testBit_or, Nat.testBit_zero, Nat.testBit_zero]
    simpa using h
  rw [Nat.testBit_zero] at this
  refine ⟨(x ||| y) / 2, ?_⟩
  have h2 : (x ||| y) % 2 = 1 := by simpa using this
  omega
theorem or_mul (i x y : Nat) : 2 ^ i * x ||| 2 ^ i * y = 2 ^ i * (x ||| y) := by
  have h := Nat.shiftLeft_or_distrib (a := x) (b := y) (i := i)
  simp only [Nat.shiftLeft_eq] at h
  rw [Nat.mul_comm, Nat.mul_comm (2 ^ i) y, Nat.mul_comm (2 ^ i) (x ||| y), h]
/-- The trailing zeros of 'a | b' are those of the one that has fewer. -/
theorem ctz_or {a b : Nat} (ha : a ≠ 0) (hb : b ≠ 0) (ha' : a < 18446744073709551616) (hb' : b < 18446744073709551616) :
    Lib.ctz 64 (a ||| b) = min (Lib.ctz 64 a) (Lib.ctz 64 b) := by
  obtain ⟨_, m, hm⟩ := ctz_spec ha ha'
  obtain ⟨_, n, hn⟩ := ctz_spec hb hb'
  have hlt : a ||| b < 18446744073709551616 := Nat.or_lt_two_pow (n := 64) ha' hb'
  have h0 : a ||| b ≠ 0 := by
    intro h
    have := (Nat.or_eq_zero_iff).1 h
    exact ha this.1
  obtain ⟨_, k, hk⟩ := ctz_spec h0 hlt
  generalize Lib.ctz 64 (a ||| b) = z at *
  generalize Lib.ctz 64 a = i at *
  generalize Lib.ctz 64 b = j at *
  rcases Nat.le_total i j with h | h
  · obtain ⟨d, rfl⟩ : ∃ d, j = i + d := ⟨j - i, by omega⟩
    rw [Nat.min_eq_left h]
    have e : b = 2 ^ i * (2 ^ d * (2 * n + 1)) := by rw [hn, Nat.pow_add, Nat.mul_assoc]
    have e2 : a ||| b = 2 ^ i * ((2 * m + 1) ||| (2 ^ d * (2 * n + 1))) := by rw [e]; rw [hm]; exact or_mul _ _ _
    obtain ⟨q, hq⟩ := or_odd (x := 2 * m + 1) (y := 2 ^ d * (2 * n + 1)) (.inl (by omega))
    rw [hq, hk] at e2
    exact two_unique e2
  · obtain ⟨d, rfl⟩ : ∃ d, i = j + d := ⟨i - j, by omega⟩
    rw [Nat.min_eq_right h]
    have e : a = 2 ^ j * (2 ^ d * (2 * m + 1)) := by rw [hm, Nat.pow_add, Nat.mul_assoc]
    have e2 : a ||| b = 2 ^ j * ((2 ^ d * (2 * m + 1)) ||| (2 * n + 1)) := by rw [e]; rw [hn]; exact or_mul _ _ _
    obtain ⟨q, hq⟩ := or_odd (x := 2 ^ d * (2 * m + 1)) (y := 2 * n + 1) (.inr (by omega))
    rw [hq, hk] at e2
    exact two_unique e2
theorem odd_coprime {a : Nat} (h : a % 2 = 1) (k : Nat) : Nat.Coprime (2 ^ k) a := by
  apply Nat.Coprime.pow_left
  unfold Nat.Coprime
  rw [Nat.gcd_rec, h]
  rfl
theorem gcd_odd {a b k : Nat} (h : a % 2 = 1) : Nat.gcd a (2 ^ k * b) = Nat.gcd a b := Nat.Coprime.gcd_mul_left_cancel_right _ (odd_coprime h k)
/-- What the loop of gcdWords keeps: a is odd. -/
structure GwInv (g a b : Nat) : Prop where
  odd : a % 2 = 1
  gcd : Nat.gcd a b = g
  alt : a < 18446744073709551616
  blt : b < 18446744073709551616
theorem GwInv.start {a b : Nat} (ha : a ≠ 0) (hb : b ≠ 0) (ha' : a < 18446744073709551616) (hb' : b < 18446744073709551616) :
    ∃ g, GwInv g (shrW a (Lib.ctz 64 a)) b ∧ Nat.gcd a b = g * 2 ^ Lib.ctz 64 (a ||| b) := by
  obtain ⟨h1, m, hm⟩ := ctz_spec ha ha'
  obtain ⟨h2, n, hn⟩ := ctz_spec hb hb'
  rw [ctz_or ha hb ha' hb']
  have e : shrW a (Lib.ctz 64 a) = 2 * m + 1 := by
    rw [shrW_eq (by omega)]
    exact Nat.div_eq_of_eq_mul_right (Nat.pow_pos (by decide)) hm
  rw [e]
  have hm' : 2 * m + 1 ≤ a := by
    have : 1 * (2 * m + 1) ≤ 2 ^ Lib.ctz 64 a * (2 * m + 1) := Nat.mul_le_mul_right _ (Nat.pow_pos (by decide))
    rw [← hm, Nat.one_mul] at this
    exact this
  refine ⟨Nat.gcd (2 * m + 1) b, ⟨by omega, rfl, by omega, hb'⟩, ?_⟩
  generalize Lib.ctz 64 a = i at *
  generalize Lib.ctz 64 b = j at *
  have hg : Nat.gcd (2 * m + 1) b = Nat.gcd (2 * m + 1) (2 * n + 1) := by rw [hn]; exact gcd_odd (by omega)
  rw [hg]
  rcases Nat.le_total i j with h | h
  · obtain ⟨d, rfl⟩ : ∃ d, j = i + d := ⟨j - i, by omega⟩
    rw [Nat.min_eq_left h, hm, hn, Nat.pow_add, Nat.mul_assoc, Nat.gcd_mul_left, gcd_odd (by omega), Nat.mul_comm]
  · obtain ⟨d, rfl⟩ : ∃ d, i = j + d := ⟨i - j, by omega⟩
    rw [Nat.min_eq_right h, hm, hn, Nat.pow_add, Nat.mul_assoc, Nat.gcd_mul_left, Nat.gcd_comm, gcd_odd (by omega), Nat.gcd_comm, Nat.mul_comm]
/-- One round: b without its trailing zeros, then the difference. -/
theorem GwInv.step {g a b : Nat} (h : GwInv g a b) (hb : b ≠ 0) :
    let c := shrW b (Lib.ctz 64 b)
    (c < 18446744073709551616 ∧ c ≤ b ∧ 0 < c) ∧ (a ≤ c → GwInv g a (c - a)) ∧ (c < a → GwInv g c (a - c)) := by
  obtain ⟨h1, m, hm⟩ := ctz_spec hb h.blt
  have e : shrW b (Lib.ctz 64 b) = 2 * m + 1 := by
    rw [shrW_eq (by omega)]
    exact Nat.div_eq_of_eq_mul_right (Nat.pow_pos (by decide)) hm
  simp only [e]
  have hm' : 2 * m + 1 ≤ b := by
    have : 1 * (2 * m + 1) ≤ 2 ^ Lib.ctz 64 b * (2 * m + 1) := Nat.mul_le_mul_right _ (Nat.pow_pos (by decide))
    rw [← hm, Nat.one_mul] at this
    exact this
  have hgc : Nat.gcd a (2 * m + 1) = g := by
    rw [← h.gcd]
    conv => rhs; rw [hm]
    exact (gcd_odd h.odd).symm
  have hbl := h.blt
  have hal := h.alt
  refine ⟨⟨by omega, hm', by omega⟩, fun hle => ⟨h.odd, ?_, hal, by omega⟩, fun hlt => ⟨by omega, ?_, by omega, by omega⟩⟩
  · rw [Nat.gcd_sub_self_right hle]; exact hgc
  · rw [Nat.gcd_sub_self_right (by omega), Nat.gcd_comm]; exact hgc
end Go.Big
