/-
  Walks of the program's functions: DivMath.
-/
import Derived.Test.YtekghemhccfhkaaGreatDoorB05
import Derived.Lib.ItoaNum
namespace Go.Big
open Go Go.RowKit
abbrev b32 : Nat := 4294967296

/-- One digit in base 2^32 of the division by v1 * 2^32 + v0: what the correcting loop keeps. -/
structure DgInv (n u1 v1 v0 q r : Nat) : Prop where
  eq : q * v1 + r = n
  rlt : r < b32
  up : n * b32 + u1 < (q + 1) * (v1 * b32 + v0)

theorem DgInv.start {n u1 v1 v0 : Nat} (hv : b32 / 2 ≤ v1) (hv1 : v1 < b32) (hu : u1 < b32) : DgInv n u1 v1 v0 (n / v1) (n % v1) := by
  have h0 : 0 < v1 := by unfold b32 at hv; omega
  have hm := Nat.mod_lt n h0
  have hd := Nat.div_add_mod n v1
  refine ⟨by rw [Nat.mul_comm]; exact hd, by omega, ?_⟩
  have h1 : n + 1 ≤ (n / v1 + 1) * v1 := by
    rw [Nat.add_mul, Nat.one_mul, Nat.mul_comm]; omega
  have h2 : (n + 1) * b32 ≤ (n / v1 + 1) * v1 * b32 := Nat.mul_le_mul_right _ h1
  have h3 : (n / v1 + 1) * (v1 * b32 + v0) = (n / v1 + 1) * v1 * b32 + (n / v1 + 1) * v0 := by grind
  rw [h3]
  have h4 : (n + 1) * b32 = n * b32 + b32 := by grind
  omega

/-- q fits if the second digit's test fails. -/
theorem DgInv.le_of {n u1 v1 v0 q r : Nat} (h : DgInv n u1 v1 v0 q r) (ht : q * v0 ≤ b32 * r + u1) : q * (v1 * b32 + v0) ≤ n * b32 + u1 := by
  have := h.eq
  have e : q * (v1 * b32 + v0) + b32 * r = n * b32 + q * v0 := by rw [← h.eq]; grind
  omega

/-- A step of the loop. -/
theorem DgInv.step {n u1 v1 v0 q r : Nat} (h : DgInv n u1 v1 v0 q r) (hv0 : v0 < b32) (hn : n < v1 * b32 + v0) (hu : u1 < b32) (ht : b32 ≤ q ∨ b32 * r + u1 < q * v0) :
    0 < q ∧ (q - 1) * v1 + (r + v1) = n ∧ n * b32 + u1 < (q - 1 + 1) * (v1 * b32 + v0) := by
  have hq : 0 < q := by
    rcases ht with h1 | h1
    · omega
    · rcases Nat.eq_zero_or_pos q with h2 | h2
      · subst h2; simp at h1
      · exact h2
  obtain ⟨p, rfl⟩ : ∃ p, q = p + 1 := ⟨q - 1, by omega⟩
  refine ⟨hq, ?_, ?_⟩
  · have := h.eq
    simp only [Nat.add_sub_cancel]
    grind
  · simp only [Nat.add_sub_cancel]
    rcases ht with h1 | h1
    · have e1 : (n + 1) * b32 ≤ (v1 * b32 + v0) * b32 := Nat.mul_le_mul_right _ hn
      have e2 : b32 * (v1 * b32 + v0) ≤ (p + 1) * (v1 * b32 + v0) := Nat.mul_le_mul_right _ h1
      have e3 : (v1 * b32 + v0) * b32 = b32 * (v1 * b32 + v0) := Nat.mul_comm _ _
      have e4 : (n + 1) * b32 = n * b32 + b32 := by grind
      omega
    · have e := h.eq
      have e2 : (p + 1) * (v1 * b32 + v0) + b32 * r = n * b32 + (p + 1) * v0 := by rw [← h.eq]; grind
      omega

/-- What the loop ends with: the digit of the quotient. -/
structure Digit (num V q : Nat) : Prop where
  le : q * V ≤ num
  lt : num < (q + 1) * V
theorem Digit.lt32 {n u1 V q : Nat} (h : Digit (n * b32 + u1) V q) (hn : n < V) (hu : u1 < b32) : q < b32 := by
  have h1 : (n + 1) * b32 ≤ V * b32 := Nat.mul_le_mul_right _ hn
  have h2 : (n + 1) * b32 = n * b32 + b32 := by grind
  have h3 : q * V < b32 * V := by rw [Nat.mul_comm b32]; have := h.le; omega
  exact Nat.lt_of_mul_lt_mul_right h3

/-- Two digits make the quotient of U = m * b + u0 by V. -/
theorem two_digits {b m u0 V q1 q0 : Nat} (h1 : Digit m V q1) (h0 : Digit ((m - q1 * V) * b + u0) V q0) :
    (q1 * b + q0) * V + ((m - q1 * V) * b + u0 - q0 * V) = m * b + u0 ∧ (m - q1 * V) * b + u0 - q0 * V < V := by
  have a1 := h1.le
  have a0 := h0.le
  have b0 := h0.lt
  obtain ⟨r1, hr1⟩ : ∃ r1, m = q1 * V + r1 := ⟨m - q1 * V, by omega⟩
  have e1 : m - q1 * V = r1 := by omega
  rw [e1] at a0 b0
  rw [e1]
  obtain ⟨r0, hr0⟩ : ∃ r0, r1 * b + u0 = q0 * V + r0 := ⟨r1 * b + u0 - q0 * V, by omega⟩
  have e0 : r1 * b + u0 - q0 * V = r0 := by omega
  rw [e0]
  refine ⟨?_, ?_⟩
  · rw [hr1]
    have : (q1 * V + r1) * b + u0 = q1 * b * V + (r1 * b + u0) := by grind
    rw [this, hr0]; grind
  · have : (q0 + 1) * V = q0 * V + V := by grind
    omega
/-- bits.LeadingZeros64: the shift that brings the first bit to the top. -/
theorem lz_exists {x : Nat} (h0 : 0 < x) (hx : x < 18446744073709551616) : ∃ s : Nat, s < 64 ∧ (64 : Int) - (Lib.bitLen x : Int) = (s : Int) ∧ 9223372036854775808 ≤ x * 2 ^ s ∧ x * 2 ^ s < 18446744073709551616 := by
  obtain ⟨h1, h2, h3⟩ := Lib.bitLenAux_bounds 64 x hx (by omega)
  have h4 := Lib.bitLen_le x 64 (by decide) hx
  change 1 ≤ Lib.bitLen x at h1
  change 2 ^ (Lib.bitLen x - 1) ≤ x at h2
  change x < 2 ^ Lib.bitLen x at h3
  refine ⟨64 - Lib.bitLen x, by omega, by omega, ?_, ?_⟩
  · have : 2 ^ (Lib.bitLen x - 1) * 2 ^ (64 - Lib.bitLen x) ≤ x * 2 ^ (64 - Lib.bitLen x) := Nat.mul_le_mul_right _ h2
    rw [← Nat.pow_add, show Lib.bitLen x - 1 + (64 - Lib.bitLen x) = 63 from by omega] at this
    exact this
  · have : x * 2 ^ (64 - Lib.bitLen x) < 2 ^ Lib.bitLen x * 2 ^ (64 - Lib.bitLen x) := Nat.mul_lt_mul_of_pos_right h3 (Nat.pow_pos (by decide))
    rw [← Nat.pow_add, show Lib.bitLen x + (64 - Lib.bitLen x) = 64 from by omega] at this
    exact this
end Go.Big
