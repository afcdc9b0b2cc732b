/-
  Walks of the program's functions: IxMath.
-/
import Derived.Test.YtekghemhccfhkaaGreatDoorB01
import Derived.Laws.RangeAny
import Derived.Lib.OthersKept
namespace Go.Big
open Go Go.RowKit
theorem valid_le {r : Int} (h : Utf8.valid r = true) : 0 ≤ r ∧ r ≤ 1114111 ∧ (r < 55296 ∨ 57343 < r) := by
  unfold Utf8.valid at h
  simp only [Bool.or_eq_true, Bool.and_eq_true, decide_eq_true_eq] at h
  omega
/-- What the decoder gives at a byte from 128 on. -/
theorem dec_high (s : ByteArray) (i : Nat) (h : i < s.size) (ha : 128 ≤ (s.get! i).toNat) :
    ∃ r k, Utf8.decode s i = (r, k) ∧ 128 ≤ r ∧ Utf8.valid r = true ∧ 1 ≤ k ∧ i + k ≤ s.size ∧ ∀ j, j < k → 128 ≤ (s.get! (i + j)).toNat := by
  have hv : Utf8.valid (65533 : Nat) = true := by decide
  have hn : ¬ (s.get! (i + 0)).toNat < 128 := by rw [Nat.add_zero]; omega
  have ha0 : 128 ≤ (s.get! (i + 0)).toNat := by omega
  have herr : ∀ j, j < 1 → 128 ≤ (s.get! (i + j)).toNat := fun j hj => by
    have : j = 0 := by omega
    subst this; exact ha0
  have b0 := (s.get! (i + 0)).toNat_lt
  have b1 := (s.get! (i + 1)).toNat_lt
  have b2 := (s.get! (i + 2)).toNat_lt
  have b3 := (s.get! (i + 3)).toNat_lt
  unfold Utf8.decode
  simp only [hn, if_false, Utf8.runeError]
  split
  · next h1 =>
    simp only [Bool.and_eq_true, beq_iff_eq, decide_eq_true_eq] at h1
    split
    · next h2 =>
      refine ⟨_, _, rfl, h2, ?_, by omega, by omega, fun j hj => ?_⟩
      · unfold Utf8.valid; simp only [Bool.or_eq_true, Bool.and_eq_true, decide_eq_true_eq]; left; omega
      · have : j = 0 ∨ j = 1 := by omega
        rcases this with rfl | rfl
        · exact herr 0 (by omega)
        · omega
    · exact ⟨_, _, rfl, by decide, hv, by omega, by omega, herr⟩
  · split
    · next h1 =>
      simp only [Bool.and_eq_true, beq_iff_eq, decide_eq_true_eq] at h1
      split
      · next h2 =>
        simp only [Bool.and_eq_true, decide_eq_true_eq] at h2
        refine ⟨_, _, rfl, by omega, h2.2, by omega, by omega, fun j hj => ?_⟩
        have : j = 0 ∨ j = 1 ∨ j = 2 := by omega
        rcases this with rfl | rfl | rfl
        · exact herr 0 (by omega)
        · omega
        · omega
      · exact ⟨_, _, rfl, by decide, hv, by omega, by omega, herr⟩
    · split
      · next h1 =>
        simp only [Bool.and_eq_true, beq_iff_eq, decide_eq_true_eq] at h1
        split
        · next h2 =>
          simp only [Bool.and_eq_true, decide_eq_true_eq] at h2
          refine ⟨_, _, rfl, by omega, h2.2, by omega, by omega, fun j hj => ?_⟩
          have : j = 0 ∨ j = 1 ∨ j = 2 ∨ j = 3 := by omega
          rcases this with rfl | rfl | rfl | rfl
          · exact herr 0 (by omega)
          · omega
          · omega
          · omega
        · exact ⟨_, _, rfl, by decide, hv, by omega, by omega, herr⟩
      · exact ⟨_, _, rfl, by decide, hv, by omega, by omega, herr⟩
/-- What a rune from 128 on is written as. -/
theorem enc_high {r : Int} (h : 128 ≤ r) (hv : Utf8.valid r = true) : (∃ x y : UInt8, Utf8.encode r = ⟨#[x, y]⟩ ∧ 128 ≤ y.toNat) ∨ (∃ x y z : UInt8, Utf8.encode r = ⟨#[x, y, z]⟩) ∨ ∃ x y z u : UInt8, Utf8.encode r = ⟨#[x, y, z, u]⟩ := by
  obtain ⟨n, rfl⟩ : ∃ n : Nat, r = n := ⟨r.toNat, by omega⟩
  unfold Utf8.encode
  simp only [hv, if_true, Int.toNat_natCast]
  rw [if_neg (by omega)]
  split
  · refine .inl ⟨_, _, rfl, ?_⟩
    rw [UInt8.toNat_ofNat', Nat.mod_eq_of_lt (by omega)]; omega
  · split
    · exact .inr (.inl ⟨_, _, _, rfl⟩)
    · exact .inr (.inr ⟨_, _, _, _, rfl⟩)
end Go.Big
