/-
  Walks of the program's functions: BitLen.
-/
import Derived.Test.YtekghemhccfhkaaGreatDoorB15
import Derived.Test.YtekghemhccfhkaaGreatDoorB09
import Derived.Lib.BitFns
namespace Go.Big
open Go
theorem bitsAux_spec : ∀ (f x : Nat), x < 2 ^ f → 0 < x → 1 ≤ Lib.bitLenAux f x ∧ Lib.bitLenAux f x ≤ f ∧ 2 ^ (Lib.bitLenAux f x - 1) ≤ x ∧ x < 2 ^ Lib.bitLenAux f x
  | 0, x, h, h0 => by simp at h; omega
  | f + 1, x, h, h0 => by
    rw [Lib.bitLenAux, if_neg (by omega)]
    rw [Nat.pow_succ] at h
    rcases Nat.eq_zero_or_pos (x / 2) with h2 | h2
    · have e : Lib.bitLenAux f (x / 2) = 0 := by rw [h2]; cases f <;> simp [Lib.bitLenAux]
      rw [e]
      exact ⟨by omega, by omega, by simp; omega, by simp; omega⟩
    · obtain ⟨a, b, c, d⟩ := bitsAux_spec f (x / 2) (by omega) h2
      obtain ⟨t, ht⟩ : ∃ t, Lib.bitLenAux f (x / 2) = t + 1 := ⟨Lib.bitLenAux f (x / 2) - 1, by omega⟩
      rw [ht] at a b c d ⊢
      rw [Nat.add_sub_cancel] at c
      refine ⟨by omega, by omega, ?_, ?_⟩
      · rw [show 1 + (t + 1) - 1 = t + 1 from by omega, Nat.pow_succ]; omega
      · rw [show 1 + (t + 1) = t + 1 + 1 from by omega, Nat.pow_succ]; omega
theorem bits_spec {x : Nat} (h : x < 18446744073709551616) (h0 : 0 < x) : 1 ≤ Lib.bitLen x ∧ Lib.bitLen x ≤ 64 ∧ 2 ^ (Lib.bitLen x - 1) ≤ x ∧ x < 2 ^ Lib.bitLen x :=
  bitsAux_spec 64 x h h0
theorem B64_pow (n : Nat) : B64 ^ n = 2 ^ (64 * n) := by rw [Nat.pow_mul]
theorem bitLen_words {l : List Nat} {n b : Nat} (wl : Wd B64 l) (hl : l.length = n + 1) (h1 : 1 ≤ b) (h2 : 2 ^ (b - 1) ≤ nth l n) (h3 : nth l n < 2 ^ b) :
    2 ^ (64 * n + b - 1) ≤ val B64 l ∧ val B64 l < 2 ^ (64 * n + b) := by
  have e := take_val_nth B64 l n (by omega)
  rw [List.take_of_length_le (by omega)] at e
  have hlt : val B64 (l.take n) < B64 ^ n := by
    have := val_lt (wl.take n)
    rwa [List.length_take, Nat.min_eq_left (by omega)] at this
  rw [e, show 64 * n + b - 1 = 64 * n + (b - 1) from by omega, Nat.pow_add, Nat.pow_add, ← B64_pow]
  have m1 : B64 ^ n * 2 ^ (b - 1) ≤ B64 ^ n * nth l n := Nat.mul_le_mul_left _ h2
  have m2 : B64 ^ n * (nth l n + 1) ≤ B64 ^ n * 2 ^ b := Nat.mul_le_mul_left _ h3
  rw [Nat.mul_add, Nat.mul_one] at m2
  omega
end Go.Big
namespace Go.Proofs.YtekghemhccfhkaaGreatDoor
open Go.RowKit Go.Big
set_option maxRecDepth 100000 in
set_option maxHeartbeats 1000000 in
/-- (natural).bitLen -/
theorem bitLen_any {va : Value} {m : Nat} {w : World} (ha : NatV w .u64 B64 va m) (h0 : 0 < m) :
    Calls Tryz.prog 102 #[va] w fun e w' => ∃ L : Nat, e = .returned (.int .i64 L) ∧ w' = w ∧ 1 ≤ L ∧ 2 ^ (L - 1) ≤ m ∧ m < 2 ^ L ∧ L ≤ 70368744177664 := by
  obtain ⟨ao, capa, la, rfl, sa, wa, za, ea⟩ := ha
  have hne : la ≠ [] := by rintro rfl; rw [← ea] at h0; simp [val] at h0
  have hm := sa.len_le
  obtain ⟨n, hn⟩ : ∃ n, la.length = n + 1 := ⟨la.length - 1, by have := List.length_pos_iff.2 hne; omega⟩
  have ht := nth_of_Nz za hne
  rw [hn, Nat.add_sub_cancel] at ht
  have htl := wa.nth (i := n) (by omega)
  obtain ⟨ga, offa, rfl, _, hca⟩ := sa.at (i := n) (by omega)
  have c1 := hca n (by omega)
  obtain ⟨b1, b2, b3, b4⟩ := bits_spec htl (by omega)
  have hw := bitLen_words wa hn b1 b3 b4
  have hl := fun w => Proofs.Tryz.bits_Len64 (nth la n : Int) w (by omega) (by have : nth la n < 18446744073709551616 := htl; omega)
  rw [Int.toNat_natCast] at hl
  obtain ⟨b, hb⟩ : ∃ b, Lib.bitLen (nth la n) = b := ⟨_, rfl⟩
  rw [hb] at b1 b2 hw hl
  rw [ea] at hw
  have HW := Lib.hid hw
  have HL := Lib.hid hl
  rw [hn]
  clear b3 b4 hb hw hl ht htl hca sa wa za ea h0 hne
  go_enter Tryz.func102, Tryz.ntmps102
  go_wp2_with fail
  refine (HL.out _).mono ?_
  rintro e w1 ⟨rfl, rfl⟩
  go_wp2_with fail
  go_ret
  exact ⟨64 * n + b, ret_i (by push_cast; omega), rfl, by omega, HW.out.1, HW.out.2, by omega⟩
end Go.Proofs.YtekghemhccfhkaaGreatDoor
