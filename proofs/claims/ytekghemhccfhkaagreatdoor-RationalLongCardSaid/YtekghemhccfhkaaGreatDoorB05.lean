/-
  Walks of the program's functions: Ops, ShMath, LehMath.
-/
import Derived.Test.YtekghemhccfhkaaGreatDoorB04
namespace Go.Big
open Go Go.RowKit
def addW (x y : Nat) : Nat := (x + y) % 18446744073709551616
def subW (x y : Nat) : Nat := (((x : Int) - (y : Int)) % 18446744073709551616).toNat
def mulW (x y : Nat) : Nat := (x * y) % 18446744073709551616
def shlW (x n : Nat) : Nat := (x * 2 ^ (min n 64)) % 18446744073709551616
def shrW (x n : Nat) : Nat := x / 2 ^ (min n 64)
def orW (x y : Nat) : Nat := (x % 18446744073709551616) ||| (y % 18446744073709551616)
def andW (x y : Nat) : Nat := (x % 18446744073709551616) &&& (y % 18446744073709551616)
def quoW (x y : Nat) : Nat := (x / y) % 18446744073709551616

theorem wrap_nat (n : Nat) : IntKind.u64.wrap (n : Int) = ((n % 18446744073709551616 : Nat) : Int) := by
  simp [IntKind.wrap, IntKind.signed, IntKind.bits]

theorem run_addW (x y : Nat) : Op.intArith .add .u64 (x : Int) (y : Int) = pure (.int .u64 (addW x y : Nat)) := by
  have := wrap_nat (x + y)
  simp only [Op.intArith, addW]
  rw [← this]; rfl
theorem run_mulW (x y : Nat) : Op.intArith .mul .u64 (x : Int) (y : Int) = pure (.int .u64 (mulW x y : Nat)) := by
  have := wrap_nat (x * y)
  simp only [Op.intArith, mulW]
  rw [← this, Int.natCast_mul]
theorem run_subW (x y : Nat) : Op.intArith .sub .u64 (x : Int) (y : Int) = pure (.int .u64 (subW x y : Nat)) := by
  have h : IntKind.u64.wrap ((x : Int) - (y : Int)) = (subW x y : Nat) := by
    simp only [subW, IntKind.wrap, IntKind.signed, IntKind.bits]
    have : 0 ≤ ((x : Int) - (y : Int)) % 18446744073709551616 := Int.emod_nonneg _ (by decide)
    simp [Int.toNat_of_nonneg this]
  simp only [Op.intArith]
  rw [← h]
theorem run_shlW (x n : Nat) (ky : IntKind) : Op.shift .shl .u64 (x : Int) ky (n : Int) = pure (.int .u64 (shlW x n : Nat)) := by
  have h : ¬ ((n : Int) < 0) := by omega
  have e : IntKind.u64.wrap ((x : Int) * 2 ^ (min n 64)) = (shlW x n : Nat) := by
    have := wrap_nat (x * 2 ^ (min n 64))
    rw [shlW, ← this]; simp
  simp only [Op.shift, h, if_false, IntKind.bits, Int.toNat_natCast]
  rw [← e]
theorem run_shrW (x n : Nat) (ky : IntKind) : Op.shift .shr .u64 (x : Int) ky (n : Int) = pure (.int .u64 (shrW x n : Nat)) := by
  have h : ¬ ((n : Int) < 0) := by omega
  have e : (x : Int).fdiv (2 ^ (min n 64)) = (shrW x n : Nat) := by
    rw [shrW, Int.fdiv_eq_ediv_of_nonneg _ (by have : (0:Int) < 2 ^ min n 64 := Int.pow_pos (by decide); omega)]
    simp
  simp only [Op.shift, h, if_false, IntKind.bits, Int.toNat_natCast]
  rw [← e]
theorem run_orW (x y : Nat) : Op.intBits .or .u64 (x : Int) (y : Int) = pure (.int .u64 (orW x y : Nat)) := by
  have h1 : orW x y < 18446744073709551616 := Nat.or_lt_two_pow (n := 64) (Nat.mod_lt _ (by decide)) (Nat.mod_lt _ (by decide))
  have e : IntKind.u64.wrap ((BitVec.ofInt 64 x ||| BitVec.ofInt 64 y).toNat : Int) = (orW x y : Nat) := by
    rw [wrap_nat]
    congr 1
    rw [BitVec.toNat_or]
    simp [orW] at h1 ⊢
    exact h1
  simp only [Op.intBits, IntKind.bits]
  rw [← e]; rfl
theorem run_andW (x y : Nat) : Op.intBits .and .u64 (x : Int) (y : Int) = pure (.int .u64 (andW x y : Nat)) := by
  have h1 : andW x y < 18446744073709551616 := Nat.and_lt_two_pow (n := 64) _ (Nat.mod_lt _ (by decide))
  have e : IntKind.u64.wrap ((BitVec.ofInt 64 x &&& BitVec.ofInt 64 y).toNat : Int) = (andW x y : Nat) := by
    rw [wrap_nat]
    congr 1
    rw [BitVec.toNat_and]
    simp [andW] at h1 ⊢
    exact h1
  simp only [Op.intBits, IntKind.bits]
  rw [← e]; rfl
theorem run_quoW (x y : Nat) (h : 0 < y) : Op.intDiv .quo .u64 (x : Int) (y : Int) = pure (.int .u64 (quoW x y : Nat)) := by
  have h0 : ¬ ((y : Int) = 0) := by omega
  have e : IntKind.u64.wrap ((x : Int).tdiv y) = (quoW x y : Nat) := by
    have := wrap_nat (x / y)
    rw [quoW, ← this]; rfl
  simp only [Op.intDiv, h0, if_false]
  rw [← e]
theorem run_remW (x y : Nat) (h : 0 < y) : Op.intDiv .rem .u64 (x : Int) (y : Int) = pure (.int .u64 (x % y : Nat)) := by
  have h0 : ¬ ((y : Int) = 0) := by omega
  simp only [Op.intDiv, h0, if_false]
  rfl
attribute [go_sem ↓] run_addW run_subW run_mulW run_shlW run_shrW run_orW run_andW run_quoW run_remW
end Go.Big
namespace Go.Big
theorem subW_le {x y : Nat} (h : y ≤ x) (hx : x < 18446744073709551616) : subW x y = x - y := by unfold subW; omega
theorem addW_lt' {x y : Nat} (h : x + y < 18446744073709551616) : addW x y = x + y := Nat.mod_eq_of_lt h
theorem mulW_lt' {x y : Nat} (h : x * y < 18446744073709551616) : mulW x y = x * y := Nat.mod_eq_of_lt h
theorem andW_mask {x : Nat} (hx : x < 18446744073709551616) : andW x 4294967295 = x % 4294967296 := by
  rw [andW, Nat.mod_eq_of_lt hx]
  exact Nat.and_two_pow_sub_one_eq_mod x 32
theorem shrW32 (x : Nat) : shrW x 32 = x / 4294967296 := rfl
end Go.Big
namespace Go.Big
theorem run_shr32 (x : Nat) (ky : IntKind) : Op.shift .shr .u64 (x : Int) ky 32 = pure (.int .u64 (shrW x 32 : Nat)) := run_shrW x 32 ky
theorem run_shr1 (x : Nat) (ky : IntKind) : Op.shift .shr .u64 (x : Int) ky 1 = pure (.int .u64 (shrW x 1 : Nat)) := run_shrW x 1 ky
theorem run_and32 (x : Nat) : Op.intBits .and .u64 (x : Int) 4294967295 = pure (.int .u64 (andW x 4294967295 : Nat)) := run_andW x 4294967295
theorem run_and1 (x : Nat) : Op.intBits .and .u64 (x : Int) 1 = pure (.int .u64 (andW x 1 : Nat)) := run_andW x 1
theorem run_mul32 (x : Nat) : Op.intArith .mul .u64 (x : Int) 4294967296 = pure (.int .u64 (mulW x 4294967296 : Nat)) := run_mulW x 4294967296
theorem run_32mul (x : Nat) : Op.intArith .mul .u64 4294967296 (x : Int) = pure (.int .u64 (mulW 4294967296 x : Nat)) := run_mulW 4294967296 x
theorem run_sub1 (x : Nat) : Op.intArith .sub .u64 (x : Int) 1 = pure (.int .u64 (subW x 1 : Nat)) := run_subW x 1
theorem run_add1 (x : Nat) : Op.intArith .add .u64 (x : Int) 1 = pure (.int .u64 (addW x 1 : Nat)) := run_addW x 1
theorem run_64sub (x : Nat) : Op.intArith .sub .u64 64 (x : Int) = pure (.int .u64 (subW 64 x : Nat)) := run_subW 64 x
attribute [go_sem ↓] run_shr32 run_shr1 run_and32 run_and1 run_mul32 run_32mul run_sub1 run_add1 run_64sub
end Go.Big
namespace Go.Big
open Go Go.RowKit
theorem pow64 {s t : Nat} (h : s + t = 64) : 2 ^ s * 2 ^ t = 18446744073709551616 := by rw [← Nat.pow_add, h]
theorem shlW_eq {x s t : Nat} (h : s + t = 64) : shlW x s = 2 ^ s * (x % 2 ^ t) := by
  have e : min s 64 = s := by omega
  rw [shlW, e, ← pow64 h, Nat.mul_comm (2 ^ s), Nat.mul_mod_mul_right, Nat.mul_comm]
theorem shrW_eq {x s : Nat} (h : s ≤ 64) : shrW x s = x / 2 ^ s := by rw [shrW, Nat.min_eq_left h]
theorem shl_split {x s t : Nat} (h : s + t = 64) : shlW x s + 18446744073709551616 * shrW x t = x * 2 ^ s := by
  rw [shlW_eq h, shrW_eq (by omega), ← pow64 h, Nat.mul_assoc, ← Nat.mul_add, Nat.add_comm (x % 2 ^ t), Nat.div_add_mod, Nat.mul_comm]
theorem shlW_lt (x s : Nat) : shlW x s < 18446744073709551616 := Nat.mod_lt _ (by decide)
theorem shrW_lt {x s t : Nat} (h : s + t = 64) (hx : x < 18446744073709551616) : shrW x t < 2 ^ s := by
  rw [shrW_eq (by omega), Nat.div_lt_iff_lt_mul (Nat.pow_pos (by decide)), pow64 h]; exact hx
theorem orW_add {a x s t : Nat} (h : s + t = 64) (ha : a < 2 ^ s) : orW a (shlW x s) = a + shlW x s := by
  have h1 : a < 18446744073709551616 := by
    have : 2 ^ s * 1 ≤ 2 ^ s * 2 ^ t := Nat.mul_le_mul_left _ (Nat.pow_pos (by decide))
    rw [pow64 h] at this; omega
  rw [orW, Nat.mod_eq_of_lt h1, Nat.mod_eq_of_lt (shlW_lt _ _), shlW_eq h, Nat.or_comm, ← Nat.two_pow_add_eq_or_of_lt ha, Nat.add_comm]
theorem orW_lt (x y : Nat) : orW x y < 18446744073709551616 := Nat.or_lt_two_pow (n := 64) (Nat.mod_lt _ (by decide)) (Nat.mod_lt _ (by decide))

/-- 'shiftLeft' behind k words. -/
structure ShlInv (la : List Nat) (s k : Nat) (cur : List Nat) : Prop where
  len : cur.length = la.length + 1
  wd : Wd B64 cur
  rest : ∀ j, k < j → nth cur j = 0
  top : nth cur k < 2 ^ s
  eq : val B64 (cur.take (k + 1)) = val B64 (la.take k) * 2 ^ s

theorem ShlInv.start (la : List Nat) (s : Nat) : ShlInv la s 0 (zeros (la.length + 1)) :=
  ⟨zeros_len _, zeros_wd (by decide) _, fun _ _ => zeros_nth _ _, by rw [zeros_nth]; exact Nat.pow_pos (by decide), by
    rw [take_val_nth _ _ _ (by rw [zeros_len]; omega), zeros_nth]; simp [val]⟩

theorem ShlInv.step {la cur : List Nat} {s t k : Nat} (h : ShlInv la s k cur) (hst : s + t = 64) (wa : Wd B64 la) (hk : k < la.length) :
    ShlInv la s (k + 1) ((cur.set k (orW (nth cur k) (shlW (nth la k) s))).set (k + 1) (shrW (nth la k) t)) := by
  have hl := h.len
  have hx := wa.nth hk
  have hlen1 : (cur.set k (orW (nth cur k) (shlW (nth la k) s))).length = cur.length := List.length_set
  have hhi : shrW (nth la k) t < 2 ^ s := shrW_lt hst hx
  refine ⟨by rw [List.length_set, List.length_set, hl], (h.wd.set (orW_lt _ _)).set ?_, ?_, ?_, ?_⟩
  · rw [shrW_eq (by omega)]; exact Nat.lt_of_le_of_lt (Nat.div_le_self _ _) hx
  · intro j hj
    rw [nth_set_ne (by omega), nth_set_ne (by omega)]
    exact h.rest j (by omega)
  · rw [nth_set_self (by omega)]; exact hhi
  · rw [take_val_nth _ _ _ (by rw [List.length_set, List.length_set]; omega), nth_set_self (by omega), List.take_set_of_le (Nat.le_refl _),
      set_take_val _ _ _ _ (by omega), orW_add hst h.top, take_val_nth B64 la k hk]
    have e1 := h.eq
    rw [take_val_nth _ _ _ (by omega)] at e1
    have e2 := shl_split (x := nth la k) hst
    rw [Nat.pow_succ]
    grind

theorem ShlInv.done {la cur : List Nat} {s : Nat} (h : ShlInv la s la.length cur) : val B64 cur = val B64 la * 2 ^ s := by
  have := h.eq
  rwa [List.take_of_length_le (by rw [h.len]; omega), List.take_length] at this

/-- 'shiftRight' behind k words. -/
structure ShrInv (la : List Nat) (s t k : Nat) (cur : List Nat) : Prop where
  len : cur.length = la.length
  wd : Wd B64 cur
  top : 0 < k → nth cur (k - 1) < 2 ^ t
  eq : val B64 (cur.take k) = val B64 (la.take k) / 2 ^ s

theorem ShrInv.start (la : List Nat) (s t : Nat) : ShrInv la s t 0 (zeros la.length) :=
  ⟨zeros_len _, zeros_wd (by decide) _, fun h => absurd h (by omega), by simp [val]⟩

theorem ShrInv.step0 {la cur : List Nat} {s t : Nat} (h : ShrInv la s t 0 cur) (hst : s + t = 64) (wa : Wd B64 la) (hk : 0 < la.length) :
    ShrInv la s t 1 (cur.set 0 (shrW (nth la 0) s)) := by
  have hl := h.len
  have hx := wa.nth hk
  have hhi : shrW (nth la 0) s < 2 ^ t := shrW_lt (by omega) hx
  refine ⟨by rw [List.length_set, hl], h.wd.set ?_, fun _ => by rw [nth_set_self (by omega)]; exact hhi, ?_⟩
  · rw [shrW_eq (by omega)]; exact Nat.lt_of_le_of_lt (Nat.div_le_self _ _) hx
  · rw [set_take_val _ _ _ _ (by omega), take_val_nth _ _ _ hk, shrW_eq (by omega)]
    simp [val]

theorem ShrInv.step {la cur : List Nat} {s t k : Nat} (h : ShrInv la s t (k + 1) cur) (hst : s + t = 64) (wa : Wd B64 la) (hk : k + 1 < la.length) :
    ShrInv la s t (k + 2) ((cur.set (k + 1) (shrW (nth la (k + 1)) s)).set k (orW (nth cur k) (shlW (nth la (k + 1)) t))) := by
  have hl := h.len
  have hx := wa.nth hk
  have hhi : shrW (nth la (k + 1)) s < 2 ^ t := shrW_lt (by omega) hx
  have htop := h.top (by omega)
  simp only [Nat.add_sub_cancel] at htop
  refine ⟨by rw [List.length_set, List.length_set, hl], (h.wd.set ?_).set (orW_lt _ _), fun _ => ?_, ?_⟩
  · rw [shrW_eq (by omega)]; exact Nat.lt_of_le_of_lt (Nat.div_le_self _ _) hx
  · rw [show k + 2 - 1 = k + 1 from rfl, nth_set_ne (by omega), nth_set_self (by omega)]; exact hhi
  · rw [List.set_comm _ _ (by omega), set_take_val _ _ _ _ (by rw [List.length_set]; omega), set_take_val _ _ _ _ (by omega), orW_add (s := t) (t := s) (by omega) htop, take_val_nth B64 la (k + 1) hk]
    have e1 := h.eq
    rw [take_val_nth _ _ _ (by omega)] at e1
    have e2 := shl_split (x := nth la (k + 1)) (s := t) (t := s) (by omega)
    have e3 : B64 ^ (k + 1) * nth la (k + 1) = 2 ^ s * (B64 ^ k * (nth la (k + 1) * 2 ^ t)) := by
      rw [Nat.pow_succ, show B64 = 2 ^ s * 2 ^ t from (pow64 hst).symm]
      grind
    rw [e3, Nat.add_mul_div_left _ _ (Nat.pow_pos (by decide)), ← e1, ← e2]
    rw [Nat.pow_succ]
    grind

theorem ShrInv.done {la cur : List Nat} {s t : Nat} (h : ShrInv la s t la.length cur) : val B64 cur = val B64 la / 2 ^ s := by
  have := h.eq
  rwa [List.take_of_length_le (by rw [h.len]; omega), List.take_length] at this
end Go.Big
namespace Go.Big
open Go
/-- 'α U - β V = p' behind an even number of steps, 'β V - α U = p' behind an odd one. -/
def Lin (c α β U V p : Nat) : Prop := if c % 2 = 0 then α * U = β * V + p else β * V = α * U + p
theorem Lin.even {c α β U V p : Nat} (h : c % 2 = 0) : Lin c α β U V p ↔ α * U = β * V + p := by simp [Lin, h]
theorem Lin.odd {c α β U V p : Nat} (h : ¬ c % 2 = 0) : Lin c α β U V p ↔ β * V = α * U + p := by simp [Lin, h]

/-- Some steps of Euclid's algorithm on m and k, found from X = m / S and Y = k / S. -/
structure FsInv (S m k c aA bA aB bB x y P Q : Nat) : Prop where
  lx : Lin c aA bA (m / S) (k / S) x
  ly : Lin (c + 1) aB bB (m / S) (k / S) y
  lP : Lin c aA bA m k P
  lQ : Lin (c + 1) aB bB m k Q
  hxy : y ≤ x
  hPQ : Q ≤ P
  hPm : P ≤ m
  hQk : Q ≤ k
  hA : aB ≤ bB
  hA' : c = 0 ∧ aA = 1 ∧ bA = 0 ∧ aB = 0 ∧ bB = 1 ∨ aA ≤ bA ∧ 0 < aB + aA
  hb : 0 < bB
  hg : Nat.gcd P Q = Nat.gcd m k
  prog : 0 < c → Q < k ∧ Q < P
  dX : x * bB + y * bA = m / S

theorem FsInv.start {S m k : Nat} (hk : k ≤ m) : FsInv S m k 0 1 0 0 1 (m / S) (k / S) m k :=
  ⟨by simp [Lin], by simp [Lin], by simp [Lin], by simp [Lin], Nat.div_le_div_right hk, hk, Nat.le_refl _, Nat.le_refl _, by omega, .inl ⟨rfl, rfl, rfl, rfl, rfl⟩, by omega, rfl, fun h => absurd h (by omega), by simp⟩

/-- The signed sums, without the words that are cut off. -/
theorem cut_le' {S α β U V m0 k0 r : Nat} (h2 : k0 < S) (h : α * U = β * V + r) (hr : β ≤ r) : β * (S * V + k0) ≤ α * (S * U + m0) := by
  have a1 : α * (S * U + m0) = S * (α * U) + α * m0 := by grind
  have a2 : β * (S * V + k0) = S * (β * V) + β * k0 := by grind
  have a3 : β * k0 ≤ r * S := Nat.mul_le_mul hr (Nat.le_of_lt h2)
  have a4 : S * (β * V + r) = S * (β * V) + r * S := by grind
  rw [h] at a1
  omega
theorem cut_lt' {S α β U V m0 k0 r : Nat} (h2 : k0 < S) (h : α * U = β * V + r) (hr : β ≤ r) (hb : 0 < β) : β * (S * V + k0) < α * (S * U + m0) := by
  have a1 : α * (S * U + m0) = S * (α * U) + α * m0 := by grind
  have a2 : β * (S * V + k0) = S * (β * V) + β * k0 := by grind
  have a3 : β * k0 < β * S := Nat.mul_lt_mul_of_pos_left h2 hb
  have a5 : β * S ≤ r * S := Nat.mul_le_mul_right _ hr
  have a4 : S * (β * V + r) = S * (β * V) + r * S := by grind
  rw [h] at a1
  omega
theorem cut_le {S α β m k r : Nat} (hS : 0 < S) (h : α * (m / S) = β * (k / S) + r) (hr : β ≤ r) : β * k ≤ α * m := by
  have := cut_le' (m0 := m % S) (Nat.mod_lt k hS) h hr
  rwa [Nat.div_add_mod, Nat.div_add_mod] at this
theorem cut_lt {S α β m k r : Nat} (hS : 0 < S) (h : α * (m / S) = β * (k / S) + r) (hr : β ≤ r) (hb : 0 < β) : β * k < α * m := by
  have := cut_lt' (m0 := m % S) (Nat.mod_lt k hS) h hr hb
  rwa [Nat.div_add_mod, Nat.div_add_mod] at this

theorem gcd_step {P Q q Q' : Nat} (h : P = q * Q + Q') : Nat.gcd Q Q' = Nat.gcd P Q := by
  rw [h, Nat.gcd_comm (q * Q + Q')]; simp

/-- An accepted step. -/
theorem FsInv.step {S m k c aA bA aB bB x y P Q : Nat} (h : FsInv S m k c aA bA aB bB x y P Q) (hS : 0 < S) (hy : 0 < y)
    (t1 : bA + x / y * bB ≤ x % y) (t2 : bB + (bA + x / y * bB) ≤ y - x % y) :
    ∃ Q', FsInv S m k (c + 1) aB bB (aA + x / y * aB) (bA + x / y * bB) y (x % y) Q Q' := by
  have hq : 0 < x / y := Nat.div_pos h.hxy hy
  have hr : x % y < y := Nat.mod_lt x hy
  have hx : x = x / y * y + x % y := by rw [Nat.mul_comm]; exact (Nat.div_add_mod x y).symm
  obtain ⟨lx, ly, lP, lQ, hxy, hPQ, hPm, hQk, hA, hA', hb, hg, prog, dX⟩ := h
  generalize x / y = q at *
  generalize x % y = r at *
  have hnA : aA + q * aB ≤ bA + q * bB := by
    rcases hA' with ⟨_, rfl, rfl, rfl, rfl⟩ | ⟨h1, _⟩
    · omega
    · exact Nat.add_le_add h1 (Nat.mul_le_mul_left _ hA)
  have hnA0 : 0 < aB + (aA + q * aB) := by
    rcases hA' with ⟨_, rfl, rfl, rfl, rfl⟩ | ⟨_, h1⟩
    · omega
    · omega
  have hnB0 : 0 < bA + q * bB := Nat.lt_of_lt_of_le (Nat.mul_pos hq hb) (Nat.le_add_left _ _)
  have hdX : y * (bA + q * bB) + r * bB = m / S := by rw [← dX, hx]; grind
  by_cases hc : c % 2 = 0
  · have hc1 : ¬ (c + 1) % 2 = 0 := by omega
    have hc2 : (c + 1 + 1) % 2 = 0 := by omega
    have lx' := (Lin.even hc).1 lx
    have ly' := (Lin.odd hc1).1 ly
    have lP' := (Lin.even hc).1 lP
    have lQ' := (Lin.odd hc1).1 lQ
    have n1 : (aA + q * aB) * (m / S) = (bA + q * bB) * (k / S) + r := by grind
    have hle := cut_le hS n1 t1
    obtain ⟨Q', hQ'⟩ : ∃ Q', (aA + q * aB) * m = (bA + q * bB) * k + Q' := ⟨(aA + q * aB) * m - (bA + q * bB) * k, by omega⟩
    have hP : P = q * Q + Q' := by grind
    have n2 : (bB + (bA + q * bB)) * (k / S) = (aB + (aA + q * aB)) * (m / S) + (y - r) := by
      obtain ⟨d, hd⟩ : ∃ d, y = r + d := ⟨y - r, by omega⟩
      have e : y - r = d := by omega
      rw [e]; grind
    have hlt := cut_lt hS n2 (by omega) hnA0
    have hQQ : Q' < Q := by
      have e1 : (aB + (aA + q * aB)) * m = aB * m + (aA + q * aB) * m := Nat.add_mul _ _ _
      have e2 : (bB + (bA + q * bB)) * k = bB * k + (bA + q * bB) * k := Nat.add_mul _ _ _
      omega
    exact ⟨Q', ly, (Lin.even hc2).2 n1, lQ, (Lin.even hc2).2 hQ', Nat.le_of_lt hr, Nat.le_of_lt hQQ, Nat.le_trans hPQ hPm, by omega, hnA, .inr ⟨hA, by omega⟩, hnB0, by rw [gcd_step hP]; exact hg, fun _ => ⟨by omega, hQQ⟩, hdX⟩
  · have hc1 : (c + 1) % 2 = 0 := by omega
    have hc2 : ¬ (c + 1 + 1) % 2 = 0 := by omega
    have lx' := (Lin.odd hc).1 lx
    have ly' := (Lin.even hc1).1 ly
    have lP' := (Lin.odd hc).1 lP
    have lQ' := (Lin.even hc1).1 lQ
    have n1 : (bA + q * bB) * (k / S) = (aA + q * aB) * (m / S) + r := by grind
    have hle := cut_le hS n1 (by omega)
    obtain ⟨Q', hQ'⟩ : ∃ Q', (bA + q * bB) * k = (aA + q * aB) * m + Q' := ⟨(bA + q * bB) * k - (aA + q * aB) * m, by omega⟩
    have hP : P = q * Q + Q' := by grind
    have n2 : (aB + (aA + q * aB)) * (m / S) = (bB + (bA + q * bB)) * (k / S) + (y - r) := by
      obtain ⟨d, hd⟩ : ∃ d, y = r + d := ⟨y - r, by omega⟩
      have e : y - r = d := by omega
      rw [e]; grind
    have hlt := cut_lt hS n2 t2 (by omega)
    have hQQ : Q' < Q := by
      have e1 : (aB + (aA + q * aB)) * m = aB * m + (aA + q * aB) * m := Nat.add_mul _ _ _
      have e2 : (bB + (bA + q * bB)) * k = bB * k + (bA + q * bB) * k := Nat.add_mul _ _ _
      omega
    exact ⟨Q', ly, (Lin.odd hc2).2 n1, lQ, (Lin.odd hc2).2 hQ', Nat.le_of_lt hr, Nat.le_of_lt hQQ, Nat.le_trans hPQ hPm, by omega, hnA, .inr ⟨hA, by omega⟩, hnB0, by rw [gcd_step hP]; exact hg, fun _ => ⟨by omega, hQQ⟩, hdX⟩
/-- No factor exceeds a word. -/
theorem FsInv.small {S m k c aA bA aB bB x y P Q : Nat} (h : FsInv S m k c aA bA aB bB x y P Q) (hy : 0 < y) (hm : m / S < 18446744073709551616) :
    aA < 18446744073709551616 ∧ bA + x / y * bB < 18446744073709551616 ∧ aA + x / y * aB < 18446744073709551616 ∧ x / y * bB < 18446744073709551616 ∧ x / y * aB < 18446744073709551616 ∧
      bB < 18446744073709551616 ∧ aB < 18446744073709551616 ∧ bA < 18446744073709551616 := by
  have d := h.dX
  have hq : 0 < x / y := Nat.div_pos h.hxy hy
  have h1 : x / y * y ≤ x := Nat.div_mul_le_self x y
  have e1 : (bA + x / y * bB) * y ≤ m / S := by
    have e2 : (bA + x / y * bB) * y = x / y * y * bB + y * bA := by grind
    have e3 : x / y * y * bB ≤ x * bB := Nat.mul_le_mul_right _ h1
    omega
  have e4 : bA + x / y * bB ≤ (bA + x / y * bB) * y := Nat.le_mul_of_pos_right _ hy
  have hbB : bB ≤ x / y * bB := Nat.le_mul_of_pos_left _ hq
  have hqA : x / y * aB ≤ x / y * bB := Nat.mul_le_mul_left _ h.hA
  have hA := h.hA
  have hA1 : aA + x / y * aB ≤ bA + x / y * bB ∧ aA ≤ bA + x / y * bB := by
    rcases h.hA' with ⟨_, rfl, rfl, rfl, rfl⟩ | ⟨h2, _⟩
    · omega
    · omega
  omega
/-- How often the loop has gone round, against the factors. -/
structure FsCnt (c aA bA aB bB y : Nat) : Prop where
  le : c ≤ bA + bB
  sm : c = 0 ∨ bB ≤ y ∧ bA ≤ bB
  a1 : aA < 18446744073709551616
  a2 : bA < 18446744073709551616
  a3 : aB < 18446744073709551616
  a4 : bB < 18446744073709551616
theorem FsCnt.start (y : Nat) : FsCnt 0 1 0 0 1 y := ⟨by omega, .inl rfl, by decide, by decide, by decide, by decide⟩
theorem FsCnt.step {c aA bA aB bB y q r : Nat} (h : FsCnt c aA bA aB bB y) (hq : 0 < q) (hb : 0 < bB) (t1 : bA + q * bB ≤ r) (h1 : aA + q * aB < 18446744073709551616) (h2 : bA + q * bB < 18446744073709551616) :
    FsCnt (c + 1) aB bB (aA + q * aB) (bA + q * bB) r := by
  have h3 : bB ≤ q * bB := Nat.le_mul_of_pos_left _ hq
  have := h.le
  exact ⟨by omega, .inr ⟨t1, by omega⟩, h.a3, h.a4, h1, h2⟩
theorem FsInv.count {S m k c aA bA aB bB x y P Q : Nat} (h : FsInv S m k c aA bA aB bB x y P Q) (hc : FsCnt c aA bA aB bB y) (hm : m / S < 18446744073709551616) : c < 17179869184 := by
  rcases hc.sm with h1 | ⟨h1, h2⟩
  · omega
  · have d := h.dX
    have hxy := h.hxy
    have h3 : bB * bB ≤ x * bB := Nat.mul_le_mul_right _ (by omega)
    have h4 : bB < 4294967296 := by
      rcases Nat.lt_or_ge bB 4294967296 with h5 | h5
      · exact h5
      · have : 4294967296 * 4294967296 ≤ bB * bB := Nat.mul_le_mul h5 h5
        omega
    have := hc.le
    omega
/-- What a round of the loop computes. -/
structure FsRound (S m k c aA bA aB bB x y P Q q r nA nB yr : Nat) : Prop where
  hquo : quoW x y = q
  hr : x % y = r
  ha1 : addW aA (mulW q aB) = nA
  ha2 : addW bA (mulW q bB) = nB
  hyr : subW y r = yr
  ry : r < y
  hbn : nB ≤ r → addW bB nB = bB + nB
  next : nB ≤ r → bB + nB ≤ yr → ∃ Q', FsInv S m k (c + 1) aB bB nA nB y r Q Q' ∧ FsCnt (c + 1) aB bB nA nB r
theorem sum_small {bB nB q x y bA X : Nat} (e : q * y ≤ x) (hn : bA + q * bB = nB) (d : x * bB + y * bA = X) (hb : bB ≤ nB) (hy : 2 ≤ y) : bB + nB ≤ X := by
  have h6 : nB * 2 ≤ nB * y := Nat.mul_le_mul_left _ hy
  have e2 : nB * y = q * y * bB + y * bA := by rw [← hn]; grind
  have e3 : q * y * bB ≤ x * bB := Nat.mul_le_mul_right _ e
  omega
theorem FsInv.round {S m k c aA bA aB bB x y P Q : Nat} (h : FsInv S m k c aA bA aB bB x y P Q) (hcnt : FsCnt c aA bA aB bB y) (hS : 0 < S) (hy : 0 < y) (hm : m / S < 18446744073709551616) :
    ∃ q r nA nB yr, FsRound S m k c aA bA aB bB x y P Q q r nA nB yr := by
  obtain ⟨s1, s2, s3, s4, s5, s6, s7, s8⟩ := h.small hy hm
  have hq0 : 0 < x / y := Nat.div_pos h.hxy hy
  have hry := Nat.mod_lt x hy
  have hbn0 : bB ≤ x / y * bB := Nat.le_mul_of_pos_left _ hq0
  have hxl : x < 18446744073709551616 := by
    have d := h.dX
    have := Nat.le_mul_of_pos_right x h.hb
    omega
  refine ⟨x / y, x % y, aA + x / y * aB, bA + x / y * bB, y - x % y, ?_, rfl, ?_, ?_, ?_, hry, ?_, ?_⟩
  · rw [quoW, Nat.mod_eq_of_lt (Nat.lt_of_le_of_lt (Nat.div_le_self _ _) hxl)]
  · rw [mulW_lt' s5, addW_lt' s3]
  · rw [mulW_lt' s4, addW_lt' s2]
  · exact subW_le (Nat.le_of_lt hry) (by have := h.hxy; omega)
  · intro hn
    have hb := h.hb
    have := sum_small (Nat.div_mul_le_self x y) rfl h.dX (by omega) (by omega)
    exact addW_lt' (by omega)
  · intro t1 t2
    obtain ⟨Q', hQ'⟩ := h.step hS hy t1 t2
    exact ⟨Q', hQ', hcnt.step hq0 h.hb t1 s3 s2⟩
end Go.Big
