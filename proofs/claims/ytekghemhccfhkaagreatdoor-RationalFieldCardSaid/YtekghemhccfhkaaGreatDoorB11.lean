/-
  Walks of the program's functions: Heads, LehMath, FindSteps, MinusProd.
-/
import Derived.Test.YtekghemhccfhkaaGreatDoorB05
import Derived.Test.YtekghemhccfhkaaGreatDoorB03
import Derived.Test.YtekghemhccfhkaaGreatDoorB06
import Derived.Deep.QuietTactic
import Derived.BigQuiet
import Derived.Test.YtekghemhccfhkaaGreatDoorB01
import Derived.Test.YtekghemhccfhkaaGreatDoorB04
import Derived.Test.YtekghemhccfhkaaGreatDoorB07
namespace Go.Big
open Go
theorem div_two {h l s t : Nat} (st : s + t = 64) : (h * 18446744073709551616 + l) / 2 ^ t = h * 2 ^ s + l / 2 ^ t := by
  rw [← pow64 st, ← Nat.mul_assoc, Nat.mul_comm (h * 2 ^ s), Nat.mul_add_div (Nat.pow_pos (by decide))]
theorem head2 {l : List Nat} {n s t : Nat} (wl : Wd B64 l) (hl : l.length = n + 2) (st : s + t = 64) (hs : nth l (n + 1) * 2 ^ s < 18446744073709551616) :
    orW (shlW (nth l (n + 1)) s) (shrW (nth l n) t) = val B64 l / (B64 ^ n * 2 ^ t) := by
  rw [← Nat.div_div_eq_div_mul, val_div_pow wl n (by omega), drop_val_nth _ _ _ (by omega), drop_val_nth _ _ _ (by omega), List.drop_eq_nil_of_le (by omega)]
  simp only [val, Nat.mul_zero, Nat.add_zero]
  have e : nth l n + B64 * nth l (n + 1) = nth l (n + 1) * 18446744073709551616 + nth l n := by rw [Nat.mul_comm, Nat.add_comm]
  rw [e, div_two st, orW_comm, orW_add st (shrW_lt st (wl.nth (by omega))), shrW_eq (by omega), shlW, Nat.min_eq_left (by omega), Nat.mod_eq_of_lt hs, Nat.add_comm]
theorem top_word {l : List Nat} {n : Nat} (wl : Wd B64 l) (hl : l.length = n + 2) : val B64 l / B64 ^ (n + 1) = nth l (n + 1) := by
  rw [val_div_pow wl _ (by omega), drop_val_nth _ _ _ (by omega), List.drop_eq_nil_of_le (by omega)]
  simp [val]
theorem top_le {a b : List Nat} {n : Nat} (wa : Wd B64 a) (wb : Wd B64 b) (ha : a.length = n + 2) (hb : b.length = n + 2) (h : val B64 b ≤ val B64 a) : nth b (n + 1) ≤ nth a (n + 1) := by
  have h1 := Nat.div_le_div_right (c := B64 ^ (n + 1)) h
  rwa [top_word wa ha, top_word wb hb] at h1
theorem head1 {l : List Nat} {n s t : Nat} (wl : Wd B64 l) (hl : l.length = n + 1) (st : s + t = 64) :
    shrW (nth l n) t = val B64 l / (B64 ^ n * 2 ^ t) := by
  rw [← Nat.div_div_eq_div_mul, val_div_pow wl n (by omega), drop_val_nth _ _ _ (by omega), List.drop_eq_nil_of_le (by omega), shrW_eq (by omega)]
  simp [val]
theorem head0 {l : List Nat} {n t : Nat} (wl : Wd B64 l) (hl : l.length ≤ n) : 0 = val B64 l / (B64 ^ n * 2 ^ t) := by
  rw [← Nat.div_div_eq_div_mul, Nat.div_eq_of_lt (a := val B64 l)]
  · simp
  · exact Nat.lt_of_lt_of_le (val_lt wl) (Nat.pow_le_pow_right (by decide) hl)
end Go.Big
namespace Go.Proofs.YtekghemhccfhkaaGreatDoor
open Go.RowKit Go.Big
def HeadPost (w : World) (m k : Nat) (e : Ending) (w' : World) : Prop :=
  ∃ S, 0 < S ∧ e = .returned (.tuple #[.int .u64 (m / S : Nat), .int .u64 (k / S : Nat)]) ∧ m / S < 18446744073709551616 ∧ ∃ n, w' = w.drewN n
theorem ret_2i {k : IntKind} {a b c d : Int} (h : a = b) (h' : c = d) : Ending.returned (.tuple #[.int k a, .int k c]) = .returned (.tuple #[.int k b, .int k d]) := by rw [h, h']
set_option maxRecDepth 100000 in
set_option maxHeartbeats 2000000 in
/-- heads -/
theorem heads_any {va vb : Value} {m k : Nat} {w : World} (ha : NatV w .u64 B64 va m) (hb : NatV w .u64 B64 vb k) (hk : k ≤ m) (hk2 : B64 ≤ k) :
    Calls Tryz.prog 198 #[va, vb] w (HeadPost w m k) := by
  obtain ⟨ao, capa, la, rfl, sa, wa, za, ea⟩ := ha
  obtain ⟨bo, capb, lb, rfl, sb, wb, zb, eb⟩ := hb
  have hlb2 : 2 ≤ lb.length := by
    rcases Nat.lt_or_ge lb.length 2 with h1 | h1
    · have h2 := val_lt wb
      have h3 : B64 ^ lb.length ≤ B64 ^ 1 := Nat.pow_le_pow_right (by decide) (by omega)
      rw [Nat.pow_one] at h3
      omega
    · exact h1
  have hle : lb.length ≤ la.length := by
    rcases Nat.lt_or_ge la.length lb.length with h1 | h1
    · have := val_lt_of_len (B := B64) (by decide) wa zb h1; omega
    · exact h1
  have hm := sa.len_le
  obtain ⟨n, hn⟩ : ∃ n, la.length = n + 2 := ⟨la.length - 2, by omega⟩
  obtain ⟨ga, offa, rfl, _, hca⟩ := sa.at (i := n + 1) (by omega)
  obtain ⟨gb, offb, rfl, _, hcb⟩ := sb.at (i := 0) (by omega)
  have c1 := hca (n + 1) (by omega)
  have c0 := hca n (by omega)
  have htop : 0 < nth la (n + 1) := by
    have := nth_of_Nz za (by intro e; simp [e] at hn)
    rw [hn] at this
    simp only [Nat.add_succ_sub_one] at this
    omega
  obtain ⟨s, hs, hs1, hs2, hlz⟩ := lz_at htop (wa.nth (i := n + 1) (by omega))
  obtain ⟨t, ht⟩ : ∃ t, s + t = 64 := ⟨64 - s, by omega⟩
  have hst : (64 : Int) - (s : Int) = (t : Int) := by omega
  have hx := head2 wa hn ht hs2
  rw [ea] at hx
  have hx64 : m / (B64 ^ n * 2 ^ t) < 18446744073709551616 := by rw [← hx]; exact orW_lt _ _
  have hS : 0 < B64 ^ n * 2 ^ t := Nat.mul_pos (Nat.pow_pos (by decide)) (Nat.pow_pos (by decide))
  have hl1 : (la.length : Int) - 1 = ((n + 1 : Nat) : Int) := by omega
  have hl2 : (la.length : Int) - 2 = ((n : Nat) : Int) := by omega
  have hil : n + 1 < la.length := by omega
  have hin : n < la.length := by omega
  have HLZ := Lib.hid hlz
  have HX := Lib.hid hx
  have HF := Lib.hid (And.intro hS hx64)
  have HN := Lib.hid hn
  have hkv : val B64 lb ≤ val B64 la := by omega
  have HK := Lib.hid hkv
  have HS2 := Lib.hid hs2
  have HE := Lib.hid eb
  clear hkv eb hlz htop hs1 hs2 hx hx64 hS hca sa sb ea hk hk2
  rcases Nat.lt_trichotomy la.length (lb.length + 1) with h | h | h
  · have hl : lb.length = n + 2 := by omega
    have d1 := hcb (n + 1) (by omega)
    have d0 := hcb n (by omega)
    have hy := head2 wb hl ht (Nat.lt_of_le_of_lt (Nat.mul_le_mul_right _ (top_le wa wb hn hl HK.out)) HS2.out)
    rw [HE.out] at hy
    have e0 : (((la.length : Int) - (lb.length : Int)) == 0) = true := by rw [beq_iff_eq]; omega
    have hil' : n + 1 < lb.length := by omega
    have hin' : n < lb.length := by omega
    have HY := Lib.hid hy
    clear hy hcb hn h
    go_enter Tryz.func198, Tryz.ntmps198
    go_wp2_with fail
    refine (HLZ.out _).mono ?_
    rintro e w1 ⟨rfl, rfl⟩
    go_wp2_with fail
    go_quiet (fail)
    go_wp2_with fail
    go_quiet (fail)
    go_wp2_with fail
    go_ret2
    exact ⟨_, HF.out.1, ret_2i (by rw [← HX.out]) (by rw [← HY.out]), HF.out.2, _, World.drewN_drewN _ _ _⟩
  · have hl : lb.length = n + 1 := by omega
    have d0 := hcb n (by omega)
    have hy := head1 wb hl ht
    rw [HE.out] at hy
    have e0 : (((la.length : Int) - (lb.length : Int)) == 0) = false := by rw [beq_eq_false_iff_ne]; omega
    have e1 : (((la.length : Int) - (lb.length : Int)) == 1) = true := by rw [beq_iff_eq]; omega
    have hin' : n < lb.length := by omega
    have HY := Lib.hid hy
    clear hy hcb hn h
    go_enter Tryz.func198, Tryz.ntmps198
    go_wp2_with fail
    refine (HLZ.out _).mono ?_
    rintro e w1 ⟨rfl, rfl⟩
    go_wp2_with fail
    go_quiet (fail)
    go_wp2_with fail
    go_quiet (fail)
    go_wp2_with fail
    go_ret2
    exact ⟨_, HF.out.1, ret_2i (by rw [← HX.out]) (by rw [← HY.out]), HF.out.2, _, World.drewN_drewN _ _ _⟩
  · have hl : lb.length ≤ n := by omega
    have hy := head0 (t := t) wb hl
    rw [HE.out] at hy
    have e0 : (((la.length : Int) - (lb.length : Int)) == 0) = false := by rw [beq_eq_false_iff_ne]; omega
    have e1 : (((la.length : Int) - (lb.length : Int)) == 1) = false := by rw [beq_eq_false_iff_ne]; omega
    have HY := Lib.hid hy
    clear hy hcb hn h
    go_enter Tryz.func198, Tryz.ntmps198
    go_wp2_with fail
    refine (HLZ.out _).mono ?_
    rintro e w1 ⟨rfl, rfl⟩
    go_wp2_with fail
    go_quiet (fail)
    go_wp2_with fail
    go_ret2
    exact ⟨_, HF.out.1, ret_2i (by rw [← HX.out]) (by rw [← HY.out]; rfl), HF.out.2, _, rfl⟩
end Go.Proofs.YtekghemhccfhkaaGreatDoor
namespace Go.Big
open Go
/-- 'α U - β V = p' behind an even number of steps, 'β V - α U = p' behind an odd one. -/
def Lin (c α β U V p : Nat) : Prop := if c % 2 = 0 then α * U = β * V + p else β * V = α * U + p
theorem Lin.even {c α β U V p : Nat} (h : c % 2 = 0) : Lin c α β U V p ↔ α * U = β * V + p := by simp [Lin, h]
theorem Lin.odd {c α β U V p : Nat} (h : ¬ c % 2 = 0) : Lin c α β U V p ↔ β * V = α * U + p := by simp [Lin, h]

/-- Some steps of Euclid's algorithm on m and k, found from X = m / S and Y = k / S. -/
structure FsInv (S m k c aA bA aB bB x y P Q : Nat) : Prop where
  lx : Lin c aA bA (m / S) (k / S) x
  ly : Lin (c + 1) aB bB (m / S) (k / S) y
  lP : Lin c aA bA m k P
  lQ : Lin (c + 1) aB bB m k Q
  hxy : y ≤ x
  hPQ : Q ≤ P
  hPm : P ≤ m
  hQk : Q ≤ k
  hA : aB ≤ bB
  hA' : c = 0 ∧ aA = 1 ∧ bA = 0 ∧ aB = 0 ∧ bB = 1 ∨ aA ≤ bA ∧ 0 < aB + aA
  hb : 0 < bB
  hg : Nat.gcd P Q = Nat.gcd m k
  prog : 0 < c → Q < k ∧ Q < P
  dX : x * bB + y * bA = m / S

theorem FsInv.start {S m k : Nat} (hk : k ≤ m) : FsInv S m k 0 1 0 0 1 (m / S) (k / S) m k :=
  ⟨by simp [Lin], by simp [Lin], by simp [Lin], by simp [Lin], Nat.div_le_div_right hk, hk, Nat.le_refl _, Nat.le_refl _, by omega, .inl ⟨rfl, rfl, rfl, rfl, rfl⟩, by omega, rfl, fun h => absurd h (by omega), by simp⟩

/-- The signed sums, without the words that are cut off. -/
theorem cut_le' {S α β U V m0 k0 r : Nat} (h2 : k0 < S) (h : α * U = β * V + r) (hr : β ≤ r) : β * (S * V + k0) ≤ α * (S * U + m0) := by
  have a1 : α * (S * U + m0) = S * (α * U) + α * m0 := by grind
  have a2 : β * (S * V + k0) = S * (β * V) + β * k0 := by grind
  have a3 : β * k0 ≤ r * S := Nat.mul_le_mul hr (Nat.le_of_lt h2)
  have a4 : S * (β * V + r) = S * (β * V) + r * S := by grind
  rw [h] at a1
  omega
theorem cut_lt' {S α β U V m0 k0 r : Nat} (h2 : k0 < S) (h : α * U = β * V + r) (hr : β ≤ r) (hb : 0 < β) : β * (S * V + k0) < α * (S * U + m0) := by
  have a1 : α * (S * U + m0) = S * (α * U) + α * m0 := by grind
  have a2 : β * (S * V + k0) = S * (β * V) + β * k0 := by grind
  have a3 : β * k0 < β * S := Nat.mul_lt_mul_of_pos_left h2 hb
  have a5 : β * S ≤ r * S := Nat.mul_le_mul_right _ hr
  have a4 : S * (β * V + r) = S * (β * V) + r * S := by grind
  rw [h] at a1
  omega
theorem cut_le {S α β m k r : Nat} (hS : 0 < S) (h : α * (m / S) = β * (k / S) + r) (hr : β ≤ r) : β * k ≤ α * m := by
  have := cut_le' (m0 := m % S) (Nat.mod_lt k hS) h hr
  rwa [Nat.div_add_mod, Nat.div_add_mod] at this
theorem cut_lt {S α β m k r : Nat} (hS : 0 < S) (h : α * (m / S) = β * (k / S) + r) (hr : β ≤ r) (hb : 0 < β) : β * k < α * m := by
  have := cut_lt' (m0 := m % S) (Nat.mod_lt k hS) h hr hb
  rwa [Nat.div_add_mod, Nat.div_add_mod] at this

theorem gcd_step {P Q q Q' : Nat} (h : P = q * Q + Q') : Nat.gcd Q Q' = Nat.gcd P Q := by
  rw [h, Nat.gcd_comm (q * Q + Q')]; simp

/-- An accepted step. -/
theorem FsInv.step {S m k c aA bA aB bB x y P Q : Nat} (h : FsInv S m k c aA bA aB bB x y P Q) (hS : 0 < S) (hy : 0 < y)
    (t1 : bA + x / y * bB ≤ x % y) (t2 : bB + (bA + x / y * bB) ≤ y - x % y) :
    ∃ Q', FsInv S m k (c + 1) aB bB (aA + x / y * aB) (bA + x / y * bB) y (x % y) Q Q' := by
  have hq : 0 < x / y := Nat.div_pos h.hxy hy
  have hr : x % y < y := Nat.mod_lt x hy
  have hx : x = x / y * y + x % y := by rw [Nat.mul_comm]; exact (Nat.div_add_mod x y).symm
  obtain ⟨lx, ly, lP, lQ, hxy, hPQ, hPm, hQk, hA, hA', hb, hg, prog, dX⟩ := h
  generalize x / y = q at *
  generalize x % y = r at *
  have hnA : aA + q * aB ≤ bA + q * bB := by
    rcases hA' with ⟨_, rfl, rfl, rfl, rfl⟩ | ⟨h1, _⟩
    · omega
    · exact Nat.add_le_add h1 (Nat.mul_le_mul_left _ hA)
  have hnA0 : 0 < aB + (aA + q * aB) := by
    rcases hA' with ⟨_, rfl, rfl, rfl, rfl⟩ | ⟨_, h1⟩
    · omega
    · omega
  have hnB0 : 0 < bA + q * bB := Nat.lt_of_lt_of_le (Nat.mul_pos hq hb) (Nat.le_add_left _ _)
  have hdX : y * (bA + q * bB) + r * bB = m / S := by rw [← dX, hx]; grind
  by_cases hc : c % 2 = 0
  · have hc1 : ¬ (c + 1) % 2 = 0 := by omega
    have hc2 : (c + 1 + 1) % 2 = 0 := by omega
    have lx' := (Lin.even hc).1 lx
    have ly' := (Lin.odd hc1).1 ly
    have lP' := (Lin.even hc).1 lP
    have lQ' := (Lin.odd hc1).1 lQ
    have n1 : (aA + q * aB) * (m / S) = (bA + q * bB) * (k / S) + r := by grind
    have hle := cut_le hS n1 t1
    obtain ⟨Q', hQ'⟩ : ∃ Q', (aA + q * aB) * m = (bA + q * bB) * k + Q' := ⟨(aA + q * aB) * m - (bA + q * bB) * k, by omega⟩
    have hP : P = q * Q + Q' := by grind
    have n2 : (bB + (bA + q * bB)) * (k / S) = (aB + (aA + q * aB)) * (m / S) + (y - r) := by
      obtain ⟨d, hd⟩ : ∃ d, y = r + d := ⟨y - r, by omega⟩
      have e : y - r = d := by omega
      rw [e]; grind
    have hlt := cut_lt hS n2 (by omega) hnA0
    have hQQ : Q' < Q := by
      have e1 : (aB + (aA + q * aB)) * m = aB * m + (aA + q * aB) * m := Nat.add_mul _ _ _
      have e2 : (bB + (bA + q * bB)) * k = bB * k + (bA + q * bB) * k := Nat.add_mul _ _ _
      omega
    exact ⟨Q', ly, (Lin.even hc2).2 n1, lQ, (Lin.even hc2).2 hQ', Nat.le_of_lt hr, Nat.le_of_lt hQQ, Nat.le_trans hPQ hPm, by omega, hnA, .inr ⟨hA, by omega⟩, hnB0, by rw [gcd_step hP]; exact hg, fun _ => ⟨by omega, hQQ⟩, hdX⟩
  · have hc1 : (c + 1) % 2 = 0 := by omega
    have hc2 : ¬ (c + 1 + 1) % 2 = 0 := by omega
    have lx' := (Lin.odd hc).1 lx
    have ly' := (Lin.even hc1).1 ly
    have lP' := (Lin.odd hc).1 lP
    have lQ' := (Lin.even hc1).1 lQ
    have n1 : (bA + q * bB) * (k / S) = (aA + q * aB) * (m / S) + r := by grind
    have hle := cut_le hS n1 (by omega)
    obtain ⟨Q', hQ'⟩ : ∃ Q', (bA + q * bB) * k = (aA + q * aB) * m + Q' := ⟨(bA + q * bB) * k - (aA + q * aB) * m, by omega⟩
    have hP : P = q * Q + Q' := by grind
    have n2 : (aB + (aA + q * aB)) * (m / S) = (bB + (bA + q * bB)) * (k / S) + (y - r) := by
      obtain ⟨d, hd⟩ : ∃ d, y = r + d := ⟨y - r, by omega⟩
      have e : y - r = d := by omega
      rw [e]; grind
    have hlt := cut_lt hS n2 t2 (by omega)
    have hQQ : Q' < Q := by
      have e1 : (aB + (aA + q * aB)) * m = aB * m + (aA + q * aB) * m := Nat.add_mul _ _ _
      have e2 : (bB + (bA + q * bB)) * k = bB * k + (bA + q * bB) * k := Nat.add_mul _ _ _
      omega
    exact ⟨Q', ly, (Lin.odd hc2).2 n1, lQ, (Lin.odd hc2).2 hQ', Nat.le_of_lt hr, Nat.le_of_lt hQQ, Nat.le_trans hPQ hPm, by omega, hnA, .inr ⟨hA, by omega⟩, hnB0, by rw [gcd_step hP]; exact hg, fun _ => ⟨by omega, hQQ⟩, hdX⟩
/-- No factor exceeds a word. -/
theorem FsInv.small {S m k c aA bA aB bB x y P Q : Nat} (h : FsInv S m k c aA bA aB bB x y P Q) (hy : 0 < y) (hm : m / S < 18446744073709551616) :
    aA < 18446744073709551616 ∧ bA + x / y * bB < 18446744073709551616 ∧ aA + x / y * aB < 18446744073709551616 ∧ x / y * bB < 18446744073709551616 ∧ x / y * aB < 18446744073709551616 ∧
      bB < 18446744073709551616 ∧ aB < 18446744073709551616 ∧ bA < 18446744073709551616 := by
  have d := h.dX
  have hq : 0 < x / y := Nat.div_pos h.hxy hy
  have h1 : x / y * y ≤ x := Nat.div_mul_le_self x y
  have e1 : (bA + x / y * bB) * y ≤ m / S := by
    have e2 : (bA + x / y * bB) * y = x / y * y * bB + y * bA := by grind
    have e3 : x / y * y * bB ≤ x * bB := Nat.mul_le_mul_right _ h1
    omega
  have e4 : bA + x / y * bB ≤ (bA + x / y * bB) * y := Nat.le_mul_of_pos_right _ hy
  have hbB : bB ≤ x / y * bB := Nat.le_mul_of_pos_left _ hq
  have hqA : x / y * aB ≤ x / y * bB := Nat.mul_le_mul_left _ h.hA
  have hA := h.hA
  have hA1 : aA + x / y * aB ≤ bA + x / y * bB ∧ aA ≤ bA + x / y * bB := by
    rcases h.hA' with ⟨_, rfl, rfl, rfl, rfl⟩ | ⟨h2, _⟩
    · omega
    · omega
  omega
/-- How often the loop has gone round, against the factors. -/
structure FsCnt (c aA bA aB bB y : Nat) : Prop where
  le : c ≤ bA + bB
  sm : c = 0 ∨ bB ≤ y ∧ bA ≤ bB
  a1 : aA < 18446744073709551616
  a2 : bA < 18446744073709551616
  a3 : aB < 18446744073709551616
  a4 : bB < 18446744073709551616
theorem FsCnt.start (y : Nat) : FsCnt 0 1 0 0 1 y := ⟨by omega, .inl rfl, by decide, by decide, by decide, by decide⟩
theorem FsCnt.step {c aA bA aB bB y q r : Nat} (h : FsCnt c aA bA aB bB y) (hq : 0 < q) (hb : 0 < bB) (t1 : bA + q * bB ≤ r) (h1 : aA + q * aB < 18446744073709551616) (h2 : bA + q * bB < 18446744073709551616) :
    FsCnt (c + 1) aB bB (aA + q * aB) (bA + q * bB) r := by
  have h3 : bB ≤ q * bB := Nat.le_mul_of_pos_left _ hq
  have := h.le
  exact ⟨by omega, .inr ⟨t1, by omega⟩, h.a3, h.a4, h1, h2⟩
theorem FsInv.count {S m k c aA bA aB bB x y P Q : Nat} (h : FsInv S m k c aA bA aB bB x y P Q) (hc : FsCnt c aA bA aB bB y) (hm : m / S < 18446744073709551616) : c < 17179869184 := by
  rcases hc.sm with h1 | ⟨h1, h2⟩
  · omega
  · have d := h.dX
    have hxy := h.hxy
    have h3 : bB * bB ≤ x * bB := Nat.mul_le_mul_right _ (by omega)
    have h4 : bB < 4294967296 := by
      rcases Nat.lt_or_ge bB 4294967296 with h5 | h5
      · exact h5
      · have : 4294967296 * 4294967296 ≤ bB * bB := Nat.mul_le_mul h5 h5
        omega
    have := hc.le
    omega
/-- What a round of the loop computes. -/
structure FsRound (S m k c aA bA aB bB x y P Q q r nA nB yr : Nat) : Prop where
  hquo : quoW x y = q
  hr : x % y = r
  ha1 : addW aA (mulW q aB) = nA
  ha2 : addW bA (mulW q bB) = nB
  hyr : subW y r = yr
  ry : r < y
  hbn : nB ≤ r → addW bB nB = bB + nB
  next : nB ≤ r → bB + nB ≤ yr → ∃ Q', FsInv S m k (c + 1) aB bB nA nB y r Q Q' ∧ FsCnt (c + 1) aB bB nA nB r
theorem sum_small {bB nB q x y bA X : Nat} (e : q * y ≤ x) (hn : bA + q * bB = nB) (d : x * bB + y * bA = X) (hb : bB ≤ nB) (hy : 2 ≤ y) : bB + nB ≤ X := by
  have h6 : nB * 2 ≤ nB * y := Nat.mul_le_mul_left _ hy
  have e2 : nB * y = q * y * bB + y * bA := by rw [← hn]; grind
  have e3 : q * y * bB ≤ x * bB := Nat.mul_le_mul_right _ e
  omega
theorem FsInv.round {S m k c aA bA aB bB x y P Q : Nat} (h : FsInv S m k c aA bA aB bB x y P Q) (hcnt : FsCnt c aA bA aB bB y) (hS : 0 < S) (hy : 0 < y) (hm : m / S < 18446744073709551616) :
    ∃ q r nA nB yr, FsRound S m k c aA bA aB bB x y P Q q r nA nB yr := by
  obtain ⟨s1, s2, s3, s4, s5, s6, s7, s8⟩ := h.small hy hm
  have hq0 : 0 < x / y := Nat.div_pos h.hxy hy
  have hry := Nat.mod_lt x hy
  have hbn0 : bB ≤ x / y * bB := Nat.le_mul_of_pos_left _ hq0
  have hxl : x < 18446744073709551616 := by
    have d := h.dX
    have := Nat.le_mul_of_pos_right x h.hb
    omega
  refine ⟨x / y, x % y, aA + x / y * aB, bA + x / y * bB, y - x % y, ?_, rfl, ?_, ?_, ?_, hry, ?_, ?_⟩
  · rw [quoW, Nat.mod_eq_of_lt (Nat.lt_of_le_of_lt (Nat.div_le_self _ _) hxl)]
  · rw [mulW_lt' s5, addW_lt' s3]
  · rw [mulW_lt' s4, addW_lt' s2]
  · exact subW_le (Nat.le_of_lt hry) (by have := h.hxy; omega)
  · intro hn
    have hb := h.hb
    have := sum_small (Nat.div_mul_le_self x y) rfl h.dX (by omega) (by omega)
    exact addW_lt' (by omega)
  · intro t1 t2
    obtain ⟨Q', hQ'⟩ := h.step hS hy t1 t2
    exact ⟨Q', hQ', hcnt.step hq0 h.hb t1 s3 s2⟩
end Go.Big
namespace Go.Proofs.YtekghemhccfhkaaGreatDoor
open Go.RowKit Go.Big
theorem below_five {B g : Nat} {a w : World} {v0 v1 v2 v3 v4 : Value} (h : Below B a w) (hg : B ≤ g) :
    Below B a (((((w.setCell ⟨g, 0, none⟩ v0).setCell ⟨g, 1, none⟩ v1).setCell ⟨g, 2, none⟩ v2).setCell ⟨g, 3, none⟩ v3).setCell ⟨g, 4, none⟩ v4) :=
  ((((h.setCell hg _).setCell hg _).setCell hg _).setCell hg _).setCell hg _
theorem below_two (w : World) (o o' : Obj) (d : Nat) : Below w.heap.size w (((w.alloc o).alloc o').drewN d) := below_drewN (((Below.refl _ _).alloc (Nat.le_refl _) _).alloc (by simp) _) _
def FsPost (w : World) (m k : Nat) (e : Ending) (w' : World) : Prop :=
  ∃ S c aA bA aB bB x y P Q : Nat, e = .returned (.agg #[.int .i64 c, .int .u64 aA, .int .u64 bA, .int .u64 aB, .int .u64 bB]) ∧ FsInv S m k c aA bA aB bB x y P Q ∧ FsCnt c aA bA aB bB y ∧ c < 17179869184 ∧ Below w.heap.size w w'
theorem row_set {w : World} {g : Nat} {cs : Array Value} {t : TypeId} (h : w.heap[g]? = some (.cells cs t (0, 0))) (i : Nat) (v : Value) : (w.setCell ⟨g, i, none⟩ v).heap[g]? = some (.cells (cs.setIfInBounds i v) t (0, 0)) := by
  rw [setCell_eq_setRow w g i cs t (0, 0) v h]
  exact setRow_heap w g cs _ t (0, 0) h
/-- The found steps lie in the second block that the call has made. -/
structure FsW (w : World) (c aA bA aB bB : Nat) (wr : World) : Prop where
  row : wr.heap[w.heap.size + 1]? = some (.cells #[.int .i64 c, .int .u64 aA, .int .u64 bA, .int .u64 aB, .int .u64 bB] 164 (0, 0))
  res : ∃ v0 v1 v2 v3 v4, wr.heap[w.heap.size]? = some (.cells #[v0, v1, v2, v3, v4] 164 (0, 0))
  bel : Below w.heap.size w wr
theorem FsW.step {w wr : World} {c aA bA aB bB nA nB : Nat} (h : FsW w c aA bA aB bB wr) (d : Nat) :
    FsW w (c + 1) aB bB nA nB ((((((wr.drewN d).setCell ⟨w.heap.size + 1, 1, none⟩ (.int .u64 aB)).setCell ⟨w.heap.size + 1, 3, none⟩ (.int .u64 nA)).setCell ⟨w.heap.size + 1, 2, none⟩ (.int .u64 bB)).setCell ⟨w.heap.size + 1, 4, none⟩ (.int .u64 nB)).setCell ⟨w.heap.size + 1, 0, none⟩ (.int .i64 ((c : Int) + 1))) := by
  have h0 : (wr.drewN d).heap[w.heap.size + 1]? = some (.cells #[.int .i64 c, .int .u64 aA, .int .u64 bA, .int .u64 aB, .int .u64 bB] 164 (0, 0)) := h.row
  obtain ⟨v0, v1, v2, v3, v4, hr⟩ := h.res
  refine ⟨row_set (row_set (row_set (row_set (row_set h0 1 _) 3 _) 2 _) 4 _) 0 _, ⟨v0, v1, v2, v3, v4, ?_⟩, ?_⟩
  · rw [Below.heap_setCell _ _ _ _ (by simp), Below.heap_setCell _ _ _ _ (by simp), Below.heap_setCell _ _ _ _ (by simp), Below.heap_setCell _ _ _ _ (by simp), Below.heap_setCell _ _ _ _ (by simp)]
    exact hr
  · exact (((((below_drewN h.bel d).setCell (Nat.le_succ _) _).setCell (Nat.le_succ _) _).setCell (Nat.le_succ _) _).setCell (Nat.le_succ _) _).setCell (Nat.le_succ _) _
theorem FsW.cell {w wr : World} {c aA bA aB bB : Nat} (h : FsW w c aA bA aB bB wr) :
    wr.cell? ⟨w.heap.size + 1, 0, none⟩ = some (.int .i64 c) ∧ wr.cell? ⟨w.heap.size + 1, 1, none⟩ = some (.int .u64 aA) ∧ wr.cell? ⟨w.heap.size + 1, 2, none⟩ = some (.int .u64 bA) ∧ wr.cell? ⟨w.heap.size + 1, 3, none⟩ = some (.int .u64 aB) ∧ wr.cell? ⟨w.heap.size + 1, 4, none⟩ = some (.int .u64 bB) := by
  have hr := h.row
  refine ⟨?_, ?_, ?_, ?_, ?_⟩ <;> simp [World.cell?, hr]
theorem FsW.free {w wr : World} {c aA bA aB bB : Nat} (h : FsW w c aA bA aB bB wr) : ∀ i, wr.frozen? ⟨w.heap.size + 1, i, none⟩ = false := by
  have hr := h.row
  intro i; simp [World.frozen?, hr]
theorem FsW.resCell {w wr : World} {c aA bA aB bB : Nat} (h : FsW w c aA bA aB bB wr) :
    ∃ v0 v1 v2 v3 v4, wr.cell? ⟨w.heap.size, 0, none⟩ = some v0 ∧ wr.cell? ⟨w.heap.size, 1, none⟩ = some v1 ∧ wr.cell? ⟨w.heap.size, 2, none⟩ = some v2 ∧ wr.cell? ⟨w.heap.size, 3, none⟩ = some v3 ∧ wr.cell? ⟨w.heap.size, 4, none⟩ = some v4 ∧
      ∀ i, wr.frozen? ⟨w.heap.size, i, none⟩ = false := by
  obtain ⟨v0, v1, v2, v3, v4, hr⟩ := h.res
  refine ⟨v0, v1, v2, v3, v4, ?_, ?_, ?_, ?_, ?_, fun i => ?_⟩ <;> simp [World.cell?, World.frozen?, hr]
/-- The results are five cells that the call's end has written. -/
theorem FsW.res5 {w wr : World} {c aA bA aB bB : Nat} (h : FsW w c aA bA aB bB wr) {v0 v1 v2 v3 v4 : Value} {W : World}
    (hW : W = (((((wr.setCell ⟨w.heap.size, 0, none⟩ v0).setCell ⟨w.heap.size, 1, none⟩ v1).setCell ⟨w.heap.size, 2, none⟩ v2).setCell ⟨w.heap.size, 3, none⟩ v3).setCell ⟨w.heap.size, 4, none⟩ v4)) :
    W.cell? ⟨w.heap.size, 0, none⟩ = some v0 ∧ W.cell? ⟨w.heap.size, 1, none⟩ = some v1 ∧ W.cell? ⟨w.heap.size, 2, none⟩ = some v2 ∧ W.cell? ⟨w.heap.size, 3, none⟩ = some v3 ∧ W.cell? ⟨w.heap.size, 4, none⟩ = some v4 := by
  obtain ⟨u0, u1, u2, u3, u4, hr⟩ := h.res
  have hh := row_set (row_set (row_set (row_set (row_set hr 0 v0) 1 v1) 2 v2) 3 v3) 4 v4
  rw [← hW] at hh
  refine ⟨?_, ?_, ?_, ?_, ?_⟩ <;> simp [World.cell?, hh]
theorem FsW.res1 {w wr : World} {c aA bA aB bB : Nat} (h : FsW w c aA bA aB bB wr) (v : Value) : (wr.setCell ⟨w.heap.size, 0, none⟩ v).cell? ⟨w.heap.size, 0, none⟩ = some v := by
  obtain ⟨u0, u1, u2, u3, u4, hr⟩ := h.res
  have hh := row_set hr 0 v
  simp [World.cell?, hh]
theorem FsW.drawn {w wr : World} {c aA bA aB bB : Nat} (h : FsW w c aA bA aB bB wr) (d : Nat) : FsW w c aA bA aB bB (wr.drewN d) :=
  ⟨h.row, h.res, below_drewN h.bel d⟩
def FsRel (w : World) (S m k : Nat) (vx vy : Value) (wr : World) : Prop :=
  ∃ c aA bA aB bB x y P Q : Nat, vx = .int .u64 x ∧ vy = .int .u64 y ∧ FsInv S m k c aA bA aB bB x y P Q ∧ FsCnt c aA bA aB bB y ∧ FsW w c aA bA aB bB wr
theorem FsW.start (w : World) (d : Nat) : FsW w 0 1 0 0 1 (((w.alloc (.cells #[.int .i64 0, .int .u64 0, .int .u64 0, .int .u64 0, .int .u64 0] 164)).alloc (.cells #[.int .i64 0, .int .u64 1, .int .u64 0, .int .u64 0, .int .u64 1] 164)).drewN d) := by
  refine ⟨?_, ⟨.int .i64 0, .int .u64 0, .int .u64 0, .int .u64 0, .int .u64 0, ?_⟩, below_two w _ _ d⟩
  · have := heap_alloc_new (w.alloc (.cells #[.int .i64 0, .int .u64 0, .int .u64 0, .int .u64 0, .int .u64 0] 164)) (.cells #[.int .i64 0, .int .u64 1, .int .u64 0, .int .u64 0, .int .u64 1] 164)
    simpa using this
  · show ((w.alloc _).alloc _).heap[w.heap.size]? = _
    rw [heap_alloc_old _ _ (by simp)]
    exact heap_alloc_new w _
set_option maxRecDepth 100000 in
set_option maxHeartbeats 1000000 in
/-- findSteps -/
theorem findSteps_any {va vb : Value} {m k : Nat} {w : World} (ha : NatV w .u64 B64 va m) (hb : NatV w .u64 B64 vb k) (hk : k ≤ m) (hk2 : B64 ≤ k) :
    Calls Tryz.prog 164 #[va, vb] w (FsPost w m k) := by
  have hh := fun w' (h : Below w.heap.size w w') => heads_any (ha.below h) (hb.below h) hk hk2
  have HH := Lib.hid hh
  have HKM := Lib.hid hk
  clear hh ha hb hk hk2
  go_enter Tryz.func164, Tryz.ntmps164
  go_wp2_with fail
  refine (HH.out _ (((Below.refl _ _).alloc (Nat.le_refl _) _).alloc (by simp) _)).mono ?_
  rintro e w1 ⟨S, hS, rfl, h64, n1, rfl⟩
  have hst := FsInv.start (S := S) HKM.out
  have H64 := Lib.hid h64
  have HS := Lib.hid hS
  obtain ⟨X, hX⟩ : ∃ X, m / S = X := ⟨_, rfl⟩
  obtain ⟨Y, hY⟩ : ∃ Y, k / S = Y := ⟨_, rfl⟩
  rw [hX, hY] at hst ⊢
  have HST := Lib.hid hst
  clear h64 hS hX hY hst
  go_wp2_with fail
  go_loopw [6, 7] (fun x y wr => FsRel w S m k x y wr) (fun _ y _ => (intOf y).toNat)
  case atStart => exact ⟨0, 1, 0, 0, 1, X, Y, m, k, rfl, rfl, HST.out, FsCnt.start Y, FsW.start w n1⟩
  case round =>
    clear HST
    obtain ⟨c, aA, bA, aB, bB, x, y, P, Q, rfl, rfl, hinv, hcnt, hfw⟩ := hrel
    obtain ⟨k0, k1, k2, k3, k4⟩ := hfw.cell
    have kf0 := hfw.free 0
    have kf1 := hfw.free 1
    have kf2 := hfw.free 2
    have kf3 := hfw.free 3
    have kf4 := hfw.free 4
    obtain ⟨v0, v1, v2, v3, v4, l0, l1, l2, l3, l4, lf⟩ := hfw.resCell
    have lf0 := lf 0
    have lf1 := lf 1
    have lf2 := lf 2
    have lf3 := lf 3
    have lf4 := lf 4
    have HFW := Lib.hid hfw
    clear hfw lf
    have HI := Lib.hid hinv
    have HC := Lib.hid hcnt
    have hc34 := hinv.count hcnt H64.out
    by_cases hy : y = 0
    · have hy' : ((y : Int) != 0) = false := by rw [hy]; rfl
      have HC34 := Lib.hid hc34
      clear hy hinv hcnt hc34
      go_wp2_with fail
      refine bodyPost_ret (v := .agg #[.int .i64 c, .int .u64 aA, .int .u64 bA, .int .u64 aB, .int .u64 bB]) (by obtain ⟨e0, e1, e2, e3, e4⟩ := HFW.out.res5 (v0 := .int .i64 c) (v1 := .int .u64 aA) (v2 := .int .u64 bA) (v3 := .int .u64 aB) (v4 := .int .u64 bB) rfl; have e5 := HFW.out.res1 (.int .i64 c); simp [results, Tryz.results164, go_sem, e1, e2, e3, e4, e5]) rfl ⟨S, c, aA, bA, aB, bB, x, y, P, Q, rfl, HI.out, HC.out, HC34.out, ?_⟩
      first | exact below_five HFW.out.bel (Nat.le_refl _) | exact below_five (below_drewN HFW.out.bel _) (Nat.le_refl _)
    · have hy' : ((y : Int) != 0) = true := by rw [bne_iff_ne]; omega
      have hyp : 0 < y := by omega
      obtain ⟨q, r, nA, nB, yr, hR⟩ := hinv.round hcnt HS.out hyp H64.out
      have hquo := hR.hquo
      have hr := hR.hr
      have ha1 := hR.ha1
      have ha2 := hR.ha2
      have hyr := hR.hyr
      have HR := Lib.hid hR
      have HC34 := Lib.hid hc34
      clear hR hinv hcnt hy
      rcases Nat.lt_or_ge r nB with t1 | t1
      · clear hc34
        go_wp2_with fail
        go_quiet (fail)
        go_wp2_with fail
        refine bodyPost_ret (v := .agg #[.int .i64 c, .int .u64 aA, .int .u64 bA, .int .u64 aB, .int .u64 bB]) (by
            have g0 : ∀ d, (wr.drewN d).cell? ⟨w.heap.size, 0, none⟩ = some v0 := fun _ => l0
            have g1 : ∀ d, (wr.drewN d).cell? ⟨w.heap.size, 1, none⟩ = some v1 := fun _ => l1
            have g2 : ∀ d, (wr.drewN d).cell? ⟨w.heap.size, 2, none⟩ = some v2 := fun _ => l2
            have g3 : ∀ d, (wr.drewN d).cell? ⟨w.heap.size, 3, none⟩ = some v3 := fun _ => l3
            have g4 : ∀ d, (wr.drewN d).cell? ⟨w.heap.size, 4, none⟩ = some v4 := fun _ => l4
            have f0 : ∀ d, (wr.drewN d).frozen? ⟨w.heap.size, 0, none⟩ = false := fun _ => lf0
            have f1 : ∀ d, (wr.drewN d).frozen? ⟨w.heap.size, 1, none⟩ = false := fun _ => lf1
            have f2 : ∀ d, (wr.drewN d).frozen? ⟨w.heap.size, 2, none⟩ = false := fun _ => lf2
            have f3 : ∀ d, (wr.drewN d).frozen? ⟨w.heap.size, 3, none⟩ = false := fun _ => lf3
            have f4 : ∀ d, (wr.drewN d).frozen? ⟨w.heap.size, 4, none⟩ = false := fun _ => lf4
            simp [results, Tryz.results164, go_sem, g0, g1, g2, g3, g4, f0, f1, f2, f3, f4]) rfl ⟨S, c, aA, bA, aB, bB, x, y, P, Q, rfl, HI.out, HC.out, HC34.out, ?_⟩
        first | exact below_five HFW.out.bel (Nat.le_refl _) | exact below_five (below_drewN HFW.out.bel _) (Nat.le_refl _)
      · have e1 := HR.out.hbn t1
        by_cases t2 : yr < bB + nB
        · clear hc34
          go_wp2_with fail
          go_quiet (fail)
          go_wp2_with fail
          refine bodyPost_ret (v := .agg #[.int .i64 c, .int .u64 aA, .int .u64 bA, .int .u64 aB, .int .u64 bB]) (by
            have g0 : ∀ d, (wr.drewN d).cell? ⟨w.heap.size, 0, none⟩ = some v0 := fun _ => l0
            have g1 : ∀ d, (wr.drewN d).cell? ⟨w.heap.size, 1, none⟩ = some v1 := fun _ => l1
            have g2 : ∀ d, (wr.drewN d).cell? ⟨w.heap.size, 2, none⟩ = some v2 := fun _ => l2
            have g3 : ∀ d, (wr.drewN d).cell? ⟨w.heap.size, 3, none⟩ = some v3 := fun _ => l3
            have g4 : ∀ d, (wr.drewN d).cell? ⟨w.heap.size, 4, none⟩ = some v4 := fun _ => l4
            have f0 : ∀ d, (wr.drewN d).frozen? ⟨w.heap.size, 0, none⟩ = false := fun _ => lf0
            have f1 : ∀ d, (wr.drewN d).frozen? ⟨w.heap.size, 1, none⟩ = false := fun _ => lf1
            have f2 : ∀ d, (wr.drewN d).frozen? ⟨w.heap.size, 2, none⟩ = false := fun _ => lf2
            have f3 : ∀ d, (wr.drewN d).frozen? ⟨w.heap.size, 3, none⟩ = false := fun _ => lf3
            have f4 : ∀ d, (wr.drewN d).frozen? ⟨w.heap.size, 4, none⟩ = false := fun _ => lf4
            simp [results, Tryz.results164, go_sem, g0, g1, g2, g3, g4, f0, f1, f2, f3, f4]) rfl ⟨S, c, aA, bA, aB, bB, x, y, P, Q, rfl, HI.out, HC.out, HC34.out, ?_⟩
          first | exact below_five HFW.out.bel (Nat.le_refl _) | exact below_five (below_drewN HFW.out.bel _) (Nat.le_refl _)
        · obtain ⟨Q', hn1, hn2⟩ := HR.out.next t1 (Nat.not_lt.1 t2)
          have HN := Lib.hid (And.intro hn1 hn2)
          clear hn1 hn2
          go_wp2_with fail
          go_quiet (fail)
          go_wp2_with fail
          go_roundw
          case rel => exact ⟨c + 1, aB, bB, nA, nB, y, r, Q, Q', rfl, rfl, HN.out.1, HN.out.2, HFW.out.step _⟩
          case measure => have := HR.out.ry; simp [intOf]; omega
end Go.Proofs.YtekghemhccfhkaaGreatDoor
namespace Go.Big
open Go Go.RowKit
structure MpInv (a b : List Nat) (x y n i : Nat) (cur : List Nat) (cA cB br : Nat) : Prop where
  len : cur.length = n
  wd : Wd B64 cur
  ca : cA < 18446744073709551616
  cb : cB < 18446744073709551616
  br1 : br ≤ 1
  eq : val B64 (cur.take i) + y * val B64 (b.take i) + cA * B64 ^ i = x * val B64 (a.take i) + (cB + br) * B64 ^ i
theorem MpInv.start (a b : List Nat) (x y n : Nat) : MpInv a b x y n 0 (zeros n) 0 0 0 := ⟨zeros_len _, zeros_wd (by decide) _, by decide, by decide, by decide, by simp [val]⟩
theorem mp_arith {P B d lb br la br' cA' cA va x cB' cB vb y S T U : Nat} (e1 : la + B * cA' = va * x + cA) (e2 : lb + B * cB' = vb * y + cB) (e3 : d + lb + br = la + B * br')
    (h : S + y * T + cA * P = x * U + (cB + br) * P) : S + P * d + y * (T + P * vb) + cA' * (P * B) = x * (U + P * va) + (cB' + br') * (P * B) := by
  grind
theorem MpInv.step {a b cur : List Nat} {x y n i cA cB br : Nat} (h : MpInv a b x y n i cur cA cB br) (hi : i < n) (ha : a.length = n) (hb : b.length = n) (wa : Wd B64 a) (wb : Wd B64 b)
    (hx : x < 18446744073709551616) (hy : y < 18446744073709551616) :
    MpInv a b x y n (i + 1) (cur.set i (subLo (mcLo (nth a i) x cA) (mcLo (nth b i) y cB) br)) (mcHi (nth a i) x cA) (mcHi (nth b i) y cB) (subHi (mcLo (nth a i) x cA) (mcLo (nth b i) y cB) br) := by
  have hl := h.len
  refine ⟨by rw [List.length_set, hl], h.wd.set (subLo_lt _ _ _), mcHi_lt _ _ _, mcHi_lt _ _ _, subHi_le _ _ _, ?_⟩
  rw [set_take_val _ _ _ _ (by omega), take_val_nth _ a i (by omega), take_val_nth _ b i (by omega), Nat.pow_succ]
  exact mp_arith (mc_eq (wa.nth (by omega)) hx h.ca) (mc_eq (wb.nth (by omega)) hy h.cb) (sub_eq (mcLo_lt _ _ _) (mcLo_lt _ _ _) h.br1) h.eq
theorem mp_done {D N M S C E : Nat} (h : D + M + C * S = N + E * S) (hD : D < S) (hle : M ≤ N) (hlt : N < M + S) : D = N - M := by
  have h1 : C = E := by
    rcases Nat.lt_trichotomy C E with h2 | h2 | h2
    · have : (C + 1) * S ≤ E * S := Nat.mul_le_mul_right _ h2
      rw [Nat.add_mul, Nat.one_mul] at this
      omega
    · exact h2
    · have : (E + 1) * S ≤ C * S := Nat.mul_le_mul_right _ h2
      rw [Nat.add_mul, Nat.one_mul] at this
      omega
  subst h1
  omega
theorem MpInv.done {a b cur : List Nat} {x y n cA cB br : Nat} (h : MpInv a b x y n n cur cA cB br) (ha : a.length = n) (hb : b.length = n) (hle : y * val B64 b ≤ x * val B64 a) (hlt : x * val B64 a < y * val B64 b + B64 ^ n) :
    val B64 cur = x * val B64 a - y * val B64 b := by
  have e := h.eq
  rw [List.take_of_length_le (by rw [h.len]; omega), List.take_of_length_le (by omega), List.take_of_length_le (by omega)] at e
  have h1 := val_lt h.wd
  rw [h.len] at h1
  exact mp_done e h1 hle hlt
end Go.Big
namespace Go.Proofs.YtekghemhccfhkaaGreatDoor
open Go.RowKit Go.Big
set_option maxRecDepth 100000 in
set_option maxHeartbeats 2000000 in
theorem minusProducts_core (ao bo : Option Addr) (capa capb : Nat) (la lb : List Nat) (x y n : Nat) (w : World) (sa : SlA w .u64 ao capa la) (sb : SlA w .u64 bo capb lb) (wa : Wd B64 la) (wb : Wd B64 lb)
    (hx : x < 18446744073709551616) (hy : y < 18446744073709551616) (hn : max la.length lb.length = n) (hle : y * val B64 lb ≤ x * val B64 la) (hlt : x * val B64 la < y * val B64 lb + B64 ^ n) :
    Calls Tryz.prog 199 #[.slice ao la.length capa, .int .u64 x, .slice bo lb.length capb, .int .u64 y] w (RetNat w (x * val B64 la - y * val B64 lb)) := by
  have hla := sa.len_le
  have hlb := sb.len_le
  have hnn : n ≤ 1099511627776 := by omega
  have ha : la.length ≤ n := by omega
  have hb : lb.length ≤ n := by omega
  have hmax : max (la.length : Int) (lb.length : Int) = (n : Int) := by omega
  have wa1 := widen_any (size := n) sa rfl ha hnn
  have wb1 := fun w' (h : Below w.heap.size w w') => widen_any (size := n) (sb.below h) rfl hb hnn
  have HWA := Lib.hid wa1
  have HWB := Lib.hid wb1
  have HLE := Lib.hid (And.intro hle hlt)
  have HXY := Lib.hid (And.intro hx hy)
  have hifm : (if la.length < lb.length then (lb.length : Int) else (la.length : Int)) = (n : Int) := by split <;> omega
  clear wa1 wb1 hle hlt hx hy sa sb hn
  go_enter Tryz.func199, Tryz.ntmps199
  go_wp2_with fail
  refine HWA.out.mono ?_
  rintro e w1 ⟨ao1, capa1, rfl, sa1, hb1⟩
  have SA := Lib.hid sa1
  have HB1 := Lib.hid hb1
  clear sa1 hb1
  go_wp2_with fail
  refine (HWB.out _ HB1.out).mono ?_
  rintro e w2 ⟨bo1, capb1, rfl, sb2, hb2⟩
  have sa2 := SA.out.below hb2
  have hbel := below_trans HB1.out hb2
  have hla1 : (la ++ zeros (n - la.length)).length = n := by simp [zeros]; omega
  have hlb1 : (lb ++ zeros (n - lb.length)).length = n := by simp [zeros]; omega
  have wal : Wd B64 (la ++ zeros (n - la.length)) := wa.append (zeros_wd (by decide) _)
  have wbl : Wd B64 (lb ++ zeros (n - lb.length)) := wb.append (zeros_wd (by decide) _)
  have va : val B64 (la ++ zeros (n - la.length)) = val B64 la := by rw [val_append, zeros_val]; simp
  have vb : val B64 (lb ++ zeros (n - lb.length)) = val B64 lb := by rw [val_append, zeros_val]; simp
  generalize la ++ zeros (n - la.length) = A at *
  generalize lb ++ zeros (n - lb.length) = Bl at *
  have hmk := mk64 (n : Int) n rfl hnn w2
  have hr0 : isRow (w2.alloc (.cells (cellsOf .u64 (zeros n)) 71)) w2.heap.size 71 .u64 (zeros n) := isRow_alloc _ _ _ _
  have hb0 : Below w2.heap.size w2 (w2.alloc (.cells (cellsOf .u64 (zeros n)) 71)) := (Below.refl _ _).alloc (Nat.le_refl _) _
  generalize hW : w2.alloc (.cells (cellsOf .u64 (zeros n)) 71) = W at *
  have hb3 := hb0
  have HR := Lib.hid hr0
  have HB0 := Lib.hid hb0
  have HBel := Lib.hid hbel
  have HV := Lib.hid (And.intro va vb)
  have HL := Lib.hid (And.intro hla1 hlb1)
  have SA2 := Lib.hid sa2
  have SB2 := Lib.hid sb2
  clear hW hr0 hb0 hbel va vb hla1 hlb1 sa2 sb2 hb2 hb3 SA HWA HWB wa wb
  go_wp2_with fail
  go_loopw [11, 12, 13, 35] (fun p q r i wr => ∃ (k cA cB br : Nat) (cur : List Nat), k ≤ n ∧ i = .int .i64 k ∧ p = .int .u64 cA ∧ q = .int .u64 cB ∧ r = .int .u64 br ∧ MpInv A Bl x y n k cur cA cB br ∧ isRow wr w2.heap.size 71 .u64 cur ∧ Below w2.heap.size w2 wr)
    (fun _ _ _ i _ => n - (intOf i).toNat)
  case atStart => exact ⟨0, 0, 0, 0, _, Nat.zero_le _, rfl, rfl, rfl, rfl, MpInv.start A Bl x y n, HR.out, HB0.out⟩
  case round =>
    clear HR HB0
    obtain ⟨k, cA, cB, br, cur, hk, rfl, rfl, rfl, rfl, hinv, hr, hbw⟩ := hrel
    have hl := hinv.len
    by_cases hlt : k < n
    · obtain ⟨ga, offa, rfl, hga, hca⟩ := SA2.out.at (i := k) (by have := HL.out.1; omega)
      obtain ⟨gb, offb, rfl, hgb, hcb⟩ := SB2.out.at (i := k) (by have := HL.out.2; omega)
      have ca := (hbw.cell (p := ⟨ga, offa + k, none⟩) hga).trans (hca k (by have := HL.out.1; omega))
      have cb := (hbw.cell (p := ⟨gb, offb + k, none⟩) hgb).trans (hcb k (by have := HL.out.2; omega))
      have c0 := hr.cell (i := k) (by omega)
      have f0 := hr.frozen k
      have na : nth A k < 18446744073709551616 := wal.nth (by have := HL.out.1; omega)
      have nb : nth Bl k < 18446744073709551616 := wbl.nth (by have := HL.out.2; omega)
      have m1 := mul_at (nth A k) x na HXY.out.1 wr
      have m2 := mul_at (nth Bl k) y nb HXY.out.2 wr
      have h1 := run_addc (mulLo (nth A k) x) cA wr
      have h2 := run_add0 (mulHi (nth A k) x) (addHi (mulLo (nth A k) x) cA 0) (addHi_le (mulLo_lt _ _) hinv.ca (by decide)) wr
      have h3 := run_addc (mulLo (nth Bl k) y) cB wr
      have h4 := run_add0 (mulHi (nth Bl k) y) (addHi (mulLo (nth Bl k) y) cB 0) (addHi_le (mulLo_lt _ _) hinv.cb (by decide)) wr
      have h5 := run_sub (addLo (mulLo (nth A k) x) cA 0) (addLo (mulLo (nth Bl k) y) cB 0) br hinv.br1 wr
      have HStep := Lib.hid (hinv.step hlt HL.out.1 HL.out.2 wal wbl HXY.out.1 HXY.out.2)
      have HR2 := Lib.hid (hr.storeRow k (subLo (mcLo (nth A k) x cA) (mcLo (nth Bl k) y cB) br))
      have M1 := Lib.hid m1
      have M2 := Lib.hid m2
      clear m1 m2 na nb hca hcb hr hl hinv
      go_wp2_with fail
      refine M1.out.mono ?_
      rintro e w3 ⟨rfl, rfl⟩
      go_wp2_with fail
      refine M2.out.mono ?_
      rintro e w3 ⟨rfl, rfl⟩
      go_wp2_with fail
      go_roundw
      case rel => exact ⟨k + 1, _, _, _, _, by omega, by go_num, rfl, rfl, rfl, HStep.out, HR2.out, hbw.setCell (Nat.le_refl _) _⟩
      case measure => simp [intOf]; omega
    · have hkn : k = n := by omega
      subst hkn
      have hs2 := hr.sl (cap := k) (by omega) (by omega)
      have hv := hinv.done HL.out.1 HL.out.2 (by rw [HV.out.1, HV.out.2]; exact HLE.out.1) (by rw [HV.out.1, HV.out.2]; exact HLE.out.2)
      rw [HV.out.1, HV.out.2] at hv
      have hwd := hinv.wd
      have htr := trim_at hs2 hl
      have H := Lib.hid htr
      have HVV := Lib.hid hv
      clear htr hv hl
      go_wp2_with fail
      refine H.out.mono ?_
      intro e w5 ht
      have hret := trim_ret hs2 hwd HVV.out hbw ht
      obtain ⟨v, rfl, hv, hbw⟩ := hret
      have HB := Lib.hid (below_trans HBel.out hbw)
      clear H ht hbw
      go_wp2_with fail
      go_ret
      exact ⟨v, rfl, hv, HB.out⟩
end Go.Proofs.YtekghemhccfhkaaGreatDoor
