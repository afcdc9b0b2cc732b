/-
  Walks of the program's functions: RMath, RSize, IntA, Clone.
-/
import Derived.Test.YtekghemhccfhkaaGreatDoorB03
import Derived.Test.YtekghemhccfhkaaGreatDoorB08
namespace Go.Big
/-- A rational number from its parts. -/
theorem rat_of {q : Rat} {n : Int} {d : Nat} (hd : d ≠ 0) (hc : n.natAbs.Coprime d) (h : q.num * d = n * q.den) : q.num = n ∧ q.den = d := by
  have e : (⟨n, d, hd, hc⟩ : Rat) = q := by
    rw [Rat.mk_eq_divInt, ← Rat.num_divInt_den q]
    rw [Rat.divInt_eq_divInt_iff (by omega) (by have := q.den_nz; omega)]
    exact h.symm
  exact ⟨by rw [← e], by rw [← e]⟩
theorem rat_den_pos (q : Rat) : 0 < q.den := Nat.pos_of_ne_zero q.den_nz
theorem rat_add (a b : Rat) : (a + b).num * ((a.den * b.den : Nat) : Int) = (a.num * b.den + b.num * a.den) * (a + b).den := by
  have ha := a.den_nz
  have hb := b.den_nz
  have h : a + b = Rat.divInt (a.num * b.den + b.num * a.den) ((a.den : Int) * b.den) := by
    rw [← Rat.divInt_add_divInt _ _ (by omega) (by omega), Rat.num_divInt_den, Rat.num_divInt_den]
  have h2 : Rat.divInt (a + b).num (a + b).den = Rat.divInt (a.num * b.den + b.num * a.den) ((a.den : Int) * b.den) := by
    rw [Rat.num_divInt_den]; exact h
  rw [Rat.divInt_eq_divInt_iff (by have := (a + b).den_nz; omega) (by
    have := Int.mul_pos (a := (a.den : Int)) (b := (b.den : Int)) (by omega) (by omega); omega)] at h2
  rw [Int.natCast_mul]; exact h2
theorem rat_mul (a b : Rat) : (a * b).num * ((a.den * b.den : Nat) : Int) = (a.num * b.num) * (a * b).den := by
  have ha := a.den_nz
  have hb := b.den_nz
  have h : a * b = Rat.divInt (a.num * b.num) ((a.den : Int) * b.den) := by
    rw [← Rat.divInt_mul_divInt, Rat.num_divInt_den, Rat.num_divInt_den]
  have h2 : Rat.divInt (a * b).num (a * b).den = Rat.divInt (a.num * b.num) ((a.den : Int) * b.den) := by
    rw [Rat.num_divInt_den]; exact h
  rw [Rat.divInt_eq_divInt_iff (by have := (a * b).den_nz; omega) (by
    have := Int.mul_pos (a := (a.den : Int)) (b := (b.den : Int)) (by omega) (by omega); omega)] at h2
  rw [Int.natCast_mul]; exact h2
/-- num / den reduced. -/
theorem cop_div {a b : Nat} (h : 0 < b) : (a / Nat.gcd a b).Coprime (b / Nat.gcd a b) := by
  have hg : 0 < Nat.gcd a b := Nat.gcd_pos_of_pos_right _ h
  exact Nat.coprime_div_gcd_div_gcd hg
theorem natAbs_ediv {n : Int} {g : Nat} (h : (g : Int) ∣ n) : (n / (g : Int)).natAbs = n.natAbs / g := by
  obtain ⟨k, rfl⟩ := h
  rcases Nat.eq_zero_or_pos g with h0 | h0
  · subst h0; simp
  · rw [Int.mul_ediv_cancel_left _ (by omega), Int.natAbs_mul, Int.natAbs_natCast, Nat.mul_div_cancel_left _ h0]
theorem gcd_dvd_int {n : Int} {d : Nat} : ((Nat.gcd n.natAbs d : Nat) : Int) ∣ n := by
  have h := Nat.gcd_dvd_left n.natAbs d
  exact Int.ofNat_dvd_left.2 h
theorem rat_reduce {q : Rat} {n : Int} {d : Nat} (hd : 0 < d) (h : q.num * d = n * q.den) :
    q.num = n / (Nat.gcd n.natAbs d : Nat) ∧ q.den = d / Nat.gcd n.natAbs d := by
  have hg : 0 < Nat.gcd n.natAbs d := Nat.gcd_pos_of_pos_right _ hd
  obtain ⟨k, hk⟩ := gcd_dvd_int (n := n) (d := d)
  obtain ⟨l, hl⟩ := Nat.gcd_dvd_right n.natAbs d
  have hdv : 0 < d / Nat.gcd n.natAbs d := by
    have : d = Nat.gcd n.natAbs d * (d / Nat.gcd n.natAbs d) := (Nat.mul_div_cancel' (Nat.gcd_dvd_right _ _)).symm
    rcases Nat.eq_zero_or_pos (d / Nat.gcd n.natAbs d) with h0 | h0
    · rw [h0] at this; omega
    · exact h0
  refine rat_of (by omega) ?_ ?_
  · rw [natAbs_ediv gcd_dvd_int]; exact cop_div hd
  · generalize hgg : Nat.gcd n.natAbs d = g at *
    subst hl
    rw [Nat.mul_div_cancel_left _ hg, hk, Int.mul_ediv_cancel_left _ (by omega)]
    rw [hk, Int.natCast_mul] at h
    have h3 : (g : Int) * (q.num * l) = (g : Int) * (k * q.den) := by grind
    exact Int.eq_of_mul_eq_mul_left (by omega) h3
theorem coprime_add_mul_left {a x k : Nat} : Nat.Coprime (a + x * k) x ↔ Nat.Coprime a x := by
  unfold Nat.Coprime
  rw [Nat.gcd_comm, Nat.gcd_comm a x, Nat.gcd_add_mul_left_right]
theorem cop_natAbs_add {u v : Int} {x : Nat} (hu : u.natAbs.Coprime x) (hv : (x : Int) ∣ v) : (u + v).natAbs.Coprime x := by
  unfold Nat.Coprime at *
  have h1 : Int.gcd (u + v) x = Int.gcd u x := by
    obtain ⟨k, rfl⟩ := hv
    rw [Int.gcd_comm, Int.gcd_comm u]
    exact Int.gcd_add_mul_left_right _ _ _
  unfold Int.gcd at h1
  rw [Int.natAbs_natCast] at h1
  rw [h1]; exact hu
/-- Addition that looks for common divisors in the denominators first. -/
theorem rat_add_of (a b : Rat) {g x y t : Nat} {s : Int} (hg : Nat.gcd a.den b.den = g) (hx : a.den / g = x) (hy : b.den / g = y) (hs : a.num * y + b.num * x = s) (ht : Nat.gcd s.natAbs g = t) :
    (a + b).num = s / t ∧ (a + b).den = x * (b.den / t) := by
  have hg0 : 0 < g := by rw [← hg]; exact Nat.gcd_pos_of_pos_left _ (rat_den_pos a)
  have hcxy : Nat.Coprime x y := by rw [← hx, ← hy, ← hg]; exact cop_div (rat_den_pos b)
  have ea : a.den = g * x := by rw [← hx, ← hg]; exact (Nat.mul_div_cancel' (Nat.gcd_dvd_left _ _)).symm
  have eb : b.den = g * y := by rw [← hy, ← hg]; exact (Nat.mul_div_cancel' (Nat.gcd_dvd_right _ _)).symm
  have hca : a.num.natAbs.Coprime (g * x) := by rw [← ea]; exact a.reduced
  have hcb : b.num.natAbs.Coprime (g * y) := by rw [← eb]; exact b.reduced
  have hx0 : 0 < x := by
    rcases Nat.eq_zero_or_pos x with h | h
    · have := rat_den_pos a; rw [ea, h] at this; omega
    · exact h
  have hy0 : 0 < y := by
    rcases Nat.eq_zero_or_pos y with h | h
    · have := rat_den_pos b; rw [eb, h] at this; omega
    · exact h
  have c1 : s.natAbs.Coprime x := by
    rw [← hs]
    refine cop_natAbs_add ?_ (Int.dvd_mul_left _ _)
    rw [Int.natAbs_mul, Int.natAbs_natCast]
    exact Nat.Coprime.mul_left (hca.coprime_dvd_right (Nat.dvd_mul_left x g)) hcxy.symm
  have c2 : s.natAbs.Coprime y := by
    rw [← hs, Int.add_comm]
    refine cop_natAbs_add ?_ (Int.dvd_mul_left _ _)
    rw [Int.natAbs_mul, Int.natAbs_natCast]
    exact Nat.Coprime.mul_left (hcb.coprime_dvd_right (Nat.dvd_mul_left y g)) hcxy
  have ht0 : 0 < t := by rw [← ht]; exact Nat.gcd_pos_of_pos_right _ hg0
  have htg : t ∣ g := by rw [← ht]; exact Nat.gcd_dvd_right _ _
  have hts : (t : Int) ∣ s := by rw [← ht]; exact gcd_dvd_int
  obtain ⟨g', hg'⟩ := htg
  obtain ⟨s', hs'⟩ := hts
  have e1 : s / t = s' := by rw [hs', Int.mul_ediv_cancel_left _ (by omega)]
  have e2 : b.den / t = g' * y := by rw [eb, hg', Nat.mul_assoc, Nat.mul_div_cancel_left _ ht0]
  have e3 : s.natAbs / t = s'.natAbs := by rw [hs', Int.natAbs_mul, Int.natAbs_natCast, Nat.mul_div_cancel_left _ ht0]
  have e4 : g / t = g' := by rw [hg', Nat.mul_div_cancel_left _ ht0]
  have c3 : s'.natAbs.Coprime g' := by
    have := cop_div (a := s.natAbs) hg0
    rw [ht, e3, e4] at this; exact this
  have hd : s'.natAbs ∣ s.natAbs := by rw [hs', Int.natAbs_mul]; exact Nat.dvd_mul_left _ _
  have hg'0 : 0 < g' := by
    rcases Nat.eq_zero_or_pos g' with h | h
    · rw [h] at hg'; omega
    · exact h
  rw [e1, e2]
  refine rat_of ?_ ?_ ?_
  · have := Nat.mul_pos hx0 (Nat.mul_pos hg'0 hy0); omega
  · exact Nat.Coprime.mul_right (c1.coprime_dvd_left hd) (Nat.Coprime.mul_right c3 (c2.coprime_dvd_left hd))
  · have h1 := rat_add a b
    have h2 : a.num * (b.den : Int) + b.num * a.den = g * s := by
      rw [ea, eb, ← hs]; push_cast; grind
    rw [h2, ea, eb] at h1
    have h3 : ((g : Int) * t) * ((a + b).num * ((x * (g' * y) : Nat) : Int)) = ((g : Int) * t) * (s' * (a + b).den) := by
      have h4 : ((g * x * (g * y) : Nat) : Int) = (g : Int) * t * ((x * (g' * y) : Nat) : Int) := by
        conv => lhs; rw [show g * x * (g * y) = g * (x * (g * y)) by grind]
        rw [show g * (x * (g * y)) = g * t * (x * (g' * y)) by conv => lhs; rw [show g * (x * (g * y)) = g * (x * (t * g' * y)) by rw [← hg']]
                                                               grind]
        push_cast; grind
      rw [h4] at h1
      have h5 : (a + b).num * ((g : Int) * t * ((x * (g' * y) : Nat) : Int)) = g * (t * s') * (a + b).den := by rw [h1, ← hs']
      grind
    exact Int.eq_of_mul_eq_mul_left (by have := Int.mul_pos (a := (g : Int)) (b := t) (by omega) (by omega); omega) h3
/-- Multiplication that cancels first. -/
theorem rat_mul_of (a b : Rat) {l r : Nat} (hl : Nat.gcd a.num.natAbs b.den = l) (hr : Nat.gcd b.num.natAbs a.den = r) :
    (a * b).num = (a.num / l) * (b.num / r) ∧ (a * b).den = (a.den / r) * (b.den / l) := by
  have da := rat_den_pos a
  have db := rat_den_pos b
  have hl0 : 0 < l := by rw [← hl]; exact Nat.gcd_pos_of_pos_right _ db
  have hr0 : 0 < r := by rw [← hr]; exact Nat.gcd_pos_of_pos_right _ da
  have dl : (l : Int) ∣ a.num := by rw [← hl]; exact gcd_dvd_int
  have dr : (r : Int) ∣ b.num := by rw [← hr]; exact gcd_dvd_int
  have dl2 : l ∣ b.den := by rw [← hl]; exact Nat.gcd_dvd_right _ _
  have dr2 : r ∣ a.den := by rw [← hr]; exact Nat.gcd_dvd_right _ _
  have n1 := natAbs_ediv dl
  have n2 := natAbs_ediv dr
  have k1 : a.num.natAbs / l ∣ a.num.natAbs := Nat.div_dvd_of_dvd (by rw [← hl]; exact Nat.gcd_dvd_left _ _)
  have k2 : b.num.natAbs / r ∣ b.num.natAbs := Nat.div_dvd_of_dvd (by rw [← hr]; exact Nat.gcd_dvd_left _ _)
  have k3 : a.den / r ∣ a.den := Nat.div_dvd_of_dvd dr2
  have k4 : b.den / l ∣ b.den := Nat.div_dvd_of_dvd dl2
  have c1 : (a.num.natAbs / l).Coprime (a.den / r) := (a.reduced.coprime_dvd_left k1).coprime_dvd_right k3
  have c2 : (a.num.natAbs / l).Coprime (b.den / l) := by have := cop_div (a := a.num.natAbs) db; rw [hl] at this; exact this
  have c3 : (b.num.natAbs / r).Coprime (a.den / r) := by have := cop_div (a := b.num.natAbs) da; rw [hr] at this; exact this
  have c4 : (b.num.natAbs / r).Coprime (b.den / l) := (b.reduced.coprime_dvd_left k2).coprime_dvd_right k4
  obtain ⟨u, hu⟩ := dl
  obtain ⟨v, hv⟩ := dr
  obtain ⟨p, hp⟩ := dl2
  obtain ⟨o, ho⟩ := dr2
  have e1 : a.num / l = u := by rw [hu, Int.mul_ediv_cancel_left _ (by omega)]
  have e2 : b.num / r = v := by rw [hv, Int.mul_ediv_cancel_left _ (by omega)]
  have e3 : b.den / l = p := by rw [hp, Nat.mul_div_cancel_left _ hl0]
  have e4 : a.den / r = o := by rw [ho, Nat.mul_div_cancel_left _ hr0]
  have hp0 : 0 < p := by
    rcases Nat.eq_zero_or_pos p with h | h
    · rw [h] at hp; omega
    · exact h
  have ho0 : 0 < o := by
    rcases Nat.eq_zero_or_pos o with h | h
    · rw [h] at ho; omega
    · exact h
  rw [← n1, e1, e4] at c1
  rw [← n1, e1, e3] at c2
  rw [← n2, e2, e4] at c3
  rw [← n2, e2, e3] at c4
  rw [e1, e2, e3, e4]
  refine rat_of ?_ ?_ ?_
  · have := Nat.mul_pos ho0 hp0; omega
  · rw [Int.natAbs_mul]
    exact Nat.Coprime.mul_left (Nat.Coprime.mul_right c1 c2) (Nat.Coprime.mul_right c3 c4)
  · have h1 := rat_mul a b
    have h3 : ((l : Int) * r) * ((a * b).num * ((o * p : Nat) : Int)) = ((l : Int) * r) * (u * v * (a * b).den) := by
      have h4 : ((a.den * b.den : Nat) : Int) = (l : Int) * r * ((o * p : Nat) : Int) := by rw [ho, hp]; push_cast; grind
      rw [h4] at h1
      have h5 : a.num * b.num = (l : Int) * r * (u * v) := by rw [hu, hv]; grind
      rw [h5] at h1
      grind
    exact Int.eq_of_mul_eq_mul_left (by have := Int.mul_pos (a := (l : Int)) (b := r) (by omega) (by omega); omega) h3
/-- The inverse. -/
theorem rat_inv (a : Rat) (h : a ≠ 0) : (a⁻¹).num = (if a.num < 0 then -(a.den : Int) else a.den) ∧ (a⁻¹).den = a.num.natAbs := by
  have hn : a.num ≠ 0 := fun e => h (Rat.num_eq_zero.1 e)
  have da := rat_den_pos a
  have e : a⁻¹ = Rat.divInt a.den a.num := by
    conv => lhs; rw [← Rat.num_divInt_den a]
    exact Rat.inv_divInt ..
  refine rat_of (by omega) ?_ ?_
  · have : (if a.num < 0 then -(a.den : Int) else (a.den : Int)).natAbs = a.den := by split <;> simp
    rw [this]; exact a.reduced.symm
  · have h2 : Rat.divInt (a⁻¹).num (a⁻¹).den = Rat.divInt a.den a.num := by rw [Rat.num_divInt_den]; exact e
    rw [Rat.divInt_eq_divInt_iff (by have := (a⁻¹).den_nz; omega) hn] at h2
    split
    · have : ((a.num.natAbs : Nat) : Int) = - a.num := by omega
      rw [this]; grind
    · have : ((a.num.natAbs : Nat) : Int) = a.num := by omega
      rw [this]; exact h2
end Go.Big
namespace Go.Big
abbrev Bw : Nat := 18446744073709551616
/-- Numerator and denominator have at most K words. -/
def Sz (K : Nat) (q : Rat) : Prop := q.num.natAbs < Bw ^ K ∧ q.den < Bw ^ K
theorem bw_pos (K : Nat) : 0 < Bw ^ K := Nat.pow_pos (by decide)
theorem bw_mono {K L : Nat} (h : K ≤ L) : Bw ^ K ≤ Bw ^ L := Nat.pow_le_pow_right (by decide) h
theorem Sz.mono {K L : Nat} {q : Rat} (h : Sz K q) (hl : K ≤ L) : Sz L q := ⟨Nat.lt_of_lt_of_le h.1 (bw_mono hl), Nat.lt_of_lt_of_le h.2 (bw_mono hl)⟩
theorem Sz.neg {K : Nat} {q : Rat} (h : Sz K q) : Sz K (-q) := by
  unfold Sz at *
  rw [Rat.neg_num, Rat.neg_den, Int.natAbs_neg]; exact h
theorem natAbs_add_lt {u v : Int} {M N : Nat} (h1 : u.natAbs < M) (h2 : v.natAbs < N) : (u + v).natAbs < M + N := by omega
theorem mul_lt_pow {a b K L : Nat} (h1 : a < Bw ^ K) (h2 : b < Bw ^ L) : a * b < Bw ^ (K + L) := by
  rw [Nat.pow_add]
  exact Nat.mul_lt_mul'' h1 h2
theorem two_pow_lt {K : Nat} : Bw ^ K + Bw ^ K ≤ Bw ^ (K + 1) := by
  rw [Nat.pow_succ]
  have : Bw ^ K * 2 ≤ Bw ^ K * Bw := Nat.mul_le_mul_left _ (by decide)
  omega
/-- What the steps of an addition are bounded by. -/
theorem add_sum_lt {a b : Rat} {K L x y : Nat} (ha : Sz K a) (hb : Sz L b) (hx : x ≤ a.den) (hy : y ≤ b.den) : (a.num * y + b.num * x).natAbs < Bw ^ (K + L + 1) := by
  have h1 : (a.num * y).natAbs < Bw ^ (K + L) := by
    rw [Int.natAbs_mul, Int.natAbs_natCast]
    exact mul_lt_pow ha.1 (Nat.lt_of_le_of_lt hy hb.2)
  have h2 : (b.num * x).natAbs < Bw ^ (K + L) := by
    rw [Int.natAbs_mul, Int.natAbs_natCast, Nat.add_comm K]
    exact mul_lt_pow hb.1 (Nat.lt_of_le_of_lt hx ha.2)
  exact Nat.lt_of_lt_of_le (natAbs_add_lt h1 h2) two_pow_lt
theorem natAbs_div_le (s : Int) (t : Nat) : (s / (t : Int)).natAbs ≤ s.natAbs := by
  rcases Nat.eq_zero_or_pos t with h | h
  · subst h; simp
  · rcases Int.le_total 0 s with h1 | h1
    · have := Int.ediv_le_self (t : Int) h1
      have h2 := Int.ediv_nonneg h1 (b := (t : Int)) (by omega)
      omega
    · have h2 : s / (t : Int) ≤ 0 := Int.ediv_nonpos_of_nonpos_of_neg h1 (by omega)
      have h3 : s ≤ s / (t : Int) := by
        rw [Int.le_ediv_iff_mul_le (by omega)]
        have := Int.mul_le_mul_of_nonpos_left (a := s) (b := (t : Int)) (c := 1) h1 (by omega)
        omega
      omega
theorem Sz.add {K L : Nat} {a b : Rat} (ha : Sz K a) (hb : Sz L b) : Sz (K + L + 1) (a + b) := by
  have h := rat_add_of a b (g := Nat.gcd a.den b.den) rfl rfl rfl rfl rfl
  refine ⟨?_, ?_⟩
  · rw [h.1]
    exact Nat.lt_of_le_of_lt (natAbs_div_le _ _) (add_sum_lt ha hb (Nat.div_le_self _ _) (Nat.div_le_self _ _))
  · rw [h.2]
    refine Nat.lt_of_lt_of_le (mul_lt_pow (K := K) (L := L) (Nat.lt_of_le_of_lt (Nat.div_le_self _ _) ha.2) (Nat.lt_of_le_of_lt (Nat.div_le_self _ _) hb.2)) (bw_mono (by omega))
theorem Sz.mul {K L : Nat} {a b : Rat} (ha : Sz K a) (hb : Sz L b) : Sz (K + L) (a * b) := by
  have h := rat_mul_of a b rfl rfl
  refine ⟨?_, ?_⟩
  · rw [h.1, Int.natAbs_mul]
    exact mul_lt_pow (Nat.lt_of_le_of_lt (natAbs_div_le _ _) ha.1) (Nat.lt_of_le_of_lt (natAbs_div_le _ _) hb.1)
  · rw [h.2]
    exact mul_lt_pow (Nat.lt_of_le_of_lt (Nat.div_le_self _ _) ha.2) (Nat.lt_of_le_of_lt (Nat.div_le_self _ _) hb.2)
theorem Sz.inv {K : Nat} {a : Rat} (ha : Sz K a) (h0 : a ≠ 0) : Sz K a⁻¹ := by
  have h := rat_inv a h0
  refine ⟨?_, by rw [h.2]; exact ha.1⟩
  rw [h.1]
  have : (if a.num < 0 then -(a.den : Int) else (a.den : Int)).natAbs = a.den := by split <;> simp
  rw [this]; exact ha.2
theorem Sz.int {K : Nat} {n : Int} (h : n.natAbs < Bw ^ K) (hK : 0 < K) : Sz K (n : Rat) := by
  unfold Sz
  rw [Rat.num_intCast, Rat.den_intCast]
  exact ⟨h, Nat.one_lt_pow (by omega) (by decide)⟩
end Go.Big
namespace Go.Big
open Go Go.RowKit
/-- In the range of int64. -/
def IsS (n : Int) : Prop := -9223372036854775808 ≤ n ∧ n ≤ 9223372036854775807
def ptrInt (a : Nat) : Value := .agg #[.int .i64 0, .pointer (some ⟨a, 0, none⟩)]
def smInt (n : Int) : Value := .agg #[.int .i64 n, .pointer none]
/-- A long number lies in block a. -/
def LongV (w : World) (a : Nat) (n : Int) : Prop :=
  ∃ (ng : Bool) (sz : Value) (m : Nat), w.cell? ⟨a, 0, none⟩ = some (.bool ng) ∧ w.cell? ⟨a, 1, none⟩ = some sz ∧ NatV w .u64 B64 sz m ∧ n = signed ng m ∧ ¬ IsS n
/-- The value v is the Int n. -/
def IntV (w : World) (v : Value) (n : Int) : Prop := (IsS n ∧ v = smInt n) ∨ ∃ a, v = ptrInt a ∧ LongV w a n
theorem LongV.below {w w' : World} {a : Nat} {n : Int} (h : LongV w a n) (hb : Below w.heap.size w w') : LongV w' a n := by
  obtain ⟨ng, sz, m, h1, h2, h3, h4, h5⟩ := h
  have hlt := World.block_lt_of_cell? w _ h1
  exact ⟨ng, sz, m, (hb.cell (p := ⟨a, 0, none⟩) hlt).trans h1, (hb.cell (p := ⟨a, 1, none⟩) hlt).trans h2, h3.below hb, h4, h5⟩
theorem IntV.below {w w' : World} {v : Value} {n : Int} (h : IntV w v n) (hb : Below w.heap.size w w') : IntV w' v n := by
  rcases h with h | ⟨a, e, h⟩
  · exact .inl h
  · exact .inr ⟨a, e, h.below hb⟩
theorem signed_natAbs (ng : Bool) (m : Nat) : (signed ng m).natAbs = m := by unfold signed; split <;> omega
theorem signed_neg {ng : Bool} {m : Nat} (h : ¬ IsS (signed ng m)) : ng = decide (signed ng m < 0) := by
  unfold IsS signed at *
  cases ng
  · simp
  · simp at h ⊢; omega
/-- The box that a parameter is laid in. -/
theorem box_facts {w w0 : World} {cs : Array Value} {t : TypeId} (h : w.alloc (.cells cs t) = w0) :
    Below w.heap.size w w0 ∧ w0.heap[w.heap.size]? = some (.cells cs t (0, 0)) ∧ w0.heap.size = w.heap.size + 1 := by
  subst h
  exact ⟨(Below.refl _ _).alloc (Nat.le_refl _) _, heap_alloc_new w _, by simp⟩
theorem cell_rowB {w : World} {g : Nat} {cs : Array Value} {t : TypeId} (h : w.heap[g]? = some (.cells cs t (0, 0))) (i : Nat) : w.cell? ⟨g, i, none⟩ = cs[i]? := by
  simp [World.cell?, h]
end Go.Big
namespace Go.Proofs.YtekghemhccfhkaaGreatDoor
open Go.RowKit Go.Big
theorem below_box (w : World) (cs : Array Value) (t : TypeId) : Below w.heap.size w (w.alloc (.cells cs t)) := (Below.refl _ _).alloc (Nat.le_refl _) _
theorem wrap_abs_neg {n : Int} (h1 : -9223372036854775808 ≤ n) (h2 : n < 0) : IntKind.u64.wrap (-IntKind.u64.wrap n) = (n.natAbs : Int) := by
  rw [IntKind.wrap_u64, IntKind.wrap_u64]; omega
set_option maxRecDepth 100000 in
set_option maxHeartbeats 1000000 in
theorem word_small {n : Int} (hs : IsS n) (w : World) : Calls Tryz.prog 131 #[.agg #[.int .i64 n, .pointer none]] w fun e w' => e = .returned (.int .u64 (n.natAbs : Int)) ∧ Below w.heap.size w w' := by
  unfold IsS at hs
  obtain ⟨h1, h2⟩ := hs
  by_cases hn : n < 0
  · go_enter Tryz.func131, Tryz.ntmps131
    go_wp2_with fail
    go_ret
    exact ⟨by rw [← wrap_abs_neg h1 hn]; rfl, below_box _ _ _⟩
  · go_enter Tryz.func131, Tryz.ntmps131
    go_wp2_with fail
    go_ret
    exact ⟨by rw [show ((n.natAbs : Nat) : Int) = n by omega]; rfl, below_box _ _ _⟩
set_option maxRecDepth 100000 in
set_option maxHeartbeats 1000000 in
theorem natural_small {n : Int} (hs : IsS n) (w : World) : Calls Tryz.prog 114 #[.agg #[.int .i64 n, .pointer none]] w (RetNat w n.natAbs) := by
  have hb := below_box w #[.int .i64 n, .pointer none] 63
  have hlt : n.natAbs < B64 := by
    show n.natAbs < 18446744073709551616
    unfold IsS at hs; omega
  have HB := Lib.hid hb
  have HS := Lib.hid hs
  clear hb hs
  go_enter Tryz.func114, Tryz.ntmps114
  go_wp2_with fail
  refine (word_small HS.out _).mono ?_
  rintro e w1 ⟨rfl, hb1⟩
  have HB1 := Lib.hid (below_trans HB.out hb1)
  clear hb1
  go_wp2_with fail
  refine (fromWord_any n.natAbs hlt _).mono ?_
  rintro e w2 ⟨v, rfl, hv, hb2⟩
  have HB2 := Lib.hid (below_trans HB1.out hb2)
  have HV := Lib.hid hv
  clear hv hb2
  go_wp2_with fail
  go_ret
  exact ⟨v, rfl, HV.out, HB2.out⟩
set_option maxRecDepth 100000 in
set_option maxHeartbeats 1000000 in
theorem natural_long {a : Nat} {n : Int} {w : World} (h : LongV w a n) : Calls Tryz.prog 114 #[.agg #[.int .i64 0, .pointer (some ⟨a, 0, none⟩)]] w (RetNat w n.natAbs) := by
  obtain ⟨ng, sz, m, h1, h2, h3, rfl, h5⟩ := h
  rw [signed_natAbs]
  have hlt := World.block_lt_of_cell? w _ h1
  obtain ⟨w0, hw0⟩ : ∃ w0, w.alloc (.cells #[.int .i64 0, .pointer (some ⟨a, 0, none⟩)] 63) = w0 := ⟨_, rfl⟩
  obtain ⟨hb, hrow, hsz⟩ := box_facts hw0
  have k1 : w0.cell? ⟨a, 1, none⟩ = some sz := (hb.cell (p := ⟨a, 1, none⟩) hlt).trans h2
  have c0 := cell_rowB hrow 0
  have c1 := cell_rowB hrow 1
  have HF := Lib.hid (show RetNat w m (.returned sz) w0 from ⟨sz, rfl, h3.below hb, hb⟩)
  clear h1 h2 h3 h5 hb hrow hsz hlt
  go_enter Tryz.func114, Tryz.ntmps114
  go_wp2_with fail
  go_ret
  exact HF.out
theorem natural_any {v : Value} {n : Int} {w : World} (h : IntV w v n) : Calls Tryz.prog 114 #[v] w (RetNat w n.natAbs) := by
  rcases h with ⟨hs, rfl⟩ | ⟨a, rfl, h⟩
  · exact natural_small hs w
  · exact natural_long h
def RetBool (w : World) (b : Bool) (e : Ending) (w' : World) : Prop := e = .returned (.bool b) ∧ Below w.heap.size w w'
set_option maxRecDepth 100000 in
set_option maxHeartbeats 1000000 in
theorem negative_small (n : Int) (w : World) : Calls Tryz.prog 112 #[.agg #[.int .i64 n, .pointer none]] w (RetBool w (decide (n < 0))) := by
  obtain ⟨b, hb⟩ : ∃ b, decide (n < 0) = b := ⟨_, rfl⟩
  go_enter Tryz.func112, Tryz.ntmps112
  go_wp2_with fail
  go_ret
  refine ⟨?_, below_box _ _ _⟩
  rw [← hb]; simp [hb]
set_option maxRecDepth 100000 in
set_option maxHeartbeats 1000000 in
theorem negative_long {a : Nat} {n : Int} {w : World} (h : LongV w a n) : Calls Tryz.prog 112 #[.agg #[.int .i64 0, .pointer (some ⟨a, 0, none⟩)]] w (RetBool w (decide (n < 0))) := by
  obtain ⟨ng, sz, m, h1, h2, h3, rfl, h5⟩ := h
  rw [← signed_neg h5]
  have hlt := World.block_lt_of_cell? w _ h1
  obtain ⟨w0, hw0⟩ : ∃ w0, w.alloc (.cells #[.int .i64 0, .pointer (some ⟨a, 0, none⟩)] 63) = w0 := ⟨_, rfl⟩
  obtain ⟨hb, hrow, hsz⟩ := box_facts hw0
  have k1 : w0.cell? ⟨a, 0, none⟩ = some (.bool ng) := (hb.cell (p := ⟨a, 0, none⟩) hlt).trans h1
  have c0 := cell_rowB hrow 0
  have c1 := cell_rowB hrow 1
  have HF := Lib.hid hb
  clear h1 h2 h3 h5 hb hrow hsz hlt
  go_enter Tryz.func112, Tryz.ntmps112
  go_wp2_with fail
  go_ret
  exact ⟨rfl, HF.out⟩
theorem negative_any {v : Value} {n : Int} {w : World} (h : IntV w v n) : Calls Tryz.prog 112 #[v] w (RetBool w (decide (n < 0))) := by
  rcases h with ⟨hs, rfl⟩ | ⟨a, rfl, h⟩
  · exact negative_small n w
  · exact negative_long h
end Go.Proofs.YtekghemhccfhkaaGreatDoor
namespace Go.Big
open Go Go.RowKit
/-- A slice of the call's own that reads l; spare words behind it. -/
def OwnL (B : Nat) (w : World) (t : TypeId) (v : Value) (l : List Nat) : Prop :=
  ∃ ao cap, v = .slice ao l.length cap ∧ l.length ≤ cap ∧ l.length ≤ 1099511627776 ∧ (l = [] ∨ ∃ g post, ao = some ⟨g, 0, none⟩ ∧ B ≤ g ∧ isRow w g t .u64 (l ++ post))
theorem OwnL.sl {B : Nat} {w : World} {t : TypeId} {v : Value} {l : List Nat} (h : OwnL B w t v l) : ∃ ao cap, v = .slice ao l.length cap ∧ SlA w .u64 ao cap l := by
  obtain ⟨ao, cap, e, h1, h2, h3⟩ := h
  refine ⟨ao, cap, e, ?_⟩
  rcases h3 with rfl | ⟨g, post, rfl, _, hr⟩
  · exact SlA.nil _ _ _ _
  · exact isRow.seg (pre := []) (seg := l) (post := post) (by simpa using hr) h1 h2
end Go.Big
namespace Go.Proofs.YtekghemhccfhkaaGreatDoor
open Go.RowKit Go.Big
def ClonePost (w : World) (l : List Nat) (e : Ending) (w' : World) : Prop := ∃ v, e = .returned v ∧ OwnL w.heap.size w' 71 v l ∧ Below w.heap.size w w'
set_option maxRecDepth 100000 in
set_option maxHeartbeats 1000000 in
theorem clone_nil (cap : Nat) (w : World) : Calls Tryz.prog 171 #[.slice none 0 cap] w (ClonePost w []) := by
  have q22 : ∀ (w : World) (a : Option Addr) (n c n' c' : Nat), (binOp .eql 108 (.slice a n c) (.slice none n' c')).run Tryz.prog w = .ok (.bool a.isNone) w := fun w a n c n' c' => Lib.run_eql_slice_nil w _ _ a n c n' c' Tryz.underlying108
  go_enter Tryz.func171, Tryz.ntmps171
  go_wp2_with fail
  go_ret
  exact ⟨.slice none 0 0, rfl, ⟨none, 0, rfl, Nat.le_refl _, by simp, .inl rfl⟩, Below.refl _ _⟩
theorem run_append_fresh {W : World} {ao : Option Addr} {cap g : Nat} {l : List Nat} {ty : TypeId} (sa : SlA W .u64 ao cap l) (h0 : 0 < l.length) :
    ∃ c, l.length ≤ c ∧ (Builtin.append_ #[108, 108] ty #[.slice (some ⟨g, 0, none⟩) 0 0, .slice ao l.length cap]).run Tryz.prog W =
      .ok (.slice (some ⟨W.heap.size, 0, none⟩) l.length c) (W.drew.alloc (.cells (cellsOf .u64 (l ++ zeros (c - l.length))) 71)) := by
  have hq : (Tryz.prog.info? 71).map (fun i => (i.zero, i.size, i.bytes)) = some (some (.int .u64 0), 1, 8) := by kernel_rfl
  obtain ⟨i, hi, hz⟩ := Option.map_eq_some_iff.1 hq
  simp only [Prod.mk.injEq] at hz
  obtain ⟨hz, hs, hb⟩ := hz
  obtain ⟨b, off, rfl, _, hc⟩ := sa.at h0
  have hmax := sa.max
  have hnx : Builtin.nextslicecap (0 + l.length) 0 ≤ 2 * (0 + l.length) + 1024 := nextcap_le _ _ (by omega)
  have hr := run_append_grow (P := Tryz.prog) W 108 ty 71 i (.int .u64 0) Tryz.underlying108 hi hz ⟨g, 0, none⟩ 0 0 [] (by simp) (by intro j v hj; simp at hj) ⟨b, off, none⟩ l.length cap (l.map fun (n : Nat) => Value.int .u64 (Int.ofNat n)) (by rw [List.length_map, hs, Nat.mul_one])
    (fun j v hj => by
      have hjl : j < l.length := by
        rcases Nat.lt_or_ge j l.length with h | h
        · exact h
        · simp [List.getElem?_eq_none h] at hj
      have e : (⟨b, off, none⟩ : Addr).add j = ⟨b, off + j, none⟩ := by unfold Addr.add; split <;> simp_all
      rw [e, hc j hjl]
      simp [hjl] at hj
      rw [← hj, nth_lt hjl]) (by omega) (by omega) (by rw [hb]; omega)
  simp only [Nat.zero_add] at hr
  refine ⟨grownCap W l.length 0 71, grownCap_ge W l.length 0 71, ?_⟩
  have e1 : ([] : List Value).toArray ++ (l.map fun (n : Nat) => Value.int .u64 (Int.ofNat n)).toArray = cellsOf .u64 l := by simp [cellsOf]
  rw [hr, e1, zeroCells_eq, cells_append]
set_option maxRecDepth 100000 in
set_option maxHeartbeats 1000000 in
theorem clone_zero (a : Addr) (cap : Nat) (w : World) : Calls Tryz.prog 171 #[.slice (some a) 0 cap] w (ClonePost w []) := by
  have q22 : ∀ (w : World) (a : Option Addr) (n c n' c' : Nat), (binOp .eql 108 (.slice a n c) (.slice none n' c')).run Tryz.prog w = .ok (.bool a.isNone) w := fun w a n c n' c' => Lib.run_eql_slice_nil w _ _ a n c n' c' Tryz.underlying108
  go_enter Tryz.func171, Tryz.ntmps171
  go_wp2
  go_ret
  exact ⟨_, rfl, ⟨_, _, rfl, Nat.le_refl _, by simp, .inl rfl⟩, below_box _ _ _⟩
set_option maxRecDepth 100000 in
set_option maxHeartbeats 1000000 in
theorem clone_some {ao : Option Addr} {n cap : Nat} {l : List Nat} {w : World} (sa : SlA w .u64 ao cap l) (hn : l.length = n) (h0 : 0 < n) : Calls Tryz.prog 171 #[.slice ao n cap] w (ClonePost w l) := by
  have q22 : ∀ (w : World) (a : Option Addr) (n c n' c' : Nat), (binOp .eql 108 (.slice a n c) (.slice none n' c')).run Tryz.prog w = .ok (.bool a.isNone) w := fun w a n c n' c' => Lib.run_eql_slice_nil w _ _ a n c n' c' Tryz.underlying108
  subst hn
  obtain ⟨b, off, e, _, _⟩ := sa.at h0
  subst e
  have hb0 := below_box w #[] 71
  obtain ⟨c, hc, hap⟩ := run_append_fresh (g := w.heap.size) (ty := 108) (sa.below hb0) h0
  have hr : isRow ((w.alloc (.cells #[] 71)).drew.alloc (.cells (cellsOf .u64 (l ++ zeros (c - l.length))) 71)) (w.alloc (.cells #[] 71)).heap.size 71 .u64 (l ++ zeros (c - l.length)) := isRow_alloc (w.alloc (.cells #[] 71)).drew 71 .u64 _
  have hb : Below w.heap.size w ((w.alloc (.cells #[] 71)).drew.alloc (.cells (cellsOf .u64 (l ++ zeros (c - l.length))) 71)) := ((below_box w #[] 71).drew).alloc (by simp) _
  have hsz : w.heap.size ≤ (w.alloc (.cells #[] 71)).heap.size := by simp
  generalize (w.alloc (.cells #[] 71)).drew.alloc (.cells (cellsOf .u64 (l ++ zeros (c - l.length))) 71) = W at *
  have HAP := Lib.hid hap
  have hz1 : (w.alloc (.cells #[] 71)).heap.size = w.heap.size + 1 := by simp
  rw [hz1] at hr hsz
  have HR := Lib.hid (And.intro hr (And.intro hb (And.intro hsz hc)))
  have hmax := sa.max
  clear hap hr hb hb0 hsz sa hc hz1
  go_enter Tryz.func171, Tryz.ntmps171
  go_wp2_with (at_builtin; refine wpList_append_run rfl (.tmp 5) (.tmp 6) 108 108 rfl _ _ rfl rfl _ _ HAP.out ?_)
  go_ret
  exact ⟨_, rfl, ⟨_, c, rfl, HR.out.2.2.2, hmax, .inr ⟨_, _, rfl, HR.out.2.2.1, HR.out.1⟩⟩, HR.out.2.1⟩
/-- slices.Clone of words -/
theorem clone_any {ao : Option Addr} {n cap : Nat} {l : List Nat} {w : World} (sa : SlA w .u64 ao cap l) (hn : l.length = n) : Calls Tryz.prog 171 #[.slice ao n cap] w (ClonePost w l) := by
  rcases Nat.eq_zero_or_pos n with h | h
  · have : l = [] := List.eq_nil_of_length_eq_zero (by omega)
    subst this h
    cases ao with
    | none => exact clone_nil cap w
    | some a => exact clone_zero a cap w
  · exact clone_some sa hn h
end Go.Proofs.YtekghemhccfhkaaGreatDoor
