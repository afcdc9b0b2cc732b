/-
  Walks of the program's functions: Val, RMath, RSize.
-/
namespace Go.Big

/-- The value of words in base `B`, least significant first. -/
def val (B : Nat) : List Nat → Nat
  | [] => 0
  | x :: l => x + B * val B l

/-- All words are below the base. -/
def Wd (B : Nat) (l : List Nat) : Prop := ∀ x ∈ l, x < B

/-- No leading zero word. -/
def Nz (l : List Nat) : Prop := l.getLast? ≠ some 0

theorem val_cons (B x : Nat) (l : List Nat) : val B (x :: l) = x + B * val B l := rfl

theorem val_append (B : Nat) (a b : List Nat) : val B (a ++ b) = val B a + B ^ a.length * val B b := by
  induction a with
  | nil => simp [val]
  | cons x a ih => simp only [List.cons_append, val, ih, List.length_cons]; grind

theorem val_lt {B : Nat} {l : List Nat} (h : Wd B l) : val B l < B ^ l.length := by
  induction l with
  | nil => simp [val]
  | cons x l ih =>
    have hx := h x (by simp)
    have hl := ih (fun y hy => h y (by simp [hy]))
    simp only [val, List.length_cons, Nat.pow_succ]
    have : B * (val B l + 1) ≤ B * B ^ l.length := Nat.mul_le_mul_left _ hl
    rw [Nat.mul_comm (B ^ l.length)]
    rw [Nat.mul_add, Nat.mul_one] at this
    omega

theorem take_drop_val (B : Nat) (l : List Nat) (k : Nat) (h : k ≤ l.length) : val B l = val B (l.take k) + B ^ k * val B (l.drop k) := by
  conv => lhs; rw [← List.take_append_drop k l]
  rw [val_append, List.length_take, Nat.min_eq_left h]

theorem take_succ_val (B : Nat) (l : List Nat) (i : Nat) (h : i < l.length) : val B (l.take (i + 1)) = val B (l.take i) + B ^ i * l[i] := by
  rw [List.take_succ_eq_append_getElem h, val_append]
  simp [val, List.length_take, Nat.min_eq_left (Nat.le_of_lt h)]

theorem set_take_val (B : Nat) (l : List Nat) (i x : Nat) (h : i < l.length) : val B ((l.set i x).take (i + 1)) = val B (l.take i) + B ^ i * x := by
  rw [take_succ_val B _ i (by simpa using h), List.take_set_of_le (Nat.le_refl i)]
  simp

theorem drop_val (B : Nat) (l : List Nat) (i : Nat) (h : i < l.length) : val B (l.drop i) = l[i] + B * val B (l.drop (i + 1)) := by
  rw [List.drop_eq_getElem_cons h]; rfl

theorem Wd.set {B : Nat} {l : List Nat} (h : Wd B l) {i x : Nat} (hx : x < B) : Wd B (l.set i x) := by
  intro y hy
  rcases List.mem_or_eq_of_mem_set hy with h1 | h1
  · exact h y h1
  · exact h1 ▸ hx

theorem Wd.take {B : Nat} {l : List Nat} (h : Wd B l) (i : Nat) : Wd B (l.take i) := fun y hy => h y (List.mem_of_mem_take hy)
theorem Wd.drop {B : Nat} {l : List Nat} (h : Wd B l) (i : Nat) : Wd B (l.drop i) := fun y hy => h y (List.mem_of_mem_drop hy)
theorem Wd.append {B : Nat} {a b : List Nat} (h : Wd B a) (k : Wd B b) : Wd B (a ++ b) := by
  intro y hy
  rcases List.mem_append.1 hy with h1 | h1
  · exact h y h1
  · exact k y h1
theorem Wd.get {B : Nat} {l : List Nat} (h : Wd B l) {i : Nat} (hi : i < l.length) : l[i] < B := h _ (List.getElem_mem hi)
theorem Wd.replicate {B n : Nat} (hB : 0 < B) : Wd B (List.replicate n 0) := by
  intro y hy; rw [List.eq_of_mem_replicate hy]; exact hB
theorem val_replicate (B n : Nat) : val B (List.replicate n 0) = 0 := by
  induction n with
  | zero => rfl
  | succ n ih => rw [List.replicate_succ, val_cons, ih]; simp

/-- A number without a leading zero is at least the power of its last place. -/
theorem val_ge {B : Nat} {l : List Nat} (hn : Nz l) (hl : l ≠ []) : B ^ (l.length - 1) ≤ val B l := by
  have h := take_drop_val B l (l.length - 1) (by omega)
  have hlen : 0 < l.length := List.length_pos_iff.2 hl
  rw [drop_val B l (l.length - 1) (by omega)] at h
  have hz : l[l.length - 1] ≠ 0 := by
    intro h0
    apply hn
    rw [List.getLast?_eq_getElem?, List.getElem?_eq_getElem (by omega), h0]
  have : B ^ (l.length - 1) * 1 ≤ B ^ (l.length - 1) * (l[l.length - 1] + B * val B (List.drop (l.length - 1 + 1) l)) :=
    Nat.mul_le_mul_left _ (by omega)
  omega

theorem Nz_nil : Nz [] := by simp [Nz]

/-- The order of numbers without leading zeros, by their lengths. -/
theorem val_lt_of_len {B : Nat} (hB : 1 < B) {a b : List Nat} (ha : Wd B a) (hb : Nz b) (h : a.length < b.length) : val B a < val B b := by
  have h1 := val_lt ha
  have h2 := val_ge (B := B) hb (by intro h0; simp [h0] at h)
  have h3 : B ^ a.length ≤ B ^ (b.length - 1) := Nat.pow_le_pow_right (by omega) (by omega)
  omega

/-- Comparing from the top: the words behind i agree, and those at i decide. -/
theorem val_cmp {B : Nat} {a b : List Nat} (ha : Wd B a) (hl : a.length = b.length) {i : Nat} (hi : i < a.length)
    (hd : a.drop (i + 1) = b.drop (i + 1)) (hlt : a[i] < b[i]'(hl ▸ hi)) : val B a < val B b := by
  have hib : i < b.length := hl ▸ hi
  rw [take_drop_val B a i (by omega), take_drop_val B b i (by omega), drop_val B a i hi, drop_val B b i hib, hd]
  have h1 := val_lt (ha.take i)
  rw [List.length_take, Nat.min_eq_left (by omega)] at h1
  have h2 : B ^ i * (a[i] + 1 + B * val B (List.drop (i + 1) b)) ≤ B ^ i * (b[i] + B * val B (List.drop (i + 1) b)) := Nat.mul_le_mul_left _ (by omega)
  have h3 : B ^ i * (a[i] + 1 + B * val B (List.drop (i + 1) b)) = B ^ i * (a[i] + B * val B (List.drop (i + 1) b)) + B ^ i := by grind
  omega

end Go.Big
namespace Go.Big
/-- A rational number from its parts. -/
theorem rat_of {q : Rat} {n : Int} {d : Nat} (hd : d ≠ 0) (hc : n.natAbs.Coprime d) (h : q.num * d = n * q.den) : q.num = n ∧ q.den = d := by
  have e : (⟨n, d, hd, hc⟩ : Rat) = q := by
    rw [Rat.mk_eq_divInt, ← Rat.num_divInt_den q]
    rw [Rat.divInt_eq_divInt_iff (by omega) (by have := q.den_nz; omega)]
    exact h.symm
  exact ⟨by rw [← e], by rw [← e]⟩
theorem rat_den_pos (q : Rat) : 0 < q.den := Nat.pos_of_ne_zero q.den_nz
theorem rat_add (a b : Rat) : (a + b).num * ((a.den * b.den : Nat) : Int) = (a.num * b.den + b.num * a.den) * (a + b).den := by
  have ha := a.den_nz
  have hb := b.den_nz
  have h : a + b = Rat.divInt (a.num * b.den + b.num * a.den) ((a.den : Int) * b.den) := by
    rw [← Rat.divInt_add_divInt _ _ (by omega) (by omega), Rat.num_divInt_den, Rat.num_divInt_den]
  have h2 : Rat.divInt (a + b).num (a + b).den = Rat.divInt (a.num * b.den + b.num * a.den) ((a.den : Int) * b.den) := by
    rw [Rat.num_divInt_den]; exact h
  rw [Rat.divInt_eq_divInt_iff (by have := (a + b).den_nz; omega) (by
    have := Int.mul_pos (a := (a.den : Int)) (b := (b.den : Int)) (by omega) (by omega); omega)] at h2
  rw [Int.natCast_mul]; exact h2
theorem rat_mul (a b : Rat) : (a * b).num * ((a.den * b.den : Nat) : Int) = (a.num * b.num) * (a * b).den := by
  have ha := a.den_nz
  have hb := b.den_nz
  have h : a * b = Rat.divInt (a.num * b.num) ((a.den : Int) * b.den) := by
    rw [← Rat.divInt_mul_divInt, Rat.num_divInt_den, Rat.num_divInt_den]
  have h2 : Rat.divInt (a * b).num (a * b).den = Rat.divInt (a.num * b.num) ((a.den : Int) * b.den) := by
    rw [Rat.num_divInt_den]; exact h
  rw [Rat.divInt_eq_divInt_iff (by have := (a * b).den_nz; omega) (by
    have := Int.mul_pos (a := (a.den : Int)) (b := (b.den : Int)) (by omega) (by omega); omega)] at h2
  rw [Int.natCast_mul]; exact h2
/-- num / den reduced. -/
theorem cop_div {a b : Nat} (h : 0 < b) : (a / Nat.gcd a b).Coprime (b / Nat.gcd a b) := by
  have hg : 0 < Nat.gcd a b := Nat.gcd_pos_of_pos_right _ h
  exact Nat.coprime_div_gcd_div_gcd hg
theorem natAbs_ediv {n : Int} {g : Nat} (h : (g : Int) ∣ n) : (n / (g : Int)).natAbs = n.natAbs / g := by
  obtain ⟨k, rfl⟩ := h
  rcases Nat.eq_zero_or_pos g with h0 | h0
  · subst h0; simp
  · rw [Int.mul_ediv_cancel_left _ (by omega), Int.natAbs_mul, Int.natAbs_natCast, Nat.mul_div_cancel_left _ h0]
theorem gcd_dvd_int {n : Int} {d : Nat} : ((Nat.gcd n.natAbs d : Nat) : Int) ∣ n := by
  have h := Nat.gcd_dvd_left n.natAbs d
  exact Int.ofNat_dvd_left.2 h
theorem rat_reduce {q : Rat} {n : Int} {d : Nat} (hd : 0 < d) (h : q.num * d = n * q.den) :
    q.num = n / (Nat.gcd n.natAbs d : Nat) ∧ q.den = d / Nat.gcd n.natAbs d := by
  have hg : 0 < Nat.gcd n.natAbs d := Nat.gcd_pos_of_pos_right _ hd
  obtain ⟨k, hk⟩ := gcd_dvd_int (n := n) (d := d)
  obtain ⟨l, hl⟩ := Nat.gcd_dvd_right n.natAbs d
  have hdv : 0 < d / Nat.gcd n.natAbs d := by
    have : d = Nat.gcd n.natAbs d * (d / Nat.gcd n.natAbs d) := (Nat.mul_div_cancel' (Nat.gcd_dvd_right _ _)).symm
    rcases Nat.eq_zero_or_pos (d / Nat.gcd n.natAbs d) with h0 | h0
    · rw [h0] at this; omega
    · exact h0
  refine rat_of (by omega) ?_ ?_
  · rw [natAbs_ediv gcd_dvd_int]; exact cop_div hd
  · generalize hgg : Nat.gcd n.natAbs d = g at *
    subst hl
    rw [Nat.mul_div_cancel_left _ hg, hk, Int.mul_ediv_cancel_left _ (by omega)]
    rw [hk, Int.natCast_mul] at h
    have h3 : (g : Int) * (q.num * l) = (g : Int) * (k * q.den) := by grind
    exact Int.eq_of_mul_eq_mul_left (by omega) h3
theorem cop_natAbs_add {u v : Int} {x : Nat} (hu : u.natAbs.Coprime x) (hv : (x : Int) ∣ v) : (u + v).natAbs.Coprime x := by
  unfold Nat.Coprime at *
  have h1 : Int.gcd (u + v) x = Int.gcd u x := by
    obtain ⟨k, rfl⟩ := hv
    rw [Int.gcd_comm, Int.gcd_comm u]
    exact Int.gcd_add_mul_left_right _ _ _
  unfold Int.gcd at h1
  rw [Int.natAbs_natCast] at h1
  rw [h1]; exact hu
/-- Addition that looks for common divisors in the denominators first. -/
theorem rat_add_of (a b : Rat) {g x y t : Nat} {s : Int} (hg : Nat.gcd a.den b.den = g) (hx : a.den / g = x) (hy : b.den / g = y) (hs : a.num * y + b.num * x = s) (ht : Nat.gcd s.natAbs g = t) :
    (a + b).num = s / t ∧ (a + b).den = x * (b.den / t) := by
  have hg0 : 0 < g := by rw [← hg]; exact Nat.gcd_pos_of_pos_left _ (rat_den_pos a)
  have hcxy : Nat.Coprime x y := by rw [← hx, ← hy, ← hg]; exact cop_div (rat_den_pos b)
  have ea : a.den = g * x := by rw [← hx, ← hg]; exact (Nat.mul_div_cancel' (Nat.gcd_dvd_left _ _)).symm
  have eb : b.den = g * y := by rw [← hy, ← hg]; exact (Nat.mul_div_cancel' (Nat.gcd_dvd_right _ _)).symm
  have hca : a.num.natAbs.Coprime (g * x) := by rw [← ea]; exact a.reduced
  have hcb : b.num.natAbs.Coprime (g * y) := by rw [← eb]; exact b.reduced
  have hx0 : 0 < x := by
    rcases Nat.eq_zero_or_pos x with h | h
    · have := rat_den_pos a; rw [ea, h] at this; omega
    · exact h
  have hy0 : 0 < y := by
    rcases Nat.eq_zero_or_pos y with h | h
    · have := rat_den_pos b; rw [eb, h] at this; omega
    · exact h
  have c1 : s.natAbs.Coprime x := by
    rw [← hs]
    refine cop_natAbs_add ?_ (Int.dvd_mul_left _ _)
    rw [Int.natAbs_mul, Int.natAbs_natCast]
    exact Nat.Coprime.mul_left (hca.coprime_dvd_right (Nat.dvd_mul_left x g)) hcxy.symm
  have c2 : s.natAbs.Coprime y := by
    rw [← hs, Int.add_comm]
    refine cop_natAbs_add ?_ (Int.dvd_mul_left _ _)
    rw [Int.natAbs_mul, Int.natAbs_natCast]
    exact Nat.Coprime.mul_left (hcb.coprime_dvd_right (Nat.dvd_mul_left y g)) hcxy
  have ht0 : 0 < t := by rw [← ht]; exact Nat.gcd_pos_of_pos_right _ hg0
  have htg : t ∣ g := by rw [← ht]; exact Nat.gcd_dvd_right _ _
  have hts : (t : Int) ∣ s := by rw [← ht]; exact gcd_dvd_int
  obtain ⟨g', hg'⟩ := htg
  obtain ⟨s', hs'⟩ := hts
  have e1 : s / t = s' := by rw [hs', Int.mul_ediv_cancel_left _ (by omega)]
  have e2 : b.den / t = g' * y := by rw [eb, hg', Nat.mul_assoc, Nat.mul_div_cancel_left _ ht0]
  have e3 : s.natAbs / t = s'.natAbs := by rw [hs', Int.natAbs_mul, Int.natAbs_natCast, Nat.mul_div_cancel_left _ ht0]
  have e4 : g / t = g' := by rw [hg', Nat.mul_div_cancel_left _ ht0]
  have c3 : s'.natAbs.Coprime g' := by
    have := cop_div (a := s.natAbs) hg0
    rw [ht, e3, e4] at this; exact this
  have hd : s'.natAbs ∣ s.natAbs := by rw [hs', Int.natAbs_mul]; exact Nat.dvd_mul_left _ _
  have hg'0 : 0 < g' := by
    rcases Nat.eq_zero_or_pos g' with h | h
    · rw [h] at hg'; omega
    · exact h
  rw [e1, e2]
  refine rat_of ?_ ?_ ?_
  · have := Nat.mul_pos hx0 (Nat.mul_pos hg'0 hy0); omega
  · exact Nat.Coprime.mul_right (c1.coprime_dvd_left hd) (Nat.Coprime.mul_right c3 (c2.coprime_dvd_left hd))
  · have h1 := rat_add a b
    have h2 : a.num * (b.den : Int) + b.num * a.den = g * s := by
      rw [ea, eb, ← hs]; push_cast; grind
    rw [h2, ea, eb] at h1
    have h3 : ((g : Int) * t) * ((a + b).num * ((x * (g' * y) : Nat) : Int)) = ((g : Int) * t) * (s' * (a + b).den) := by
      have h4 : ((g * x * (g * y) : Nat) : Int) = (g : Int) * t * ((x * (g' * y) : Nat) : Int) := by
        conv => lhs; rw [show g * x * (g * y) = g * (x * (g * y)) by grind]
        rw [show g * (x * (g * y)) = g * t * (x * (g' * y)) by conv => lhs; rw [show g * (x * (g * y)) = g * (x * (t * g' * y)) by rw [← hg']]
                                                               grind]
        push_cast; grind
      rw [h4] at h1
      have h5 : (a + b).num * ((g : Int) * t * ((x * (g' * y) : Nat) : Int)) = g * (t * s') * (a + b).den := by rw [h1, ← hs']
      grind
    exact Int.eq_of_mul_eq_mul_left (by have := Int.mul_pos (a := (g : Int)) (b := t) (by omega) (by omega); omega) h3
/-- Multiplication that cancels first. -/
theorem rat_mul_of (a b : Rat) {l r : Nat} (hl : Nat.gcd a.num.natAbs b.den = l) (hr : Nat.gcd b.num.natAbs a.den = r) :
    (a * b).num = (a.num / l) * (b.num / r) ∧ (a * b).den = (a.den / r) * (b.den / l) := by
  have da := rat_den_pos a
  have db := rat_den_pos b
  have hl0 : 0 < l := by rw [← hl]; exact Nat.gcd_pos_of_pos_right _ db
  have hr0 : 0 < r := by rw [← hr]; exact Nat.gcd_pos_of_pos_right _ da
  have dl : (l : Int) ∣ a.num := by rw [← hl]; exact gcd_dvd_int
  have dr : (r : Int) ∣ b.num := by rw [← hr]; exact gcd_dvd_int
  have dl2 : l ∣ b.den := by rw [← hl]; exact Nat.gcd_dvd_right _ _
  have dr2 : r ∣ a.den := by rw [← hr]; exact Nat.gcd_dvd_right _ _
  have n1 := natAbs_ediv dl
  have n2 := natAbs_ediv dr
  have k1 : a.num.natAbs / l ∣ a.num.natAbs := Nat.div_dvd_of_dvd (by rw [← hl]; exact Nat.gcd_dvd_left _ _)
  have k2 : b.num.natAbs / r ∣ b.num.natAbs := Nat.div_dvd_of_dvd (by rw [← hr]; exact Nat.gcd_dvd_left _ _)
  have k3 : a.den / r ∣ a.den := Nat.div_dvd_of_dvd dr2
  have k4 : b.den / l ∣ b.den := Nat.div_dvd_of_dvd dl2
  have c1 : (a.num.natAbs / l).Coprime (a.den / r) := (a.reduced.coprime_dvd_left k1).coprime_dvd_right k3
  have c2 : (a.num.natAbs / l).Coprime (b.den / l) := by have := cop_div (a := a.num.natAbs) db; rw [hl] at this; exact this
  have c3 : (b.num.natAbs / r).Coprime (a.den / r) := by have := cop_div (a := b.num.natAbs) da; rw [hr] at this; exact this
  have c4 : (b.num.natAbs / r).Coprime (b.den / l) := (b.reduced.coprime_dvd_left k2).coprime_dvd_right k4
  obtain ⟨u, hu⟩ := dl
  obtain ⟨v, hv⟩ := dr
  obtain ⟨p, hp⟩ := dl2
  obtain ⟨o, ho⟩ := dr2
  have e1 : a.num / l = u := by rw [hu, Int.mul_ediv_cancel_left _ (by omega)]
  have e2 : b.num / r = v := by rw [hv, Int.mul_ediv_cancel_left _ (by omega)]
  have e3 : b.den / l = p := by rw [hp, Nat.mul_div_cancel_left _ hl0]
  have e4 : a.den / r = o := by rw [ho, Nat.mul_div_cancel_left _ hr0]
  have hp0 : 0 < p := by
    rcases Nat.eq_zero_or_pos p with h | h
    · rw [h] at hp; omega
    · exact h
  have ho0 : 0 < o := by
    rcases Nat.eq_zero_or_pos o with h | h
    · rw [h] at ho; omega
    · exact h
  rw [← n1, e1, e4] at c1
  rw [← n1, e1, e3] at c2
  rw [← n2, e2, e4] at c3
  rw [← n2, e2, e3] at c4
  rw [e1, e2, e3, e4]
  refine rat_of ?_ ?_ ?_
  · have := Nat.mul_pos ho0 hp0; omega
  · rw [Int.natAbs_mul]
    exact Nat.Coprime.mul_left (Nat.Coprime.mul_right c1 c2) (Nat.Coprime.mul_right c3 c4)
  · have h1 := rat_mul a b
    have h3 : ((l : Int) * r) * ((a * b).num * ((o * p : Nat) : Int)) = ((l : Int) * r) * (u * v * (a * b).den) := by
      have h4 : ((a.den * b.den : Nat) : Int) = (l : Int) * r * ((o * p : Nat) : Int) := by rw [ho, hp]; push_cast; grind
      rw [h4] at h1
      have h5 : a.num * b.num = (l : Int) * r * (u * v) := by rw [hu, hv]; grind
      rw [h5] at h1
      grind
    exact Int.eq_of_mul_eq_mul_left (by have := Int.mul_pos (a := (l : Int)) (b := r) (by omega) (by omega); omega) h3
/-- The inverse. -/
theorem rat_inv (a : Rat) (h : a ≠ 0) : (a⁻¹).num = (if a.num < 0 then -(a.den : Int) else a.den) ∧ (a⁻¹).den = a.num.natAbs := by
  have hn : a.num ≠ 0 := fun e => h (Rat.num_eq_zero.1 e)
  have da := rat_den_pos a
  have e : a⁻¹ = Rat.divInt a.den a.num := by
    conv => lhs; rw [← Rat.num_divInt_den a]
    exact Rat.inv_divInt ..
  refine rat_of (by omega) ?_ ?_
  · have : (if a.num < 0 then -(a.den : Int) else (a.den : Int)).natAbs = a.den := by split <;> simp
    rw [this]; exact a.reduced.symm
  · have h2 : Rat.divInt (a⁻¹).num (a⁻¹).den = Rat.divInt a.den a.num := by rw [Rat.num_divInt_den]; exact e
    rw [Rat.divInt_eq_divInt_iff (by have := (a⁻¹).den_nz; omega) hn] at h2
    split
    · have : ((a.num.natAbs : Nat) : Int) = - a.num := by omega
      rw [this]; grind
    · have : ((a.num.natAbs : Nat) : Int) = a.num := by omega
      rw [this]; exact h2
end Go.Big
namespace Go.Big
abbrev Bw : Nat := 18446744073709551616
/-- Numerator and denominator have at most K words. -/
def Sz (K : Nat) (q : Rat) : Prop := q.num.natAbs < Bw ^ K ∧ q.den < Bw ^ K
theorem bw_mono {K L : Nat} (h : K ≤ L) : Bw ^ K ≤ Bw ^ L := Nat.pow_le_pow_right (by decide) h
theorem Sz.mono {K L : Nat} {q : Rat} (h : Sz K q) (hl : K ≤ L) : Sz L q := ⟨Nat.lt_of_lt_of_le h.1 (bw_mono hl), Nat.lt_of_lt_of_le h.2 (bw_mono hl)⟩
theorem Sz.neg {K : Nat} {q : Rat} (h : Sz K q) : Sz K (-q) := by
  unfold Sz at *
  rw [Rat.neg_num, Rat.neg_den, Int.natAbs_neg]; exact h
theorem natAbs_add_lt {u v : Int} {M N : Nat} (h1 : u.natAbs < M) (h2 : v.natAbs < N) : (u + v).natAbs < M + N := by omega
theorem mul_lt_pow {a b K L : Nat} (h1 : a < Bw ^ K) (h2 : b < Bw ^ L) : a * b < Bw ^ (K + L) := by
  rw [Nat.pow_add]
  exact Nat.mul_lt_mul'' h1 h2
theorem two_pow_lt {K : Nat} : Bw ^ K + Bw ^ K ≤ Bw ^ (K + 1) := by
  rw [Nat.pow_succ]
  have : Bw ^ K * 2 ≤ Bw ^ K * Bw := Nat.mul_le_mul_left _ (by decide)
  omega
/-- What the steps of an addition are bounded by. -/
theorem add_sum_lt {a b : Rat} {K L x y : Nat} (ha : Sz K a) (hb : Sz L b) (hx : x ≤ a.den) (hy : y ≤ b.den) : (a.num * y + b.num * x).natAbs < Bw ^ (K + L + 1) := by
  have h1 : (a.num * y).natAbs < Bw ^ (K + L) := by
    rw [Int.natAbs_mul, Int.natAbs_natCast]
    exact mul_lt_pow ha.1 (Nat.lt_of_le_of_lt hy hb.2)
  have h2 : (b.num * x).natAbs < Bw ^ (K + L) := by
    rw [Int.natAbs_mul, Int.natAbs_natCast, Nat.add_comm K]
    exact mul_lt_pow hb.1 (Nat.lt_of_le_of_lt hx ha.2)
  exact Nat.lt_of_lt_of_le (natAbs_add_lt h1 h2) two_pow_lt
theorem natAbs_div_le (s : Int) (t : Nat) : (s / (t : Int)).natAbs ≤ s.natAbs := by
  rcases Nat.eq_zero_or_pos t with h | h
  · subst h; simp
  · rcases Int.le_total 0 s with h1 | h1
    · have := Int.ediv_le_self (t : Int) h1
      have h2 := Int.ediv_nonneg h1 (b := (t : Int)) (by omega)
      omega
    · have h2 : s / (t : Int) ≤ 0 := Int.ediv_nonpos_of_nonpos_of_neg h1 (by omega)
      have h3 : s ≤ s / (t : Int) := by
        rw [Int.le_ediv_iff_mul_le (by omega)]
        have := Int.mul_le_mul_of_nonpos_left (a := s) (b := (t : Int)) (c := 1) h1 (by omega)
        omega
      omega
theorem Sz.add {K L : Nat} {a b : Rat} (ha : Sz K a) (hb : Sz L b) : Sz (K + L + 1) (a + b) := by
  have h := rat_add_of a b (g := Nat.gcd a.den b.den) rfl rfl rfl rfl rfl
  refine ⟨?_, ?_⟩
  · rw [h.1]
    exact Nat.lt_of_le_of_lt (natAbs_div_le _ _) (add_sum_lt ha hb (Nat.div_le_self _ _) (Nat.div_le_self _ _))
  · rw [h.2]
    refine Nat.lt_of_lt_of_le (mul_lt_pow (K := K) (L := L) (Nat.lt_of_le_of_lt (Nat.div_le_self _ _) ha.2) (Nat.lt_of_le_of_lt (Nat.div_le_self _ _) hb.2)) (bw_mono (by omega))
theorem Sz.mul {K L : Nat} {a b : Rat} (ha : Sz K a) (hb : Sz L b) : Sz (K + L) (a * b) := by
  have h := rat_mul_of a b rfl rfl
  refine ⟨?_, ?_⟩
  · rw [h.1, Int.natAbs_mul]
    exact mul_lt_pow (Nat.lt_of_le_of_lt (natAbs_div_le _ _) ha.1) (Nat.lt_of_le_of_lt (natAbs_div_le _ _) hb.1)
  · rw [h.2]
    exact mul_lt_pow (Nat.lt_of_le_of_lt (Nat.div_le_self _ _) ha.2) (Nat.lt_of_le_of_lt (Nat.div_le_self _ _) hb.2)
theorem Sz.inv {K : Nat} {a : Rat} (ha : Sz K a) (h0 : a ≠ 0) : Sz K a⁻¹ := by
  have h := rat_inv a h0
  refine ⟨?_, by rw [h.2]; exact ha.1⟩
  rw [h.1]
  have : (if a.num < 0 then -(a.den : Int) else (a.den : Int)).natAbs = a.den := by split <;> simp
  rw [this]; exact ha.2
theorem Sz.int {K : Nat} {n : Int} (h : n.natAbs < Bw ^ K) (hK : 0 < K) : Sz K (n : Rat) := by
  unfold Sz
  rw [Rat.num_intCast, Rat.den_intCast]
  exact ⟨h, Nat.one_lt_pow (by omega) (by decide)⟩
end Go.Big
