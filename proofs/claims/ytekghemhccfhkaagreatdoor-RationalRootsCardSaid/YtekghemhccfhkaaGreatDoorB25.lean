/-
  Walks of the program's functions: GcdQ, LawC2, LawRoots, LawGCD.
-/
import Derived.Test.YtekghemhccfhkaaGreatDoorB09
import Derived.Test.YtekghemhccfhkaaGreatDoorB24
namespace Go.Big
/-- G measures A and B: both are integer multiples, and the factors have no common divisor. -/
def Meas (A B G : Rat) : Prop := 0 < G ∧ ∃ m n : Int, A = m * G ∧ B = n * G ∧ Nat.gcd m.natAbs n.natAbs = 1
theorem rat_eq_of {p q : Rat} (h : p.num * q.den = q.num * p.den) : p = q := by
  have := rat_of (q := p) (n := q.num) (d := q.den) q.den_nz q.reduced h
  exact Rat.ext this.1 this.2
theorem dvd_one_of {s m n : Nat} (h1 : s ∣ m) (h2 : s ∣ n) (h : Nat.gcd m n = 1) : s = 1 := by
  have := Nat.dvd_gcd h1 h2
  rw [h] at this
  exact Nat.dvd_one.1 this
theorem mul_eq_parts {m n : Int} {t : Rat} (h : (m : Rat) = n * t) : m * t.den = n * t.num := by
  have h1 := rat_mul (n : Rat) t
  rw [← h, Rat.num_intCast, Rat.den_intCast, Rat.num_intCast, Rat.den_intCast, Nat.one_mul] at h1
  simpa using h1
theorem num_pos_of {t : Rat} (h : 0 < t) : 0 < t.num := by
  have h1 := Rat.num_nonneg.2 (Rat.le_of_lt h)
  have h2 : t.num ≠ 0 := fun e => by
    have := Rat.num_eq_zero.1 e
    rw [this] at h; exact absurd h (by decide)
  omega
theorem Meas.unique {A B G H : Rat} (h : Meas A B G) (k : Meas A B H) : G = H := by
  obtain ⟨hG, m, n, h1, h2, h3⟩ := h
  obtain ⟨hH, p, q, k1, k2, k3⟩ := k
  obtain ⟨t, ht⟩ : ∃ t, t = H * G⁻¹ := ⟨_, rfl⟩
  have hG0 : G ≠ 0 := by intro e; rw [e] at hG; exact absurd hG (by decide)
  have e1 : (m : Rat) = p * t := by rw [ht]; grind
  have e2 : (n : Rat) = q * t := by rw [ht]; grind
  have d1 := mul_eq_parts e1
  have d2 := mul_eq_parts e2
  have c1 : m.natAbs * t.den = p.natAbs * t.num.natAbs := by have := congrArg Int.natAbs d1; simpa [Int.natAbs_mul] using this
  have c2 : n.natAbs * t.den = q.natAbs * t.num.natAbs := by have := congrArg Int.natAbs d2; simpa [Int.natAbs_mul] using this
  have cop := t.reduced
  have hs : t.num.natAbs = 1 := by
    refine dvd_one_of (m := m.natAbs) (n := n.natAbs) ?_ ?_ h3
    · exact cop.dvd_of_dvd_mul_right ⟨p.natAbs, by rw [c1, Nat.mul_comm]⟩
    · exact cop.dvd_of_dvd_mul_right ⟨q.natAbs, by rw [c2, Nat.mul_comm]⟩
  have hd : t.den = 1 := by
    refine dvd_one_of (m := p.natAbs) (n := q.natAbs) ?_ ?_ k3
    · exact cop.symm.dvd_of_dvd_mul_right ⟨m.natAbs, by rw [← c1, Nat.mul_comm]⟩
    · exact cop.symm.dvd_of_dvd_mul_right ⟨n.natAbs, by rw [← c2, Nat.mul_comm]⟩
  have htp : 0 < t := by rw [ht]; exact Rat.mul_pos hH (Rat.inv_pos.2 hG)
  have htn : 0 < t.num := num_pos_of htp
  have ht1 : t = 1 := Rat.ext (by rw [show (1 : Rat).num = 1 from rfl]; omega) (by rw [hd]; rfl)
  have : H = t * G := by rw [ht]; grind
  rw [this, ht1]; grind
theorem Meas.add {A B G : Rat} (h : Meas A B G) (k : Int) : Meas B (A + B * k) G := by
  obtain ⟨hG, m, n, h1, h2, h3⟩ := h
  refine ⟨hG, n, m + n * k, h2, ?_, ?_⟩
  · rw [Rat.intCast_add, Rat.intCast_mul, h1, h2]; grind
  · rw [Nat.gcd_comm, ← h3]
    have : (Int.gcd (m + n * k) n) = Int.gcd m n := by simp
    exact this
theorem cop4 {p q x y : Nat} (h1 : Nat.Coprime p q) (h2 : Nat.Coprime x y) (h3 : Nat.Coprime p x) (h4 : Nat.Coprime q y) : Nat.Coprime (p * y) (q * x) := by
  refine Nat.Coprime.mul_left (Nat.Coprime.mul_right h1 h3) (Nat.Coprime.mul_right h4.symm h2.symm)
theorem eq_mul_of {A G : Rat} {m : Int} (h : A.num * G.den = m * G.num * A.den) : A = m * G := by
  refine rat_eq_of ?_
  have h1 := rat_mul (m : Rat) G
  rw [Rat.num_intCast, Rat.den_intCast, Nat.one_mul] at h1
  have hG := rat_den_pos G
  have h3 : (G.den : Int) * (A.num * (↑m * G).den) = (G.den : Int) * ((↑m * G).num * A.den) := by
    have : (↑m * G).num * (G.den : Int) * A.den = m * G.num * A.den * (↑m * G).den := by rw [h1]; grind
    grind
  exact Int.eq_of_mul_eq_mul_left (by omega) h3
theorem gcd_meas {A B G : Rat} (hn : G.num = (Nat.gcd A.num.natAbs B.num.natAbs : Nat)) (hd : G.den = A.den * (B.den / Nat.gcd A.den B.den)) (h0 : G ≠ 0) : Meas A B G := by
  obtain ⟨g, hg⟩ : ∃ g, Nat.gcd A.num.natAbs B.num.natAbs = g := ⟨_, rfl⟩
  obtain ⟨d, hdd⟩ : ∃ d, Nat.gcd A.den B.den = d := ⟨_, rfl⟩
  have hg0 : 0 < g := by
    rcases Nat.eq_zero_or_pos g with e | e
    · exact absurd (Rat.num_eq_zero.1 (by rw [hn, hg, e]; rfl)) h0
    · exact e
  have hd0 : 0 < d := by rw [← hdd]; exact Nat.gcd_pos_of_pos_left _ (rat_den_pos A)
  obtain ⟨x, hx⟩ : d ∣ A.den := by rw [← hdd]; exact Nat.gcd_dvd_left _ _
  obtain ⟨y, hy⟩ : d ∣ B.den := by rw [← hdd]; exact Nat.gcd_dvd_right _ _
  obtain ⟨p, hp⟩ : (g : Int) ∣ A.num := by rw [← hg]; exact Int.ofNat_dvd_left.2 (Nat.gcd_dvd_left _ _)
  obtain ⟨q, hq⟩ : (g : Int) ∣ B.num := by rw [← hg]; exact Int.ofNat_dvd_left.2 (Nat.gcd_dvd_right _ _)
  have hp' : A.num.natAbs = g * p.natAbs := by rw [hp, Int.natAbs_mul, Int.natAbs_natCast]
  have hq' : B.num.natAbs = g * q.natAbs := by rw [hq, Int.natAbs_mul, Int.natAbs_natCast]
  have c1 : Nat.Coprime p.natAbs q.natAbs := by
    rw [hp', hq', Nat.gcd_mul_left] at hg
    exact Nat.eq_of_mul_eq_mul_left hg0 (by omega)
  have c2 : Nat.Coprime x y := by
    rw [hx, hy, Nat.gcd_mul_left] at hdd
    exact Nat.eq_of_mul_eq_mul_left hd0 (by omega)
  have c3 : Nat.Coprime p.natAbs x := (A.reduced.coprime_dvd_left ⟨g, by rw [hp', Nat.mul_comm]⟩).coprime_dvd_right ⟨d, by rw [hx, Nat.mul_comm]⟩
  have c4 : Nat.Coprime q.natAbs y := (B.reduced.coprime_dvd_left ⟨g, by rw [hq', Nat.mul_comm]⟩).coprime_dvd_right ⟨d, by rw [hy, Nat.mul_comm]⟩
  have hG : G.den = d * x * y := by rw [hd, hdd, hx, hy, Nat.mul_div_cancel_left _ hd0]
  rw [hg] at hn
  refine ⟨?_, p * y, q * x, ?_, ?_, ?_⟩
  · rcases Rat.le_iff_lt_or_eq.1 (Rat.num_nonneg.1 (by rw [hn]; omega)) with h | h
    · exact h
    · exact absurd h.symm h0
  · refine eq_mul_of ?_
    rw [hG, hn, hp, hx]; simp only [Int.natCast_mul]; grind
  · refine eq_mul_of ?_
    rw [hG, hn, hq, hy]; simp only [Int.natCast_mul]; grind
  · rw [Int.natAbs_mul, Int.natAbs_mul, Int.natAbs_natCast, Int.natAbs_natCast]
    exact cop4 c1 c2 c3 c4
theorem int_of_mul_inv {A G : Rat} {m : Int} (h : A = m * G) (h0 : G ≠ 0) : A * G⁻¹ = (m : Rat) := by rw [h]; grind
theorem gcd_int_one {m n : Int} {G : Rat} (h : Nat.gcd m.natAbs n.natAbs = 1) (hn : G.num = (Nat.gcd (m : Rat).num.natAbs (n : Rat).num.natAbs : Nat)) (hd : G.den = (m : Rat).den * ((n : Rat).den / Nat.gcd (m : Rat).den (n : Rat).den)) : G = 1 := by
  rw [Rat.num_intCast, Rat.num_intCast, h] at hn
  rw [Rat.den_intCast, Rat.den_intCast] at hd
  exact Rat.ext hn hd
theorem gcd_zero {A B G : Rat} (hn : G.num = (Nat.gcd A.num.natAbs B.num.natAbs : Nat)) (h0 : G = 0) : A = 0 ∧ B = 0 := by
  rw [h0] at hn
  have h1 : Nat.gcd A.num.natAbs B.num.natAbs = 0 := by have := hn.symm; exact Int.natCast_eq_zero.1 this
  have h2 := Nat.gcd_eq_zero_iff.1 h1
  exact ⟨Rat.num_eq_zero.1 (by omega), Rat.num_eq_zero.1 (by omega)⟩
/-- Roots. -/
theorem root_abs {r a : Rat} (h0 : 0 ≤ r) (h : r * r = a * a) : r = a ∨ r = -a := by
  by_cases e : r = a
  · exact .inl e
  · right; grind
theorem floor_int {a : Rat} (h : (a.floor : Rat) = a) : a.den = 1 := by rw [← h, Rat.den_intCast]
theorem sq_succ {m n : Nat} (h : m * m = n * n + 1) : n = 0 := by
  rcases Nat.lt_or_ge n m with h1 | h1
  · have : (n + 1) * (n + 1) ≤ m * m := Nat.mul_le_mul h1 h1
    rw [h] at this
    have e : (n + 1) * (n + 1) = n * n + 2 * n + 1 := by grind
    omega
  · have := Nat.mul_le_mul h1 h1
    omega
end Go.Big
namespace Go.Big
open Go Go.RowKit
theorem rabs_of_root {r a : Rat} (h0 : 0 ≤ r) (h : r * r = a * a) : r = rabs a := by
  rcases root_abs h0 h with e | e
  · subst e
    have := Rat.num_nonneg.2 h0
    exact Rat.ext (by rw [rabs_num]; omega) rfl
  · have h1 := Rat.num_nonneg.2 h0
    rw [e, Rat.neg_num] at h1
    refine Rat.ext ?_ ?_
    · rw [e, Rat.neg_num, rabs_num]; omega
    · rw [e, Rat.neg_den, rabs_den]
theorem str_ne {x y : ByteArray} (h : x ≠ y) : (x.toList == y.toList) = false := by
  rw [beq_eq_false_iff_ne, ByteArray.toList_eq, ByteArray.toList_eq]
  intro e
  exact h (ByteArray.ext (Array.toList_inj.1 e))
theorem no_root {a r : Rat} (hd : a.den = 1) (h0 : a ≠ 0) (h : r * r = a * a + 1) : False := by
  have e : a = (a.num : Rat) := Rat.ext (by rw [Rat.num_intCast]) (by rw [Rat.den_intCast, hd])
  have e2 : a * a + 1 = ((a.num * a.num + 1 : Int) : Rat) := by
    rw [Rat.intCast_add, Rat.intCast_mul, ← e]; rfl
  have h1 := rat_sq r
  rw [h, e2, Rat.num_intCast] at h1
  have h2 : r.num.natAbs * r.num.natAbs = a.num.natAbs * a.num.natAbs + 1 := by
    have h5 := Int.natAbs_mul_self (a := r.num)
    have h6 := Int.natAbs_mul_self (a := a.num)
    have h7 := h1.1
    omega
  have h3 := sq_succ h2
  exact h0 (Rat.num_eq_zero.1 (by omega))
theorem nmb_int {K : Nat} {n : Int} (hK : 0 < K) (hl : K ≤ 30) (h : n.natAbs < Bw ^ K) : Nmb K (rs (n : Rat)) := by
  have hz := Sz.int h hK
  exact ⟨Nat.le_trans (rs_size_int hK hz (Rat.den_intCast n)) (by omega), by rw [qv_rs]; exact hz⟩
end Go.Big
namespace Go.Proofs.YtekghemhccfhkaaGreatDoor
open Go.RowKit Go.Big
theorem rootC1 {s R : ByteArray} {K : Nat} {a : Rat} {w : World} (gs : Nmb K s) (hK : K ≤ 31) (hq : qv s = a * a) (hR : rs (rabs a) = R) (hT : TabsA w) :
    Calls Tryz.prog 45 #[.string s] w fun e w' => e = .returned (.tuple #[.string R, .bool true]) ∧ Below w.heap.size w w' := by
  refine (rootA gs.1 hK gs.2 hT).mono ?_
  rintro e w' ⟨hb, ⟨r, h0, hr, rfl⟩ | ⟨hno, _⟩⟩
  · rw [rabs_of_root h0 (hr.trans hq), hR]; exact ⟨rfl, hb⟩
  · exact absurd ⟨a, hq.symm⟩ hno
theorem rootC0 {s : ByteArray} {K : Nat} {w : World} (gs : Nmb K s) (hK : K ≤ 31) (hno : ∀ r : Rat, r * r ≠ qv s) (hT : TabsA w) :
    Calls Tryz.prog 45 #[.string s] w fun e w' => e = .returned (.tuple #[.string ⟨#[]⟩, .bool false]) ∧ Below w.heap.size w w' := by
  refine (rootA gs.1 hK gs.2 hT).mono ?_
  rintro e w' ⟨hb, ⟨r, h0, hr, rfl⟩ | ⟨_, rfl⟩⟩
  · exact absurd hr (hno r)
  · exact ⟨rfl, hb⟩
theorem absC {s S : ByteArray} {K : Nat} {w : World} (gs : Nmb K s) (hK : K ≤ 31) (h : rs (rabs (qv s)) = S) (hT : TabsA w) : Calls Tryz.prog 34 #[.string s] w (RetB w S) := by
  rw [← h]; exact absA gs.1 (gs.2.mono hK) hT
theorem floorC {s S : ByteArray} {K : Nat} {w : World} (gs : Nmb K s) (hK : K ≤ 31) (h : rs ((qv s).floor : Rat) = S) (hT : TabsA w) : Calls Tryz.prog 47 #[.string s] w (RetB w S) := by
  rw [← h]; exact floorA gs.1 hK gs.2 hT
theorem signC {s : ByteArray} {K : Nat} {c : Int} {w : World} (gs : Nmb K s) (h : Int.sign (qv s).num = c) (hT : TabsA w) : Calls Tryz.prog 30 #[.string s] w (RetI w c) := by
  rw [← h]; exact signA gs.1 hT
theorem fromIntC {n : Int} {S : ByteArray} {w : World} (hn : IsS n) (h : rs (n : Rat) = S) (hT : TabsA w) : Calls Tryz.prog 16 #[.int .i64 n] w (RetB w S) := by
  rw [← h]; exact fromIntA hn hT
theorem gcdC {s t S : ByteArray} {K : Nat} {w : World} (gs : Nmb K s) (gt : Nmb K t) (hK : K < 100) (sr : Sz 31 (rgcd (qv s) (qv t))) (h : rs (rgcd (qv s) (qv t)) = S) (hT : TabsA w) : Calls Tryz.prog 51 #[.string s, .string t] w (RetB w S) := by
  rw [← h]; exact gcdA gs.1 gt.1 hK gs.2 gt.2 sr hT
theorem divC' {s t S : ByteArray} {K : Nat} {w : World} (gs : Nmb K s) (gt : Nmb K t) (hK : K < 100) (h0 : qv t ≠ 0) (sr : Sz 31 (qv s * (qv t)⁻¹)) (h : rs (qv s * (qv t)⁻¹) = S) (hT : TabsA w) :
    Calls Tryz.prog 35 #[.string s, .string t] w fun e w' => e = .returned (.tuple #[.string S, .bool true]) ∧ Below w.heap.size w w' := by
  rw [← h]
  refine (divA gs.1 gt.1 hK gs.2 gt.2 sr hT).mono ?_
  rintro e w' ⟨hb, ⟨h1, _⟩ | ⟨_, rfl⟩⟩
  · exact absurd h1 h0
  · exact ⟨rfl, hb⟩
end Go.Proofs.YtekghemhccfhkaaGreatDoor
namespace Go.Proofs.YtekghemhccfhkaaGreatDoor
open Go.RowKit Go.Big
set_option maxRecDepth 100000 in
set_option maxHeartbeats 4000000 in
theorem rationalRoots_walk (a : ByteArray) {w : World} (hT : TabsA w) : Calls Tryz.prog 11 #[.string a] w (RetBool w true) := by
  have HT := Lib.hid hT
  have HB := Lib.hid (Below.refl w.heap.size w)
  clear hT
  by_cases hl : 100 < a.size
  · have hz : decide ((100 : Int) < (a.size : Int)) = true := decide_eq_true (by omega)
    go_enter Tryz.func11, Tryz.ntmps11
    go_wp2_with fail
    refine (awake_any HT.out).mono ?_
    rintro e w1 ⟨rfl, hb1⟩
    have HB := Lib.hid (below_trans HB.out hb1)
    clear hb1
    go_wp2_with fail
    go_ret
    exact ⟨rfl, HB.out⟩
  · have hz : decide ((100 : Int) < (a.size : Int)) = false := decide_eq_false (by omega)
    have ga : Nmb 6 a := nmb_arg (by omega)
    obtain ⟨A, hA⟩ : ∃ A, qv a = A := ⟨_, rfl⟩
    have hza : Sz 6 A := by rw [← hA]; exact ga.2
    obtain ⟨S, hS⟩ : ∃ s, rs (A * A) = s := ⟨_, rfl⟩
    have qS : qv S = A * A := by rw [← hS]; exact qv_rs _
    have gS : Nmb 12 S := by rw [← hS]; exact nmb_rs (by decide) (by decide) (hza.mul hza)
    obtain ⟨R, hR⟩ : ∃ s, rs (rabs A) = s := ⟨_, rfl⟩
    obtain ⟨F, hF⟩ : ∃ s, rs (A.floor : Rat) = s := ⟨_, rfl⟩
    obtain ⟨Z, hZ⟩ : ∃ s, rs A = s := ⟨_, rfl⟩
    obtain ⟨T, hTT⟩ : ∃ s, rs (A * A + 1) = s := ⟨_, rfl⟩
    have qT : qv T = A * A + 1 := by rw [← hTT]; exact qv_rs _
    have gT : Nmb 14 T := by
      rw [← hTT]; exact nmb_rs (by decide) (by decide) (((hza.mul hza).add (L := 1) (sz_lit (by kernel_rfl) (by kernel_rfl) (by decide))).mono (by decide))
    obtain ⟨c, hc⟩ : ∃ c, Int.sign A.num = c := ⟨_, rfl⟩
    have GG := Lib.hid (show Nmb 6 a ∧ Nmb 12 S ∧ Nmb 14 T from ⟨ga, gS, gT⟩)
    have E1 := Lib.hid (show rs (qv a * qv a) = S from by rw [← hS, hA])
    have E2 := Lib.hid (show rs (rabs (qv a)) = R from by rw [← hR, hA])
    have E3 := Lib.hid (show rs ((qv a).floor : Rat) = F from by rw [← hF, hA])
    have E4 := Lib.hid (show rs (qv a + qv ⟨#[48]⟩) = Z from by rw [← hZ]; exact congrArg rs (by rw [hA, q0]; grind))
    have E5 := Lib.hid (show Int.sign (qv a).num = c from by rw [← hc, hA])
    have E6 := Lib.hid (show rs (qv S + qv ⟨#[49]⟩) = T from by rw [← hTT]; exact congrArg rs (by rw [qS, q1]))
    have E7 := Lib.hid (show qv S = qv a * qv a from by rw [qS, hA])
    have hroot : F = Z → c ≠ 0 → ∀ r : Rat, r * r ≠ qv T := by
      intro h1 h2 r hr
      rw [← hF, ← hZ] at h1
      refine no_root (floor_int (rs_inj h1)) (fun h => h2 ?_) (hr.trans qT)
      rw [← hc, h]; rfl
    have HRT := Lib.hid hroot
    clear hroot hA hza hS qS gS hR hF hZ hTT qT gT hc ga
    go_enter Tryz.func11, Tryz.ntmps11
    go_wp2_with fail
    refine (mulC (K := 6) GG.out.1 GG.out.1 (by decide) E1.out HT.out).mono ?_
    rintro e w1 ⟨rfl, hb1⟩
    have HT := Lib.hid (HT.out.below hb1)
    have HB := Lib.hid (below_trans HB.out hb1)
    clear hb1
    go_wp2_with fail
    refine (rootC1 GG.out.2.1 (by decide) E7.out E2.out HT.out).mono ?_
    rintro e w2 ⟨rfl, hb2⟩
    have HT := Lib.hid (HT.out.below hb2)
    have HB := Lib.hid (below_trans HB.out hb2)
    clear hb2
    go_wp2_with fail
    refine (absC GG.out.1 (by decide) E2.out HT.out).mono ?_
    rintro e w3 ⟨rfl, hb3⟩
    have HT := Lib.hid (HT.out.below hb3)
    have HB := Lib.hid (below_trans HB.out hb3)
    clear hb3
    go_wp2_with fail
    refine (floorC GG.out.1 (by decide) E3.out HT.out).mono ?_
    rintro e w4 ⟨rfl, hb4⟩
    have HT := Lib.hid (HT.out.below hb4)
    have HB := Lib.hid (below_trans HB.out hb4)
    clear hb4
    go_wp2_with fail
    refine (addC (K := 6) GG.out.1 nmb0 (by decide) E4.out HT.out).mono ?_
    rintro e w5 ⟨rfl, hb5⟩
    have HT := Lib.hid (HT.out.below hb5)
    have HB := Lib.hid (below_trans HB.out hb5)
    clear hb5
    by_cases hfz : F = Z
    · subst hfz
      go_wp2_with fail
      refine (signC GG.out.1 E5.out HT.out).mono ?_
      rintro e w6 ⟨rfl, hb6⟩
      have HT := Lib.hid (HT.out.below hb6)
      have HB := Lib.hid (below_trans HB.out hb6)
      clear hb6
      by_cases h0 : c = 0
      · subst h0
        go_wp2_with fail
        refine (awake_any HT.out).mono ?_
        rintro e w7 ⟨rfl, hb7⟩
        have HB := Lib.hid (below_trans HB.out hb7)
        clear hb7
        go_wp2_with fail
        go_ret
        exact ⟨rfl, HB.out⟩
      · have hz0 : (c != 0) = true := by rw [bne_iff_ne]; exact h0
        have HNO := Lib.hid (HRT.out (by first | rfl | trivial) h0)
        clear h0
        go_wp2_with fail
        refine (addC (K := 12) GG.out.2.1 (nmb1.mono (by decide)) (by decide) E6.out HT.out).mono ?_
        rintro e w7 ⟨rfl, hb7⟩
        have HT := Lib.hid (HT.out.below hb7)
        have HB := Lib.hid (below_trans HB.out hb7)
        clear hb7
        go_wp2_with fail
        refine (rootC0 GG.out.2.2 (by decide) HNO.out HT.out).mono ?_
        rintro e w8 ⟨rfl, hb8⟩
        have HT := Lib.hid (HT.out.below hb8)
        have HB := Lib.hid (below_trans HB.out hb8)
        clear hb8
        go_wp2_with fail
        refine (awake_any HT.out).mono ?_
        rintro e w9 ⟨rfl, hb9⟩
        have HB := Lib.hid (below_trans HB.out hb9)
        clear hb9
        go_wp2_with fail
        go_ret
        exact ⟨rfl, HB.out⟩
    · have hz1 := str_ne hfz
      clear hfz
      go_wp2_with fail
      refine (awake_any HT.out).mono ?_
      rintro e w7 ⟨rfl, hb7⟩
      have HB := Lib.hid (below_trans HB.out hb7)
      clear hb7
      go_wp2_with fail
      go_ret
      exact ⟨rfl, HB.out⟩
end Go.Proofs.YtekghemhccfhkaaGreatDoor
namespace Go.Big
open Go Go.RowKit
theorem rgcd_sz {a b : Rat} {K L : Nat} (ha : Sz K a) (hb : Sz L b) : Sz (K + L) (rgcd a b) := by
  refine ⟨?_, ?_⟩
  · rw [rgcd_num, Int.natAbs_natCast]
    rcases Nat.eq_zero_or_pos a.num.natAbs with h | h
    · rw [h, Nat.gcd_zero_left]; exact Nat.lt_of_lt_of_le hb.1 (bw_mono (by omega))
    · exact Nat.lt_of_le_of_lt (Nat.le_of_dvd h (Nat.gcd_dvd_left _ _)) (Nat.lt_of_lt_of_le ha.1 (bw_mono (by omega)))
  · rw [rgcd_den]
    exact mul_lt_pow ha.2 (Nat.lt_of_le_of_lt (Nat.div_le_self _ _) hb.2)
theorem rgcd_meas {a b : Rat} (h : rgcd a b ≠ 0) : Meas a b (rgcd a b) := gcd_meas (rgcd_num a b) (rgcd_den a b) h
theorem rgcd_one {m n : Int} (h : Nat.gcd m.natAbs n.natAbs = 1) : rgcd (m : Rat) (n : Rat) = 1 := gcd_int_one h (rgcd_num _ _) (rgcd_den _ _)
theorem rgcd_zero {a b : Rat} (h : rgcd a b = 0) : a = 0 ∧ b = 0 := gcd_zero (rgcd_num a b) h
theorem rgcd_zero' : rgcd 0 0 = 0 := Rat.num_eq_zero.1 rfl
theorem rgcd_add {a b : Rat} (k : Int) (h : rgcd a b ≠ 0) : rgcd b (a + b * k) = rgcd a b := by
  have h2 : rgcd b (a + b * k) ≠ 0 := by
    intro e
    have h3 := rgcd_zero e
    have h4 : a = 0 := by have := h3.2; rw [h3.1] at this; grind
    exact h (by rw [h4, h3.1]; exact rgcd_zero')
  exact (rgcd_meas h2).unique ((rgcd_meas h).add k)
theorem s1 : rs 1 = ⟨#[49]⟩ := rs_rd (by kernel_rfl)
end Go.Big
namespace Go.Proofs.YtekghemhccfhkaaGreatDoor
open Go.RowKit Go.Big
set_option maxRecDepth 100000 in
set_option maxHeartbeats 4000000 in
theorem rationalGCD_walk (a b : ByteArray) {n : Int} (hn : IsS n) {w : World} (hT : TabsA w) : Calls Tryz.prog 12 #[.string a, .string b, .int .i64 n] w (RetBool w true) := by
  have HT := Lib.hid hT
  have HI := Lib.hid hn
  obtain ⟨o, ho⟩ : ∃ o, S100 [a, b] = o := ⟨_, rfl⟩
  have HO := Lib.hid ho
  obtain ⟨w0, hw0⟩ : ∃ w0, w.alloc (.cells #[.string a, .string b] 9) = w0 := ⟨_, rfl⟩
  have hr := heap_alloc_new w (.cells #[.string a, .string b] 9)
  have hb0 : Below w.heap.size w w0 := by rw [← hw0]; exact (Below.refl _ _).alloc' _
  rw [hw0] at hr
  have HSH := Lib.hid (short2 (cap := 2) (g := w.heap.size) (w := w0) (by rw [cell_rowB hr]; rfl) (by rw [cell_rowB hr]; rfl) HO.out)
  have HT := Lib.hid (HT.out.below hb0)
  have HB := Lib.hid hb0
  clear hT ho hr hb0 hn
  cases o with
  | false =>
    go_enter Tryz.func12, Tryz.ntmps12
    go_wp2_with fail
    refine HSH.out.mono ?_
    rintro e w1 ⟨rfl, rfl⟩
    go_wp2_with fail
    refine (awake_any HT.out).mono ?_
    rintro e w2 ⟨rfl, hb2⟩
    have HB := Lib.hid (below_trans HB.out hb2)
    clear hb2
    go_wp2_with fail
    go_ret
    exact ⟨rfl, HB.out⟩
  | true =>
    have hsz : ∀ x ∈ [a, b], x.size ≤ 100 := of_decide_eq_true HO.out
    obtain ⟨A, hA⟩ : ∃ A, qv a = A := ⟨_, rfl⟩
    obtain ⟨B, hB⟩ : ∃ B, qv b = B := ⟨_, rfl⟩
    have ga : Nmb 6 a := nmb_arg (hsz a (by simp))
    have gb : Nmb 6 b := nmb_arg (hsz b (by simp))
    have hza : Sz 6 A := by rw [← hA]; exact ga.2
    have hzb : Sz 6 B := by rw [← hB]; exact gb.2
    have hzg := rgcd_sz hza hzb
    obtain ⟨G, hG⟩ : ∃ G, rgcd A B = G := ⟨_, rfl⟩
    rw [hG] at hzg
    obtain ⟨S, hS⟩ : ∃ s, rs G = s := ⟨_, rfl⟩
    have qS : qv S = G := by rw [← hS]; exact qv_rs _
    have gS : Nmb 12 S := by rw [← hS]; exact nmb_rs (by decide) (by decide) hzg
    have GG := Lib.hid (show Nmb 6 a ∧ Nmb 6 b ∧ Nmb 12 S from ⟨ga, gb, gS⟩)
    have E1 := Lib.hid (show rs (rgcd (qv a) (qv b)) = S from by rw [← hS, hA, hB, hG])
    have Z1 := Lib.hid (show Sz 31 (rgcd (qv a) (qv b)) from by rw [hA, hB, hG]; exact hzg.mono (by decide))
    by_cases h0 : G = 0
    · subst h0
      have h00 := rgcd_zero hG
      have E2 := Lib.hid (show Int.sign (qv S).num = 0 from by rw [qS]; rfl)
      have E3 := Lib.hid (show Int.sign (qv a).num = 0 from by rw [hA, h00.1]; rfl)
      have E4 := Lib.hid (show Int.sign (qv b).num = 0 from by rw [hB, h00.2]; rfl)
      clear hsz hA hB hza hzb hzg hG qS gS h00 ga gb hS
      go_enter Tryz.func12, Tryz.ntmps12
      go_wp2_with fail
      refine HSH.out.mono ?_
      rintro e w1 ⟨rfl, rfl⟩
      clear HSH
      go_wp2_with fail
      refine (gcdC (K := 6) GG.out.1 GG.out.2.1 (by decide) Z1.out E1.out HT.out).mono ?_
      rintro e w2 ⟨rfl, hb2⟩
      have HT := Lib.hid (HT.out.below hb2)
      have HB := Lib.hid (below_trans HB.out hb2)
      clear hb2
      go_wp2_with fail
      refine (signC GG.out.2.2 E2.out HT.out).mono ?_
      rintro e w3 ⟨rfl, hb3⟩
      have HT := Lib.hid (HT.out.below hb3)
      have HB := Lib.hid (below_trans HB.out hb3)
      clear hb3
      go_wp2_with fail
      refine (signC GG.out.1 E3.out HT.out).mono ?_
      rintro e w4 ⟨rfl, hb4⟩
      have HT := Lib.hid (HT.out.below hb4)
      have HB := Lib.hid (below_trans HB.out hb4)
      clear hb4
      go_wp2_with fail
      refine (signC GG.out.2.1 E4.out HT.out).mono ?_
      rintro e w5 ⟨rfl, hb5⟩
      have HT := Lib.hid (HT.out.below hb5)
      have HB := Lib.hid (below_trans HB.out hb5)
      clear hb5
      go_wp2_with fail
      refine (awake_any HT.out).mono ?_
      rintro e w9 ⟨rfl, hb9⟩
      have HB := Lib.hid (below_trans HB.out hb9)
      clear hb9
      go_wp2_with fail
      go_ret
      exact ⟨rfl, HB.out⟩
    · have hg0 : rgcd A B ≠ 0 := by rw [hG]; exact h0
      obtain ⟨hpos, m, k, hm, hk, hmk⟩ := rgcd_meas hg0
      have hadd := fun j : Int => rgcd_add j hg0
      rw [hG] at hpos hm hk hadd
      have em : A * G⁻¹ = (m : Rat) := int_of_mul_inv hm h0
      have ek : B * G⁻¹ = (k : Rat) := int_of_mul_inv hk h0
      have szm : Sz 18 (m : Rat) := by rw [← em]; exact hza.mul (hzg.inv h0)
      have szk : Sz 18 (k : Rat) := by rw [← ek]; exact hzb.mul (hzg.inv h0)
      have lm : m.natAbs < Bw ^ 18 := by have := szm.1; rwa [Rat.num_intCast] at this
      have lk : k.natAbs < Bw ^ 18 := by have := szk.1; rwa [Rat.num_intCast] at this
      obtain ⟨X, hX⟩ : ∃ s, rs (m : Rat) = s := ⟨_, rfl⟩
      have qX : qv X = (m : Rat) := by rw [← hX]; exact qv_rs _
      have gX : Nmb 18 X := by rw [← hX]; exact nmb_int (by decide) (by decide) lm
      obtain ⟨Y, hY⟩ : ∃ s, rs (k : Rat) = s := ⟨_, rfl⟩
      have qY : qv Y = (k : Rat) := by rw [← hY]; exact qv_rs _
      have gY : Nmb 18 Y := by rw [← hY]; exact nmb_int (by decide) (by decide) lk
      have ln : n.natAbs < Bw ^ 1 := by have := HI.out; unfold IsS at this; have e : Bw ^ 1 = 18446744073709551616 := by decide
                                        omega
      obtain ⟨V, hV⟩ : ∃ s, rs (n : Rat) = s := ⟨_, rfl⟩
      have qV : qv V = (n : Rat) := by rw [← hV]; exact qv_rs _
      have gV : Nmb 1 V := by rw [← hV]; exact nmb_int (by decide) (by decide) ln
      obtain ⟨U, hU⟩ : ∃ s, rs (B * n) = s := ⟨_, rfl⟩
      have qU : qv U = B * n := by rw [← hU]; exact qv_rs _
      have szU : Sz 7 (B * (n : Rat)) := hzb.mul (Sz.int ln (by decide))
      have gU : Nmb 7 U := by rw [← hU]; exact nmb_rs (by decide) (by decide) szU
      obtain ⟨Q, hQ⟩ : ∃ s, rs (A + B * n) = s := ⟨_, rfl⟩
      have qQ : qv Q = A + B * n := by rw [← hQ]; exact qv_rs _
      have gQ : Nmb 14 Q := by rw [← hQ]; exact nmb_rs (by decide) (by decide) ((hza.add szU).mono (by decide))
      have GX := Lib.hid (show Nmb 18 X ∧ Nmb 18 Y ∧ Nmb 1 V ∧ Nmb 7 U ∧ Nmb 14 Q from ⟨gX, gY, gV, gU, gQ⟩)
      have E2 := Lib.hid (show Int.sign (qv S).num = 1 from by rw [qS]; exact Int.sign_eq_one_of_pos (num_pos_of hpos))
      have N0 := Lib.hid (show qv S ≠ 0 from by rw [qS]; exact h0)
      have E3 := Lib.hid (show rs (qv a * (qv S)⁻¹) = X from by rw [← hX, hA, qS, em])
      have Z3 := Lib.hid (show Sz 31 (qv a * (qv S)⁻¹) from by rw [hA, qS, em]; exact szm.mono (by decide))
      have E4 := Lib.hid (show rs (qv b * (qv S)⁻¹) = Y from by rw [← hY, hB, qS, ek])
      have Z4 := Lib.hid (show Sz 31 (qv b * (qv S)⁻¹) from by rw [hB, qS, ek]; exact szk.mono (by decide))
      have E5 := Lib.hid (show rs ((qv X).floor : Rat) = X from by rw [← hX, qv_rs, Rat.floor_intCast])
      have E6 := Lib.hid (show rs ((qv Y).floor : Rat) = Y from by rw [← hY, qv_rs, Rat.floor_intCast])
      have E7 := Lib.hid (show rs (rgcd (qv X) (qv Y)) = ⟨#[49]⟩ from by rw [qX, qY, rgcd_one hmk, s1])
      have Z7 := Lib.hid (show Sz 31 (rgcd (qv X) (qv Y)) from by rw [qX, qY, rgcd_one hmk]; exact sz_lit (by kernel_rfl) (by kernel_rfl) (by decide))
      have E8 := Lib.hid (show rs (qv b * qv V) = U from by rw [← hU, hB, qV])
      have E9 := Lib.hid (show rs (qv a + qv U) = Q from by rw [← hQ, hA, qU])
      have E10 := Lib.hid (show rs (rgcd (qv b) (qv Q)) = S from by rw [← hS, hB, qQ, hadd])
      have Z10 := Lib.hid (show Sz 31 (rgcd (qv b) (qv Q)) from by rw [hB, qQ, hadd]; exact hzg.mono (by decide))
      have HV := Lib.hid hV
      clear hsz hA hB hza hzb hzg hG qS gS ga gb hS hg0 hpos hm hk hmk hadd em ek szm szk lm lk hX qX gX hY qY gY ln hV qV gV hU qU szU gU hQ qQ gQ h0
      go_enter Tryz.func12, Tryz.ntmps12
      go_wp2_with fail
      refine HSH.out.mono ?_
      rintro e w1 ⟨rfl, rfl⟩
      clear HSH
      go_wp2_with fail
      refine (gcdC (K := 6) GG.out.1 GG.out.2.1 (by decide) Z1.out E1.out HT.out).mono ?_
      rintro e w2 ⟨rfl, hb2⟩
      have HT := Lib.hid (HT.out.below hb2)
      have HB := Lib.hid (below_trans HB.out hb2)
      clear hb2
      go_wp2_with fail
      refine (signC GG.out.2.2 E2.out HT.out).mono ?_
      rintro e w3 ⟨rfl, hb3⟩
      have HT := Lib.hid (HT.out.below hb3)
      have HB := Lib.hid (below_trans HB.out hb3)
      clear hb3
      go_wp2_with fail
      refine (divC' (K := 12) (Nmb.mono GG.out.1 (by decide)) GG.out.2.2 (by decide) N0.out Z3.out E3.out HT.out).mono ?_
      rintro e w4 ⟨rfl, hb4⟩
      have HT := Lib.hid (HT.out.below hb4)
      have HB := Lib.hid (below_trans HB.out hb4)
      clear hb4
      go_wp2_with fail
      refine (divC' (K := 12) (Nmb.mono GG.out.2.1 (by decide)) GG.out.2.2 (by decide) N0.out Z4.out E4.out HT.out).mono ?_
      rintro e w5 ⟨rfl, hb5⟩
      have HT := Lib.hid (HT.out.below hb5)
      have HB := Lib.hid (below_trans HB.out hb5)
      clear hb5
      go_wp2_with fail
      refine (floorC GX.out.1 (by decide) E5.out HT.out).mono ?_
      rintro e w6 ⟨rfl, hb6⟩
      have HT := Lib.hid (HT.out.below hb6)
      have HB := Lib.hid (below_trans HB.out hb6)
      clear hb6
      go_wp2_with fail
      refine (floorC GX.out.2.1 (by decide) E6.out HT.out).mono ?_
      rintro e w7 ⟨rfl, hb7⟩
      have HT := Lib.hid (HT.out.below hb7)
      have HB := Lib.hid (below_trans HB.out hb7)
      clear hb7
      go_wp2_with fail
      refine (gcdC (K := 18) GX.out.1 GX.out.2.1 (by decide) Z7.out E7.out HT.out).mono ?_
      rintro e w8 ⟨rfl, hb8⟩
      have HT := Lib.hid (HT.out.below hb8)
      have HB := Lib.hid (below_trans HB.out hb8)
      clear hb8
      go_wp2_with fail
      refine (fromIntC HI.out HV.out HT.out).mono ?_
      rintro e w9 ⟨rfl, hb9⟩
      have HT := Lib.hid (HT.out.below hb9)
      have HB := Lib.hid (below_trans HB.out hb9)
      clear hb9
      go_wp2_with fail
      refine (mulC (K := 7) (Nmb.mono GG.out.2.1 (by decide)) (Nmb.mono GX.out.2.2.1 (by decide)) (by decide) E8.out HT.out).mono ?_
      rintro e w10 ⟨rfl, hb10⟩
      have HT := Lib.hid (HT.out.below hb10)
      have HB := Lib.hid (below_trans HB.out hb10)
      clear hb10
      go_wp2_with fail
      refine (addC (K := 7) (Nmb.mono GG.out.1 (by decide)) GX.out.2.2.2.1 (by decide) E9.out HT.out).mono ?_
      rintro e w11 ⟨rfl, hb11⟩
      have HT := Lib.hid (HT.out.below hb11)
      have HB := Lib.hid (below_trans HB.out hb11)
      clear hb11
      go_wp2_with fail
      refine (gcdC (K := 14) (Nmb.mono GG.out.2.1 (by decide)) GX.out.2.2.2.2 (by decide) Z10.out E10.out HT.out).mono ?_
      rintro e w12 ⟨rfl, hb12⟩
      have HT := Lib.hid (HT.out.below hb12)
      have HB := Lib.hid (below_trans HB.out hb12)
      clear hb12
      go_wp2_with fail
      refine (awake_any HT.out).mono ?_
      rintro e w19 ⟨rfl, hb19⟩
      have HB := Lib.hid (below_trans HB.out hb19)
      clear hb19
      go_wp2_with fail
      go_ret
      exact ⟨rfl, HB.out⟩
end Go.Proofs.YtekghemhccfhkaaGreatDoor
