/-
  Walks of the program's functions: NRoot46, NRound1, LawRound.
-/
import Derived.Test.YtekghemhccfhkaaGreatDoorB45
import Derived.Deep.RegionWith
import Derived.Test.YtekghemhccfhkaaGreatDoorB42
import Derived.Test.YtekghemhccfhkaaGreatDoorB38
namespace Go.Big
open Go Go.RowKit
theorem nat_false {b : Bool} {n : Nat} (h : b = decide ((n : Int) < 0)) : b = false := by rw [h, decide_eq_false]; omega
theorem sq_uniq {s m r : Nat} (h1 : s * s ≤ m) (h2 : m < (s + 1) * (s + 1)) (hr : m = r * r) : s * s = m := by
  have h3 : s = r := by
    rcases Nat.lt_trichotomy s r with h | h | h
    · have := Nat.mul_le_mul (Nat.succ_le_of_lt h) (Nat.succ_le_of_lt h)
      simp only [Nat.succ_eq_add_one] at this; omega
    · exact h
    · have h4 := Nat.mul_le_mul (Nat.succ_le_of_lt h) (Nat.succ_le_of_lt h)
      have h5 : (r + 1) * (r + 1) = r * r + 2 * r + 1 := by grind
      simp only [Nat.succ_eq_add_one] at h4; omega
  rw [h3, hr]
theorem rfroot_yes {q : Rat} {M sn sd : Nat} (hM : q.num = (M : Int)) (h1 : sn * sn = M) (h2 : sd * sd = q.den) : ∃ Q : Rat, Q.num * (sd : Int) = (sn : Int) * (Q.den : Int) ∧ 0 ≤ Q ∧ Q * Q = q ∧ (sd : Int) ≠ 0 := by
  have hd := q.den_nz
  have h0 : sd ≠ 0 := by intro e; rw [e] at h2; omega
  have h0' : (sd : Int) ≠ 0 := by omega
  obtain ⟨Q, hQ⟩ : ∃ Q, Rat.divInt sn sd = Q := ⟨_, rfl⟩
  have hx := divInt_cross (n := (sn : Int)) h0'
  rw [hQ] at hx
  refine ⟨Q, hx, ?_, ?_, h0'⟩
  · rw [← Rat.num_nonneg]
    have h3 : 0 ≤ Q.num * (sd : Int) := by rw [hx]; exact Int.mul_nonneg (by omega) (by omega)
    exact Int.nonneg_of_mul_nonneg_left h3 (by omega)
  · rw [← hQ, Rat.divInt_mul_divInt, ← Int.natCast_mul, ← Int.natCast_mul, h1, h2, ← hM, Rat.num_divInt_den]
theorem rfroot_no {q : Rat} {M sn sd : Nat} (hM : q.num = (M : Int)) (h1 : sn * sn ≤ M ∧ M < (sn + 1) * (sn + 1)) (h2 : sd * sd ≤ q.den ∧ q.den < (sd + 1) * (sd + 1)) (h : ¬ (sn * sn = M ∧ sd * sd = q.den)) : ¬ ∃ r : Rat, r * r = q := by
  rintro ⟨r, hr⟩
  have hs := rat_sq r
  rw [hr] at hs
  apply h
  refine ⟨sq_uniq h1.1 h1.2 (r := r.num.natAbs) ?_, sq_uniq h2.1 h2.2 hs.2⟩
  have h3 := hs.1
  rw [hM] at h3
  have h4 := Int.natAbs_mul_self (a := r.num)
  omega
theorem rfroot_neg {q : Rat} (h : q.num < 0) : ¬ ∃ r : Rat, r * r = q := by
  rintro ⟨r, hr⟩
  have hs := rat_sq r
  rw [hr] at hs
  have h3 := hs.1
  have h4 := Int.natAbs_mul_self (a := r.num)
  omega
theorem sq_le {s m N : Nat} (h : s * s ≤ m) (hm : m < N) : s < N := by
  rcases Nat.eq_zero_or_pos s with h0 | h0
  · omega
  · exact Nat.lt_of_le_of_lt (Nat.le_trans (Nat.le_mul_of_pos_left s h0) h) hm
end Go.Big
namespace Go.Proofs.YtekghemhccfhkaaGreatDoor
open Go.RowKit Go.Big
theorem ncmpC {v v' : Value} {m n c : Int} {K : Nat} {w : World} (h : NumV w v m) (h' : NumV w v' n) (hK : K < 100000) (hm : m.natAbs < B32 ^ K) (hn : n.natAbs < B32 ^ K) (hc : Int.sign (m - n) = c) : Calls Tryz.prog 89 #[v, v'] w (RetI w c) := by
  rw [← hc]; exact ncmp_any h h' hK hm hn
set_option maxRecDepth 100000 in
set_option maxHeartbeats 16000000 in
/-- Root of the reference -/
theorem rootR {s : ByteArray} {q : Rat} {K : Nat} (hs : s.size ≤ 10000) (hq : qv s = q) (hK : K < 1000) (sq : Sn K q) {w : World} : Calls Tryz.prog 46 #[.string s] w (RootQ w q) := by
  have HL := Lib.hid hs
  have HSZ := Lib.hid (And.intro hq (And.intro hK sq))
  clear hs hq hK sq
  go_enter Tryz.func46, Tryz.ntmps46
  go_wp2_with fail
  refine (num_any s HL.out _).mono ?_
  rintro e w1 ⟨v1, rfl, hv1, hb1⟩
  rw [HSZ.out.1] at hv1
  obtain ⟨b1, a1, l1, p1, c1, m1, r1, rfl, e1, h1, i1⟩ := hv1.op
  obtain ⟨w2, hw2, hb2, k1, hz2⟩ := nbox1 w1 #[.bool b1, .slice a1 l1 p1, .bool false, .slice c1 m1 r1] 32 (cb4 b1 h1.cb false i1.cb)
  have k1 : N4 w1.heap.size b1 (.slice a1 l1 p1) false (.slice c1 m1 r1) w2 := k1
  have HX := Lib.hid (hv1.below hb2)
  have HNA := Lib.hid (num_of e1 (h1.below hb2))
  have HB := Lib.hid (hb1.trans (hb2.mono hb1.size))
  have HK := Lib.hid k1
  have y0 := k1.c0
  have y1 := k1.c1
  have y2 := k1.c2
  have y3 := k1.c3
  obtain ⟨sg, hsg⟩ : ∃ c, Int.sign q.num = c := ⟨_, rfl⟩
  have HSG := Lib.hid hsg
  have HE1 := Lib.hid e1
  by_cases h0 : q.num < 0
  · have hs0 : sg < 0 := by rw [← hsg, Int.sign_eq_neg_one_of_neg h0]; decide
    have HNO := Lib.hid (rfroot_neg h0)
    clear h1 i1 e1 hv1 hb1 hb2 hz2 k1 hsg h0
    go_wp2_with fail
    refine (rsignC HX.out HSG.out).mono ?_
    rintro e w3 ⟨rfl, hb3⟩
    have HB := Lib.hid (below_trans HB.out hb3)
    clear hb3 y0 y1 y2 y3
    go_wp2_with fail
    exact bodyPost_ret (v := .tuple #[.string ⟨#[]⟩, .bool false]) (by simp [results, Tryz.results46, go_sem]) rfl ⟨HB.out, .inr ⟨HNO.out, rfl⟩⟩
  · have hs0 : ¬ sg < 0 := by rw [← hsg, Int.sign_neg_iff]; exact h0
    obtain ⟨M, hM⟩ : ∃ M : Nat, q.num = (M : Int) := ⟨q.num.toNat, by omega⟩
    obtain rfl : b1 = false := by rw [HE1.out, decide_eq_false h0]
    have HMN := Lib.hid hM
    rw [hM] at HNA
    have HQ : Hid (K < 1000 ∧ M < B32 ^ K ∧ q.den < B32 ^ K) := Lib.hid ⟨HSZ.out.2.1, by have := HSZ.out.2.2.1; rw [hM, Int.natAbs_natCast] at this; exact this, HSZ.out.2.2.2⟩
    clear h1 i1 e1 hv1 hb1 hb2 hz2 k1 hsg h0 hM
    go_wp2_with fail
    refine (rsignC HX.out HSG.out).mono ?_
    rintro e w3 ⟨rfl, hb3⟩
    have HB := Lib.hid (below_trans HB.out hb3)
    have HX := Lib.hid (HX.out.below hb3)
    have HNA := Lib.hid (HNA.out.below hb3)
    have HK := Lib.hid (HK.out.below hb3)
    clear hb3 y0 y1 y2 y3
    have y0 := HK.out.c0
    have y1 := HK.out.c1
    have y2 := HK.out.c2
    have y3 := HK.out.c3
    go_wp2_with fail
    rename_i KK hKK
    have REST : ∀ (G3 G4 : Nat) (qa ra : Option Addr) (qk qc rk rc sn sd : Nat) (vB : Value) (WF : World), Hid (N2 G3 false (.slice qa qk qc) WF ∧ N2 G4 false (.slice ra rk rc) WF ∧ NatV WF .u32 B32 (.slice qa qk qc) ((sn : Nat) : Int).natAbs ∧ NatV WF .u32 B32 (.slice ra rk rc) ((sd : Nat) : Int).natAbs) → Hid (Below w3.heap.size w3 WF) → Hid (sn * sn ≤ M ∧ M < (sn + 1) * (sn + 1)) → Hid (sd * sd ≤ q.den ∧ q.den < (sd + 1) * (sd + 1)) →
        Exit.then KK (bodyPost Tryz.prog Tryz.f46 (RootQ w q)) Exit.normal { tmps := #[.string s, undef, .string ⟨#[]⟩, .bool false, .pointer (some ⟨w1.heap.size, 0, none⟩), .pointer (some ⟨G3, 0, none⟩), .pointer (some ⟨G4, 0, none⟩), .string s, .agg #[.bool false, .slice a1 l1 p1, .bool false, .slice c1 m1 r1], .agg #[.bool false, .slice a1 l1 p1, .bool false, .slice c1 m1 r1], .int .i64 sg, .bool (decide (sg < 0)), .pointer (some ⟨w1.heap.size, 0, none⟩), .agg #[.bool false, .slice a1 l1 p1], .agg #[.bool false, .slice qa qk qc], .agg #[.bool false, .slice a1 l1 p1, .bool false, .slice c1 m1 r1], vB, .agg #[.bool false, .slice ra rk rc], undef, undef, undef, undef, undef, undef, undef, undef, undef, undef, undef, undef, undef, undef, undef, undef, undef, undef, undef, undef], defers := [] } WF := by
      as_aux_lemma =>
        intro G3 G4 qa ra qk qc rk rc sn sd vB WF KF HCF HSN HSD
        have HKW := Lib.hid (HK.out.below HCF.out)
        have HBW := Lib.hid (HB.out.trans (HCF.out.mono HB.out.size))
        have HXW := Lib.hid (HX.out.below HCF.out)
        have HNW := Lib.hid (HNA.out.below HCF.out)
        have HN3 := Lib.hid (num_of (n := (sn : Int)) (show false = decide ((sn : Int) < 0) by rw [decide_eq_false]; omega) KF.out.2.2.1)
        have HN4 := Lib.hid (num_of (n := (sd : Int)) (show false = decide ((sd : Int) < 0) by rw [decide_eq_false]; omega) KF.out.2.2.2)
        have HZZ : Hid (K < 100000 ∧ (((sn : Nat) : Int).natAbs < B32 ^ K ∧ ((sd : Nat) : Int).natAbs < B32 ^ K) ∧ ((sn : Int) * (sn : Int)).natAbs < B32 ^ K ∧ ((M : Nat) : Int).natAbs < B32 ^ K ∧ ((sd : Int) * (sd : Int)).natAbs < B32 ^ K ∧ ((q.den : Nat) : Int).natAbs < B32 ^ K) := Lib.hid (by
          have h1 := sq_le HSN.out.1 HQ.out.2.1
          have h2 := sq_le HSD.out.1 HQ.out.2.2
          refine ⟨by have := HQ.out.1; omega, ⟨by rw [Int.natAbs_natCast]; exact h1, by rw [Int.natAbs_natCast]; exact h2⟩, ?_, by rw [Int.natAbs_natCast]; exact HQ.out.2.1, ?_, by rw [Int.natAbs_natCast]; exact HQ.out.2.2⟩
          · rw [← Int.natCast_mul, Int.natAbs_natCast]; exact Nat.lt_of_le_of_lt HSN.out.1 HQ.out.2.1
          · rw [← Int.natCast_mul, Int.natAbs_natCast]; exact Nat.lt_of_le_of_lt HSD.out.1 HQ.out.2.2)
        have x00 := HKW.out.c0
        have x01 := HKW.out.c1
        have x02 := HKW.out.c2
        have x03 := HKW.out.c3
        have g0 := KF.out.1.c0
        have g1 := KF.out.1.c1
        have g2 := KF.out.2.1.c0
        have g3 := KF.out.2.1.c1
        by_cases h1 : sn * sn = M
        · have HC1 : Hid (Int.sign ((sn : Int) * (sn : Int) - (M : Int)) = 0) := Lib.hid (by rw [← h1, Int.natCast_mul, Int.sub_self]; rfl)
          by_cases h2 : sd * sd = q.den
          · have HC2 : Hid (Int.sign ((sd : Int) * (sd : Int) - ((q.den : Nat) : Int)) = 0) := Lib.hid (by rw [← h2, Int.natCast_mul, Int.sub_self]; rfl)
            obtain ⟨Q, hQ⟩ := rfroot_yes HMN.out h1 h2
            have HQQ := Lib.hid hQ
            have HQS : Hid (Q.num.natAbs < B32 ^ K ∧ Q.den < B32 ^ K) := Lib.hid (by
              obtain ⟨l1, l2⟩ := low_le (by have := hQ.2.2.2; omega) hQ.1
              have h3 := HZZ.out.2.1
              rw [Int.natAbs_natCast] at h3
              rw [Int.natAbs_natCast] at h3 l1
              exact ⟨Nat.lt_of_le_of_lt l1 h3.1, by omega⟩)
            clear hQ h1 h2
            go_wp2_with fail
            have hc : Below WF.heap.size WF WF.drew := (Below.refl _ _).drew
            go_region_held3 (fun w' => w'.cell? ⟨w1.heap.size, 0, none⟩ = some (.bool false) ∧ w'.cell? ⟨w1.heap.size, 1, none⟩ = some (.slice a1 l1 p1) ∧ w'.cell? ⟨w1.heap.size, 2, none⟩ = some (.bool false) ∧ w'.cell? ⟨w1.heap.size, 3, none⟩ = some (.slice c1 m1 r1) ∧ w'.cell? ⟨G3, 0, none⟩ = some (.bool false) ∧ w'.cell? ⟨G3, 1, none⟩ = some (.slice qa qk qc) ∧ w'.cell? ⟨G4, 0, none⟩ = some (.bool false) ∧ w'.cell? ⟨G4, 1, none⟩ = some (.slice ra rk rc) ∧ Below WF.heap.size WF w') (first | (with_reducible exact ⟨(HKW.out.below hc).c0, (HKW.out.below hc).c1, (HKW.out.below hc).c2, (HKW.out.below hc).c3, (KF.out.1.below hc).c0, (KF.out.1.below hc).c1, (KF.out.2.1.below hc).c0, (KF.out.2.1.below hc).c1, hc⟩) | fail) (first | (go_at_call 72; (with_reducible refine (nmul_any (K := K) (HN3.out.below hc) (HN3.out.below hc) HZZ.out.1 HZZ.out.2.1.1 HZZ.out.2.1.1).mono ?_); rintro e wP ⟨vP, rfl, hvP, hbP⟩; have hc := hc.trans (hbP.mono hc.size)) | (go_at_call 89; (with_reducible refine (ncmpC (K := K) hvP (HNW.out.below hc) HZZ.out.1 HZZ.out.2.2.1 HZZ.out.2.2.2.1 HC1.out).mono ?_); rintro e wR ⟨rfl, hbR⟩; have hc := hc.trans (hbR.mono hc.size)) | (go_at_call 72; (with_reducible refine (nmul_any (K := K) (HN4.out.below hc) (HN4.out.below hc) HZZ.out.1 HZZ.out.2.1.2 HZZ.out.2.1.2).mono ?_); rintro e wD ⟨vD, rfl, hvD, hbD⟩; have hc := hc.trans (hbD.mono hc.size)) | (go_at_call 77; (with_reducible refine (nDen_any (HXW.out.below hc)).mono ?_); rintro e wE ⟨vE, rfl, hvE, hbE⟩; have hc := hc.trans (hbE.mono hc.size); have hvD := hvD.below hbE) | (go_at_call 89; (with_reducible refine (ncmpC (K := K) hvD hvE HZZ.out.1 HZZ.out.2.2.2.2.1 HZZ.out.2.2.2.2.2 HC2.out).mono ?_); rintro e wS ⟨rfl, hbS⟩; have hc := hc.trans (hbS.mono hc.size)) | fail)
            have HBW := Lib.hid (HBW.out.trans (hc.mono HBW.out.size))
            have n0 := (KF.out.1.below hc).c0
            have n1 := (KF.out.1.below hc).c1
            have n2 := (KF.out.2.1.below hc).c0
            have n3 := (KF.out.2.1.below hc).c1
            have HN3 := Lib.hid (HN3.out.below hc)
            have HN4 := Lib.hid (HN4.out.below hc)
            clear hc
            go_wp2_with fail
            refine (frac_any (K := K) (q := Q) HN3.out HN4.out HQQ.out.2.2.2 HZZ.out.1 HZZ.out.2.1.1 HZZ.out.2.1.2 HQQ.out.1).mono ?_
            rintro e wF ⟨vF, rfl, hvF, hbF⟩
            have HVF := Lib.hid hvF
            have HBW := Lib.hid (HBW.out.trans (hbF.mono HBW.out.size))
            clear hvF hbF n0 n1 n2 n3
            go_wp2_with fail
            refine (ntext_any (K := K) HVF.out HZZ.out.1 HQS.out.1 HQS.out.2).mono ?_
            rintro e wT ⟨rfl, hbT⟩
            have HBW := Lib.hid (HBW.out.trans (hbT.mono HBW.out.size))
            clear hbT
            go_wp2_with fail
            exact bodyPost_ret (v := .tuple #[.string (rs Q), .bool true]) (by simp [results, Tryz.results46, go_sem]) rfl ⟨HBW.out, .inl ⟨Q, HQQ.out.2.1, HQQ.out.2.2.1, rfl⟩⟩
          · have hc2 : Int.sign ((sd : Int) * (sd : Int) - ((q.den : Nat) : Int)) = -1 := Int.sign_eq_neg_one_of_neg (by have h3 := HSD.out.1; have h4 : ((sd * sd : Nat) : Int) = (sd : Int) * (sd : Int) := Int.natCast_mul _ _; omega)
            have HC2 := Lib.hid hc2
            have HNO := Lib.hid (rfroot_no HMN.out HSN.out HSD.out (fun h => h2 h.2))
            clear h1 h2 hc2
            go_wp2_with fail
            have hc : Below WF.heap.size WF WF.drew := (Below.refl _ _).drew
            go_region_held3 (fun w' => w'.cell? ⟨w1.heap.size, 0, none⟩ = some (.bool false) ∧ w'.cell? ⟨w1.heap.size, 1, none⟩ = some (.slice a1 l1 p1) ∧ w'.cell? ⟨w1.heap.size, 2, none⟩ = some (.bool false) ∧ w'.cell? ⟨w1.heap.size, 3, none⟩ = some (.slice c1 m1 r1) ∧ w'.cell? ⟨G3, 0, none⟩ = some (.bool false) ∧ w'.cell? ⟨G3, 1, none⟩ = some (.slice qa qk qc) ∧ w'.cell? ⟨G4, 0, none⟩ = some (.bool false) ∧ w'.cell? ⟨G4, 1, none⟩ = some (.slice ra rk rc) ∧ Below WF.heap.size WF w') (first | (with_reducible exact ⟨(HKW.out.below hc).c0, (HKW.out.below hc).c1, (HKW.out.below hc).c2, (HKW.out.below hc).c3, (KF.out.1.below hc).c0, (KF.out.1.below hc).c1, (KF.out.2.1.below hc).c0, (KF.out.2.1.below hc).c1, hc⟩) | fail) (first | (go_at_call 72; (with_reducible refine (nmul_any (K := K) (HN3.out.below hc) (HN3.out.below hc) HZZ.out.1 HZZ.out.2.1.1 HZZ.out.2.1.1).mono ?_); rintro e wP ⟨vP, rfl, hvP, hbP⟩; have hc := hc.trans (hbP.mono hc.size)) | (go_at_call 89; (with_reducible refine (ncmpC (K := K) hvP (HNW.out.below hc) HZZ.out.1 HZZ.out.2.2.1 HZZ.out.2.2.2.1 HC1.out).mono ?_); rintro e wR ⟨rfl, hbR⟩; have hc := hc.trans (hbR.mono hc.size)) | (go_at_call 72; (with_reducible refine (nmul_any (K := K) (HN4.out.below hc) (HN4.out.below hc) HZZ.out.1 HZZ.out.2.1.2 HZZ.out.2.1.2).mono ?_); rintro e wD ⟨vD, rfl, hvD, hbD⟩; have hc := hc.trans (hbD.mono hc.size)) | (go_at_call 77; (with_reducible refine (nDen_any (HXW.out.below hc)).mono ?_); rintro e wE ⟨vE, rfl, hvE, hbE⟩; have hc := hc.trans (hbE.mono hc.size); have hvD := hvD.below hbE) | (go_at_call 89; (with_reducible refine (ncmpC (K := K) hvD hvE HZZ.out.1 HZZ.out.2.2.2.2.1 HZZ.out.2.2.2.2.2 HC2.out).mono ?_); rintro e wS ⟨rfl, hbS⟩; have hc := hc.trans (hbS.mono hc.size)) | fail)
            have HBW := Lib.hid (HBW.out.trans (hc.mono HBW.out.size))
            clear hc
            go_wp2_with fail
            exact bodyPost_ret (v := .tuple #[.string ⟨#[]⟩, .bool false]) (by simp [results, Tryz.results46, go_sem]) rfl ⟨HBW.out, .inr ⟨HNO.out, rfl⟩⟩
        · have hc2 : Int.sign ((sn : Int) * (sn : Int) - (M : Int)) = -1 := Int.sign_eq_neg_one_of_neg (by have h3 := HSN.out.1; have h4 : ((sn * sn : Nat) : Int) = (sn : Int) * (sn : Int) := Int.natCast_mul _ _; omega)
          have HC1 := Lib.hid hc2
          have HNO := Lib.hid (rfroot_no HMN.out HSN.out HSD.out (fun h => h1 h.1))
          clear h1 hc2
          go_wp2_with fail
          have hc : Below WF.heap.size WF WF.drew := (Below.refl _ _).drew
          have z0 := (HKW.out.below hc).c0
          have z1 := (HKW.out.below hc).c1
          have z2 := (HKW.out.below hc).c2
          have z3 := (HKW.out.below hc).c3
          have z4 := (KF.out.1.below hc).c0
          have z5 := (KF.out.1.below hc).c1
          go_region_with (first | (go_at_call 72; (with_reducible refine (nmul_any (K := K) (HN3.out.below hc) (HN3.out.below hc) HZZ.out.1 HZZ.out.2.1.1 HZZ.out.2.1.1).mono ?_); rintro e wP ⟨vP, rfl, hvP, hbP⟩; have hc := hc.trans (hbP.mono hc.size); have z0 := (HKW.out.below hc).c0; have z1 := (HKW.out.below hc).c1; have z2 := (HKW.out.below hc).c2; have z3 := (HKW.out.below hc).c3) | (go_at_call 89; (with_reducible refine (ncmpC (K := K) hvP (HNW.out.below hc) HZZ.out.1 HZZ.out.2.2.1 HZZ.out.2.2.2.1 HC1.out).mono ?_); rintro e wR ⟨rfl, hbR⟩; have hc := hc.trans (hbR.mono hc.size); have z0 := (HKW.out.below hc).c0; have z1 := (HKW.out.below hc).c1; have z2 := (HKW.out.below hc).c2; have z3 := (HKW.out.below hc).c3) | fail)
          all_goals
            have HBW := Lib.hid (HBW.out.trans (hc.mono HBW.out.size))
            clear hc
            go_wp2_with fail
            exact bodyPost_ret (v := .tuple #[.string ⟨#[]⟩, .bool false]) (by simp [results, Tryz.results46, go_sem]) rfl ⟨HBW.out, .inr ⟨HNO.out, rfl⟩⟩
    have hc : Below w3.heap.size w3 w3.drew := (Below.refl _ _).drew
    obtain ⟨w3za, hww3za, hxa, Z1a, -⟩ := nbox1 w3.drew #[.bool false, .slice none 0 0] 30 (cb2 false cb_nil)
    have hca := below_trans hc hxa
    have Z1a : Bb w3za w3.heap.size #[.bool false, .slice none 0 0] 30 := Z1a
    have lZ1 : w3.heap.size ≤ w3.heap.size := Nat.le_refl _
    obtain ⟨w3zb, hww3zb, hxb', Z2b, -⟩ := nbox1 w3za #[.bool false, .slice none 0 0] 30 (cb2 false cb_nil)
    have Z1b := Bb.below Z1a hxb'
    have hcb := below_trans hca hxb'
    have hxb := below_trans hxa hxb'
    have lZ2 := hca.size
    have nZ := Nat.ne_of_lt (Bb.lt Z1a)
    have mZ := Ne.symm nZ
    go_region_held3 (fun w' => w'.cell? ⟨w1.heap.size, 0, none⟩ = some (.bool false) ∧ w'.cell? ⟨w1.heap.size, 1, none⟩ = some (.slice a1 l1 p1) ∧ w'.cell? ⟨w1.heap.size, 2, none⟩ = some (.bool false) ∧ w'.cell? ⟨w1.heap.size, 3, none⟩ = some (.slice c1 m1 r1) ∧ Below w3.heap.size w3 w') (first | (with_reducible exact ⟨(HK.out.below (by assumption)).c0, (HK.out.below (by assumption)).c1, (HK.out.below (by assumption)).c2, (HK.out.below (by assumption)).c3, by assumption⟩) | fail) (first | (go_at_call 88; (with_reducible refine (nsqrt_any (HNA.out.below (by first | exact hc | exact hca | exact hcb)) HQ.out.1 HQ.out.2.1).mono ?_); rintro e wA ⟨sn, vA, hs1, hs2, rfl, hA, hbA⟩; (first | (have Z1 := Bb.below Z1a hbA) | (have Z1 := Bb.below Z1b hbA; have Z2 := Bb.below Z2b hbA) | skip); have hc := below_trans (by first | exact hc | exact hca | exact hcb) hbA; have HSN := Lib.hid (And.intro hs1 hs2); clear hs1 hs2; (try have nZA := Nat.ne_of_lt (Bb.lt Z1)); (try have mZA := Ne.symm nZA); obtain ⟨wAa, hwwAa, hxa, A1a, -⟩ := nbox1 wA #[.bool false, .slice none 0 0] 30 (cb2 false cb_nil); have hca := below_trans hc hxa; have lA1 := hc.size; obtain ⟨wAb, hwwAb, hxb', A2b, -⟩ := nbox1 wAa #[.bool false, .slice none 0 0] 30 (cb2 false cb_nil); have A1b := Bb.below A1a hxb'; have hcb := below_trans hca hxb'; have hxb := below_trans hxa hxb'; have lA2 := hca.size; have nA := Nat.ne_of_lt (Bb.lt A1a); have mA := Ne.symm nA) | (go_at_call 77; (with_reducible refine (nDen_any (HX.out.below (by first | exact hc | exact hca | exact hcb))).mono ?_); rintro e wB ⟨vB, rfl, hB, hbB⟩; (first | (have hA := hA.below hbB) | (have hA := (hA.below hxa).below hbB) | (have hA := (hA.below hxb).below hbB)); (first | (have Z1 := Bb.below Z1 hbB) | (have Z1 := Bb.below (Bb.below Z1 hxa) hbB) | (have Z1 := Bb.below (Bb.below Z1 hxb) hbB) | skip); (first | (have Z2 := Bb.below Z2 hbB) | (have Z2 := Bb.below (Bb.below Z2 hxa) hbB) | (have Z2 := Bb.below (Bb.below Z2 hxb) hbB) | skip); (first | (have A1 := Bb.below A1a hbB) | (have A1 := Bb.below A1b hbB; have A2 := Bb.below A2b hbB) | skip); have hc := below_trans (by first | exact hc | exact hca | exact hcb) hbB; (try have nZB := Nat.ne_of_lt (Bb.lt Z1)); (try have mZB := Ne.symm nZB); (try have nAB := Nat.ne_of_lt (Bb.lt A1)); (try have mAB := Ne.symm nAB); obtain ⟨wBa, hwwBa, hxa, B1a, -⟩ := nbox1 wB #[.bool false, .slice none 0 0] 30 (cb2 false cb_nil); have hca := below_trans hc hxa; have lB1 := hc.size; obtain ⟨wBb, hwwBb, hxb', B2b, -⟩ := nbox1 wBa #[.bool false, .slice none 0 0] 30 (cb2 false cb_nil); have B1b := Bb.below B1a hxb'; have hcb := below_trans hca hxb'; have hxb := below_trans hxa hxb'; have lB2 := hca.size; have nB := Nat.ne_of_lt (Bb.lt B1a); have mB := Ne.symm nB) | (go_at_call 88; (with_reducible refine (nsqrt_any (by first | exact hB | exact hB.below hxa | exact hB.below hxb) HQ.out.1 HQ.out.2.2).mono ?_); rintro e wC ⟨sd, vC, hs1, hs2, rfl, hC, hbC⟩; (first | (have hA := hA.below hbC) | (have hA := (hA.below hxa).below hbC) | (have hA := (hA.below hxb).below hbC)); (first | (have Z1 := Bb.below Z1 hbC) | (have Z1 := Bb.below (Bb.below Z1 hxa) hbC) | (have Z1 := Bb.below (Bb.below Z1 hxb) hbC) | skip); (first | (have Z2 := Bb.below Z2 hbC) | (have Z2 := Bb.below (Bb.below Z2 hxa) hbC) | (have Z2 := Bb.below (Bb.below Z2 hxb) hbC) | skip); (first | (have A1 := Bb.below A1 hbC) | (have A1 := Bb.below (Bb.below A1 hxa) hbC) | (have A1 := Bb.below (Bb.below A1 hxb) hbC) | skip); (first | (have A2 := Bb.below A2 hbC) | (have A2 := Bb.below (Bb.below A2 hxa) hbC) | (have A2 := Bb.below (Bb.below A2 hxb) hbC) | skip); (first | (have B1 := Bb.below B1a hbC) | (have B1 := Bb.below B1b hbC; have B2 := Bb.below B2b hbC) | skip); have hc := below_trans (by first | exact hc | exact hca | exact hcb) hbC; have HSD := Lib.hid (And.intro hs1 hs2); clear hs1 hs2; obtain ⟨qb, qa, qk, qc, rfl, hqb, hq1⟩ := hA.op; obtain ⟨rb, ra, rk, rc, rfl, hrb, hr1⟩ := hC.op; have hqf := nat_false hqb; have hrf := nat_false hrb; subst hqf; subst hrf; clear hqb hrb hA hC; (try have nZC := Nat.ne_of_lt (Bb.lt Z1)); (try have mZC := Ne.symm nZC); (try have nAC := Nat.ne_of_lt (Bb.lt A1)); (try have mAC := Ne.symm nAC); (try have nBC := Nat.ne_of_lt (Bb.lt B1)); (try have mBC := Ne.symm nBC); obtain ⟨wCa, hwwCa, hxa, C1a, -⟩ := nbox1 wC #[.bool false, .slice none 0 0] 30 (cb2 false cb_nil); have hca := below_trans hc hxa; have lC1 := hc.size; obtain ⟨wCb, hwwCb, hxb', C2b, -⟩ := nbox1 wCa #[.bool false, .slice none 0 0] 30 (cb2 false cb_nil); have C1b := Bb.below C1a hxb'; have hcb := below_trans hca hxb'; have hxb := below_trans hxa hxb'; have lC2 := hca.size; have nC := Nat.ne_of_lt (Bb.lt C1a); have mC := Ne.symm nC; (first | (have hP_ := Z1; have hQ_ := Z2; have hN_ := nZ; have fZ1C0 := Bb.cell Z1 0; have fZ1C1 := Bb.cell Z1 1; have fZ1C2 := Bb.frozen Z1 0; have fZ1C3 := Bb.frozen Z1 1; have fZ2C0 := Bb.cell Z2 0; have fZ2C1 := Bb.cell Z2 1; have fZ2C2 := Bb.frozen Z2 0; have fZ2C3 := Bb.frozen Z2 1; obtain ⟨y0, hy0⟩ : ∃ W, (wC.setCell ⟨w3.heap.size, 0, none⟩ (.bool false)).setCell ⟨w3.heap.size, 1, none⟩ (.slice qa qk qc) = W := ⟨_, rfl⟩; have z0 : N2 w3za.heap.size false (.slice none 0 0) y0 := (by rw [← hy0]; exact N2.o2 Z2 mZ _ _); have zc0 := z0.c0; have zd0 := z0.c1; have ze0 := z0.f 0; have zf0 := z0.f 1; have hcy0 : Below w3.heap.size w3 y0 := (by rw [← hy0]; exact Below.sn2 hc lZ1 _ _); obtain ⟨W0, hW0⟩ : ∃ W, (y0.setCell ⟨w3za.heap.size, 0, none⟩ (.bool false)).setCell ⟨w3za.heap.size, 1, none⟩ (.slice ra rk rc) = W := ⟨_, rfl⟩; obtain ⟨ka0, kb0, kq0, kr0, hcW0⟩ := two_boxes (WW := W0) hc Z1 Z2 nZ lZ1 lZ2 (hq1.below (Below.refl _ _)) (hr1.below (Below.refl _ _)) (by rw [hy0]; exact hW0); obtain ⟨y1, hy1⟩ : ∃ W, (wC.setCell ⟨w3za.heap.size, 0, none⟩ (.bool false)).setCell ⟨w3za.heap.size, 1, none⟩ (.slice qa qk qc) = W := ⟨_, rfl⟩; have z1 : N2 w3.heap.size false (.slice none 0 0) y1 := (by rw [← hy1]; exact N2.o2 Z1 nZ _ _); have zc1 := z1.c0; have zd1 := z1.c1; have ze1 := z1.f 0; have zf1 := z1.f 1; have hcy1 : Below w3.heap.size w3 y1 := (by rw [← hy1]; exact Below.sn2 hc lZ2 _ _); obtain ⟨W1, hW1⟩ : ∃ W, (y1.setCell ⟨w3.heap.size, 0, none⟩ (.bool false)).setCell ⟨w3.heap.size, 1, none⟩ (.slice ra rk rc) = W := ⟨_, rfl⟩; obtain ⟨ka1, kb1, kq1, kr1, hcW1⟩ := two_boxes (WW := W1) hc Z2 Z1 mZ lZ2 lZ1 (hq1.below (Below.refl _ _)) (hr1.below (Below.refl _ _)) (by rw [hy1]; exact hW1)) | (have hP_ := Z1; have hQ_ := A1; have hN_ := nZA; have fZ1C0 := Bb.cell Z1 0; have fZ1C1 := Bb.cell Z1 1; have fZ1C2 := Bb.frozen Z1 0; have fZ1C3 := Bb.frozen Z1 1; have fA1C0 := Bb.cell A1 0; have fA1C1 := Bb.cell A1 1; have fA1C2 := Bb.frozen A1 0; have fA1C3 := Bb.frozen A1 1; obtain ⟨y2, hy2⟩ : ∃ W, (wC.setCell ⟨w3.heap.size, 0, none⟩ (.bool false)).setCell ⟨w3.heap.size, 1, none⟩ (.slice qa qk qc) = W := ⟨_, rfl⟩; have z2 : N2 wA.heap.size false (.slice none 0 0) y2 := (by rw [← hy2]; exact N2.o2 A1 mZA _ _); have zc2 := z2.c0; have zd2 := z2.c1; have ze2 := z2.f 0; have zf2 := z2.f 1; have hcy2 : Below w3.heap.size w3 y2 := (by rw [← hy2]; exact Below.sn2 hc lZ1 _ _); obtain ⟨W2, hW2⟩ : ∃ W, (y2.setCell ⟨wA.heap.size, 0, none⟩ (.bool false)).setCell ⟨wA.heap.size, 1, none⟩ (.slice ra rk rc) = W := ⟨_, rfl⟩; obtain ⟨ka2, kb2, kq2, kr2, hcW2⟩ := two_boxes (WW := W2) hc Z1 A1 nZA lZ1 lA1 (hq1.below (Below.refl _ _)) (hr1.below (Below.refl _ _)) (by rw [hy2]; exact hW2); obtain ⟨y3, hy3⟩ : ∃ W, (wC.setCell ⟨wA.heap.size, 0, none⟩ (.bool false)).setCell ⟨wA.heap.size, 1, none⟩ (.slice qa qk qc) = W := ⟨_, rfl⟩; have z3 : N2 w3.heap.size false (.slice none 0 0) y3 := (by rw [← hy3]; exact N2.o2 Z1 nZA _ _); have zc3 := z3.c0; have zd3 := z3.c1; have ze3 := z3.f 0; have zf3 := z3.f 1; have hcy3 : Below w3.heap.size w3 y3 := (by rw [← hy3]; exact Below.sn2 hc lA1 _ _); obtain ⟨W3, hW3⟩ : ∃ W, (y3.setCell ⟨w3.heap.size, 0, none⟩ (.bool false)).setCell ⟨w3.heap.size, 1, none⟩ (.slice ra rk rc) = W := ⟨_, rfl⟩; obtain ⟨ka3, kb3, kq3, kr3, hcW3⟩ := two_boxes (WW := W3) hc A1 Z1 mZA lA1 lZ1 (hq1.below (Below.refl _ _)) (hr1.below (Below.refl _ _)) (by rw [hy3]; exact hW3)) | (have hP_ := Z1; have hQ_ := B1; have hN_ := nZB; have fZ1C0 := Bb.cell Z1 0; have fZ1C1 := Bb.cell Z1 1; have fZ1C2 := Bb.frozen Z1 0; have fZ1C3 := Bb.frozen Z1 1; have fB1C0 := Bb.cell B1 0; have fB1C1 := Bb.cell B1 1; have fB1C2 := Bb.frozen B1 0; have fB1C3 := Bb.frozen B1 1; obtain ⟨y4, hy4⟩ : ∃ W, (wC.setCell ⟨w3.heap.size, 0, none⟩ (.bool false)).setCell ⟨w3.heap.size, 1, none⟩ (.slice qa qk qc) = W := ⟨_, rfl⟩; have z4 : N2 wB.heap.size false (.slice none 0 0) y4 := (by rw [← hy4]; exact N2.o2 B1 mZB _ _); have zc4 := z4.c0; have zd4 := z4.c1; have ze4 := z4.f 0; have zf4 := z4.f 1; have hcy4 : Below w3.heap.size w3 y4 := (by rw [← hy4]; exact Below.sn2 hc lZ1 _ _); obtain ⟨W4, hW4⟩ : ∃ W, (y4.setCell ⟨wB.heap.size, 0, none⟩ (.bool false)).setCell ⟨wB.heap.size, 1, none⟩ (.slice ra rk rc) = W := ⟨_, rfl⟩; obtain ⟨ka4, kb4, kq4, kr4, hcW4⟩ := two_boxes (WW := W4) hc Z1 B1 nZB lZ1 lB1 (hq1.below (Below.refl _ _)) (hr1.below (Below.refl _ _)) (by rw [hy4]; exact hW4); obtain ⟨y5, hy5⟩ : ∃ W, (wC.setCell ⟨wB.heap.size, 0, none⟩ (.bool false)).setCell ⟨wB.heap.size, 1, none⟩ (.slice qa qk qc) = W := ⟨_, rfl⟩; have z5 : N2 w3.heap.size false (.slice none 0 0) y5 := (by rw [← hy5]; exact N2.o2 Z1 nZB _ _); have zc5 := z5.c0; have zd5 := z5.c1; have ze5 := z5.f 0; have zf5 := z5.f 1; have hcy5 : Below w3.heap.size w3 y5 := (by rw [← hy5]; exact Below.sn2 hc lB1 _ _); obtain ⟨W5, hW5⟩ : ∃ W, (y5.setCell ⟨w3.heap.size, 0, none⟩ (.bool false)).setCell ⟨w3.heap.size, 1, none⟩ (.slice ra rk rc) = W := ⟨_, rfl⟩; obtain ⟨ka5, kb5, kq5, kr5, hcW5⟩ := two_boxes (WW := W5) hc B1 Z1 mZB lB1 lZ1 (hq1.below (Below.refl _ _)) (hr1.below (Below.refl _ _)) (by rw [hy5]; exact hW5)) | (have hP_ := A1; have hQ_ := A2; have hN_ := nA; have fA1C0 := Bb.cell A1 0; have fA1C1 := Bb.cell A1 1; have fA1C2 := Bb.frozen A1 0; have fA1C3 := Bb.frozen A1 1; have fA2C0 := Bb.cell A2 0; have fA2C1 := Bb.cell A2 1; have fA2C2 := Bb.frozen A2 0; have fA2C3 := Bb.frozen A2 1; obtain ⟨y8, hy8⟩ : ∃ W, (wC.setCell ⟨wA.heap.size, 0, none⟩ (.bool false)).setCell ⟨wA.heap.size, 1, none⟩ (.slice qa qk qc) = W := ⟨_, rfl⟩; have z8 : N2 wAa.heap.size false (.slice none 0 0) y8 := (by rw [← hy8]; exact N2.o2 A2 mA _ _); have zc8 := z8.c0; have zd8 := z8.c1; have ze8 := z8.f 0; have zf8 := z8.f 1; have hcy8 : Below w3.heap.size w3 y8 := (by rw [← hy8]; exact Below.sn2 hc lA1 _ _); obtain ⟨W8, hW8⟩ : ∃ W, (y8.setCell ⟨wAa.heap.size, 0, none⟩ (.bool false)).setCell ⟨wAa.heap.size, 1, none⟩ (.slice ra rk rc) = W := ⟨_, rfl⟩; obtain ⟨ka8, kb8, kq8, kr8, hcW8⟩ := two_boxes (WW := W8) hc A1 A2 nA lA1 lA2 (hq1.below (Below.refl _ _)) (hr1.below (Below.refl _ _)) (by rw [hy8]; exact hW8); obtain ⟨y9, hy9⟩ : ∃ W, (wC.setCell ⟨wAa.heap.size, 0, none⟩ (.bool false)).setCell ⟨wAa.heap.size, 1, none⟩ (.slice qa qk qc) = W := ⟨_, rfl⟩; have z9 : N2 wA.heap.size false (.slice none 0 0) y9 := (by rw [← hy9]; exact N2.o2 A1 nA _ _); have zc9 := z9.c0; have zd9 := z9.c1; have ze9 := z9.f 0; have zf9 := z9.f 1; have hcy9 : Below w3.heap.size w3 y9 := (by rw [← hy9]; exact Below.sn2 hc lA2 _ _); obtain ⟨W9, hW9⟩ : ∃ W, (y9.setCell ⟨wA.heap.size, 0, none⟩ (.bool false)).setCell ⟨wA.heap.size, 1, none⟩ (.slice ra rk rc) = W := ⟨_, rfl⟩; obtain ⟨ka9, kb9, kq9, kr9, hcW9⟩ := two_boxes (WW := W9) hc A2 A1 mA lA2 lA1 (hq1.below (Below.refl _ _)) (hr1.below (Below.refl _ _)) (by rw [hy9]; exact hW9)) | (have hP_ := A1; have hQ_ := B1; have hN_ := nAB; have fA1C0 := Bb.cell A1 0; have fA1C1 := Bb.cell A1 1; have fA1C2 := Bb.frozen A1 0; have fA1C3 := Bb.frozen A1 1; have fB1C0 := Bb.cell B1 0; have fB1C1 := Bb.cell B1 1; have fB1C2 := Bb.frozen B1 0; have fB1C3 := Bb.frozen B1 1; obtain ⟨y10, hy10⟩ : ∃ W, (wC.setCell ⟨wA.heap.size, 0, none⟩ (.bool false)).setCell ⟨wA.heap.size, 1, none⟩ (.slice qa qk qc) = W := ⟨_, rfl⟩; have z10 : N2 wB.heap.size false (.slice none 0 0) y10 := (by rw [← hy10]; exact N2.o2 B1 mAB _ _); have zc10 := z10.c0; have zd10 := z10.c1; have ze10 := z10.f 0; have zf10 := z10.f 1; have hcy10 : Below w3.heap.size w3 y10 := (by rw [← hy10]; exact Below.sn2 hc lA1 _ _); obtain ⟨W10, hW10⟩ : ∃ W, (y10.setCell ⟨wB.heap.size, 0, none⟩ (.bool false)).setCell ⟨wB.heap.size, 1, none⟩ (.slice ra rk rc) = W := ⟨_, rfl⟩; obtain ⟨ka10, kb10, kq10, kr10, hcW10⟩ := two_boxes (WW := W10) hc A1 B1 nAB lA1 lB1 (hq1.below (Below.refl _ _)) (hr1.below (Below.refl _ _)) (by rw [hy10]; exact hW10); obtain ⟨y11, hy11⟩ : ∃ W, (wC.setCell ⟨wB.heap.size, 0, none⟩ (.bool false)).setCell ⟨wB.heap.size, 1, none⟩ (.slice qa qk qc) = W := ⟨_, rfl⟩; have z11 : N2 wA.heap.size false (.slice none 0 0) y11 := (by rw [← hy11]; exact N2.o2 A1 nAB _ _); have zc11 := z11.c0; have zd11 := z11.c1; have ze11 := z11.f 0; have zf11 := z11.f 1; have hcy11 : Below w3.heap.size w3 y11 := (by rw [← hy11]; exact Below.sn2 hc lB1 _ _); obtain ⟨W11, hW11⟩ : ∃ W, (y11.setCell ⟨wA.heap.size, 0, none⟩ (.bool false)).setCell ⟨wA.heap.size, 1, none⟩ (.slice ra rk rc) = W := ⟨_, rfl⟩; obtain ⟨ka11, kb11, kq11, kr11, hcW11⟩ := two_boxes (WW := W11) hc B1 A1 mAB lB1 lA1 (hq1.below (Below.refl _ _)) (hr1.below (Below.refl _ _)) (by rw [hy11]; exact hW11)) | (have hP_ := B1; have hQ_ := B2; have hN_ := nB; have fB1C0 := Bb.cell B1 0; have fB1C1 := Bb.cell B1 1; have fB1C2 := Bb.frozen B1 0; have fB1C3 := Bb.frozen B1 1; have fB2C0 := Bb.cell B2 0; have fB2C1 := Bb.cell B2 1; have fB2C2 := Bb.frozen B2 0; have fB2C3 := Bb.frozen B2 1; obtain ⟨y14, hy14⟩ : ∃ W, (wC.setCell ⟨wB.heap.size, 0, none⟩ (.bool false)).setCell ⟨wB.heap.size, 1, none⟩ (.slice qa qk qc) = W := ⟨_, rfl⟩; have z14 : N2 wBa.heap.size false (.slice none 0 0) y14 := (by rw [← hy14]; exact N2.o2 B2 mB _ _); have zc14 := z14.c0; have zd14 := z14.c1; have ze14 := z14.f 0; have zf14 := z14.f 1; have hcy14 : Below w3.heap.size w3 y14 := (by rw [← hy14]; exact Below.sn2 hc lB1 _ _); obtain ⟨W14, hW14⟩ : ∃ W, (y14.setCell ⟨wBa.heap.size, 0, none⟩ (.bool false)).setCell ⟨wBa.heap.size, 1, none⟩ (.slice ra rk rc) = W := ⟨_, rfl⟩; obtain ⟨ka14, kb14, kq14, kr14, hcW14⟩ := two_boxes (WW := W14) hc B1 B2 nB lB1 lB2 (hq1.below (Below.refl _ _)) (hr1.below (Below.refl _ _)) (by rw [hy14]; exact hW14); obtain ⟨y15, hy15⟩ : ∃ W, (wC.setCell ⟨wBa.heap.size, 0, none⟩ (.bool false)).setCell ⟨wBa.heap.size, 1, none⟩ (.slice qa qk qc) = W := ⟨_, rfl⟩; have z15 : N2 wB.heap.size false (.slice none 0 0) y15 := (by rw [← hy15]; exact N2.o2 B1 nB _ _); have zc15 := z15.c0; have zd15 := z15.c1; have ze15 := z15.f 0; have zf15 := z15.f 1; have hcy15 : Below w3.heap.size w3 y15 := (by rw [← hy15]; exact Below.sn2 hc lB2 _ _); obtain ⟨W15, hW15⟩ : ∃ W, (y15.setCell ⟨wB.heap.size, 0, none⟩ (.bool false)).setCell ⟨wB.heap.size, 1, none⟩ (.slice ra rk rc) = W := ⟨_, rfl⟩; obtain ⟨ka15, kb15, kq15, kr15, hcW15⟩ := two_boxes (WW := W15) hc B2 B1 mB lB2 lB1 (hq1.below (Below.refl _ _)) (hr1.below (Below.refl _ _)) (by rw [hy15]; exact hW15)) | (have hP_ := (Bb.below Z1 hxa); have hQ_ := C1a; have hN_ := nZC; have fZ1Ca0 := Bb.cell (Bb.below Z1 hxa) 0; have fZ1Ca1 := Bb.cell (Bb.below Z1 hxa) 1; have fZ1Ca2 := Bb.frozen (Bb.below Z1 hxa) 0; have fZ1Ca3 := Bb.frozen (Bb.below Z1 hxa) 1; have fC1Ca0 := Bb.cell C1a 0; have fC1Ca1 := Bb.cell C1a 1; have fC1Ca2 := Bb.frozen C1a 0; have fC1Ca3 := Bb.frozen C1a 1; obtain ⟨y6, hy6⟩ : ∃ W, (wCa.setCell ⟨w3.heap.size, 0, none⟩ (.bool false)).setCell ⟨w3.heap.size, 1, none⟩ (.slice qa qk qc) = W := ⟨_, rfl⟩; have z6 : N2 wC.heap.size false (.slice none 0 0) y6 := (by rw [← hy6]; exact N2.o2 C1a mZC _ _); have zc6 := z6.c0; have zd6 := z6.c1; have ze6 := z6.f 0; have zf6 := z6.f 1; have hcy6 : Below w3.heap.size w3 y6 := (by rw [← hy6]; exact Below.sn2 hca lZ1 _ _); obtain ⟨W6, hW6⟩ : ∃ W, (y6.setCell ⟨wC.heap.size, 0, none⟩ (.bool false)).setCell ⟨wC.heap.size, 1, none⟩ (.slice ra rk rc) = W := ⟨_, rfl⟩; obtain ⟨ka6, kb6, kq6, kr6, hcW6⟩ := two_boxes (WW := W6) hca (Bb.below Z1 hxa) C1a nZC lZ1 lC1 (hq1.below hxa) (hr1.below hxa) (by rw [hy6]; exact hW6); obtain ⟨y7, hy7⟩ : ∃ W, (wCa.setCell ⟨wC.heap.size, 0, none⟩ (.bool false)).setCell ⟨wC.heap.size, 1, none⟩ (.slice qa qk qc) = W := ⟨_, rfl⟩; have z7 : N2 w3.heap.size false (.slice none 0 0) y7 := (by rw [← hy7]; exact N2.o2 (Bb.below Z1 hxa) nZC _ _); have zc7 := z7.c0; have zd7 := z7.c1; have ze7 := z7.f 0; have zf7 := z7.f 1; have hcy7 : Below w3.heap.size w3 y7 := (by rw [← hy7]; exact Below.sn2 hca lC1 _ _); obtain ⟨W7, hW7⟩ : ∃ W, (y7.setCell ⟨w3.heap.size, 0, none⟩ (.bool false)).setCell ⟨w3.heap.size, 1, none⟩ (.slice ra rk rc) = W := ⟨_, rfl⟩; obtain ⟨ka7, kb7, kq7, kr7, hcW7⟩ := two_boxes (WW := W7) hca C1a (Bb.below Z1 hxa) mZC lC1 lZ1 (hq1.below hxa) (hr1.below hxa) (by rw [hy7]; exact hW7)) | (have hP_ := (Bb.below A1 hxa); have hQ_ := C1a; have hN_ := nAC; have fA1Ca0 := Bb.cell (Bb.below A1 hxa) 0; have fA1Ca1 := Bb.cell (Bb.below A1 hxa) 1; have fA1Ca2 := Bb.frozen (Bb.below A1 hxa) 0; have fA1Ca3 := Bb.frozen (Bb.below A1 hxa) 1; have fC1Ca0 := Bb.cell C1a 0; have fC1Ca1 := Bb.cell C1a 1; have fC1Ca2 := Bb.frozen C1a 0; have fC1Ca3 := Bb.frozen C1a 1; obtain ⟨y12, hy12⟩ : ∃ W, (wCa.setCell ⟨wA.heap.size, 0, none⟩ (.bool false)).setCell ⟨wA.heap.size, 1, none⟩ (.slice qa qk qc) = W := ⟨_, rfl⟩; have z12 : N2 wC.heap.size false (.slice none 0 0) y12 := (by rw [← hy12]; exact N2.o2 C1a mAC _ _); have zc12 := z12.c0; have zd12 := z12.c1; have ze12 := z12.f 0; have zf12 := z12.f 1; have hcy12 : Below w3.heap.size w3 y12 := (by rw [← hy12]; exact Below.sn2 hca lA1 _ _); obtain ⟨W12, hW12⟩ : ∃ W, (y12.setCell ⟨wC.heap.size, 0, none⟩ (.bool false)).setCell ⟨wC.heap.size, 1, none⟩ (.slice ra rk rc) = W := ⟨_, rfl⟩; obtain ⟨ka12, kb12, kq12, kr12, hcW12⟩ := two_boxes (WW := W12) hca (Bb.below A1 hxa) C1a nAC lA1 lC1 (hq1.below hxa) (hr1.below hxa) (by rw [hy12]; exact hW12); obtain ⟨y13, hy13⟩ : ∃ W, (wCa.setCell ⟨wC.heap.size, 0, none⟩ (.bool false)).setCell ⟨wC.heap.size, 1, none⟩ (.slice qa qk qc) = W := ⟨_, rfl⟩; have z13 : N2 wA.heap.size false (.slice none 0 0) y13 := (by rw [← hy13]; exact N2.o2 (Bb.below A1 hxa) nAC _ _); have zc13 := z13.c0; have zd13 := z13.c1; have ze13 := z13.f 0; have zf13 := z13.f 1; have hcy13 : Below w3.heap.size w3 y13 := (by rw [← hy13]; exact Below.sn2 hca lC1 _ _); obtain ⟨W13, hW13⟩ : ∃ W, (y13.setCell ⟨wA.heap.size, 0, none⟩ (.bool false)).setCell ⟨wA.heap.size, 1, none⟩ (.slice ra rk rc) = W := ⟨_, rfl⟩; obtain ⟨ka13, kb13, kq13, kr13, hcW13⟩ := two_boxes (WW := W13) hca C1a (Bb.below A1 hxa) mAC lC1 lA1 (hq1.below hxa) (hr1.below hxa) (by rw [hy13]; exact hW13)) | (have hP_ := (Bb.below B1 hxa); have hQ_ := C1a; have hN_ := nBC; have fB1Ca0 := Bb.cell (Bb.below B1 hxa) 0; have fB1Ca1 := Bb.cell (Bb.below B1 hxa) 1; have fB1Ca2 := Bb.frozen (Bb.below B1 hxa) 0; have fB1Ca3 := Bb.frozen (Bb.below B1 hxa) 1; have fC1Ca0 := Bb.cell C1a 0; have fC1Ca1 := Bb.cell C1a 1; have fC1Ca2 := Bb.frozen C1a 0; have fC1Ca3 := Bb.frozen C1a 1; obtain ⟨y16, hy16⟩ : ∃ W, (wCa.setCell ⟨wB.heap.size, 0, none⟩ (.bool false)).setCell ⟨wB.heap.size, 1, none⟩ (.slice qa qk qc) = W := ⟨_, rfl⟩; have z16 : N2 wC.heap.size false (.slice none 0 0) y16 := (by rw [← hy16]; exact N2.o2 C1a mBC _ _); have zc16 := z16.c0; have zd16 := z16.c1; have ze16 := z16.f 0; have zf16 := z16.f 1; have hcy16 : Below w3.heap.size w3 y16 := (by rw [← hy16]; exact Below.sn2 hca lB1 _ _); obtain ⟨W16, hW16⟩ : ∃ W, (y16.setCell ⟨wC.heap.size, 0, none⟩ (.bool false)).setCell ⟨wC.heap.size, 1, none⟩ (.slice ra rk rc) = W := ⟨_, rfl⟩; obtain ⟨ka16, kb16, kq16, kr16, hcW16⟩ := two_boxes (WW := W16) hca (Bb.below B1 hxa) C1a nBC lB1 lC1 (hq1.below hxa) (hr1.below hxa) (by rw [hy16]; exact hW16); obtain ⟨y17, hy17⟩ : ∃ W, (wCa.setCell ⟨wC.heap.size, 0, none⟩ (.bool false)).setCell ⟨wC.heap.size, 1, none⟩ (.slice qa qk qc) = W := ⟨_, rfl⟩; have z17 : N2 wB.heap.size false (.slice none 0 0) y17 := (by rw [← hy17]; exact N2.o2 (Bb.below B1 hxa) nBC _ _); have zc17 := z17.c0; have zd17 := z17.c1; have ze17 := z17.f 0; have zf17 := z17.f 1; have hcy17 : Below w3.heap.size w3 y17 := (by rw [← hy17]; exact Below.sn2 hca lC1 _ _); obtain ⟨W17, hW17⟩ : ∃ W, (y17.setCell ⟨wB.heap.size, 0, none⟩ (.bool false)).setCell ⟨wB.heap.size, 1, none⟩ (.slice ra rk rc) = W := ⟨_, rfl⟩; obtain ⟨ka17, kb17, kq17, kr17, hcW17⟩ := two_boxes (WW := W17) hca C1a (Bb.below B1 hxa) mBC lC1 lB1 (hq1.below hxa) (hr1.below hxa) (by rw [hy17]; exact hW17)) | (have hP_ := C1b; have hQ_ := C2b; have hN_ := nC; have fC1Cb0 := Bb.cell C1b 0; have fC1Cb1 := Bb.cell C1b 1; have fC1Cb2 := Bb.frozen C1b 0; have fC1Cb3 := Bb.frozen C1b 1; have fC2Cb0 := Bb.cell C2b 0; have fC2Cb1 := Bb.cell C2b 1; have fC2Cb2 := Bb.frozen C2b 0; have fC2Cb3 := Bb.frozen C2b 1; obtain ⟨y18, hy18⟩ : ∃ W, (wCb.setCell ⟨wC.heap.size, 0, none⟩ (.bool false)).setCell ⟨wC.heap.size, 1, none⟩ (.slice qa qk qc) = W := ⟨_, rfl⟩; have z18 : N2 wCa.heap.size false (.slice none 0 0) y18 := (by rw [← hy18]; exact N2.o2 C2b mC _ _); have zc18 := z18.c0; have zd18 := z18.c1; have ze18 := z18.f 0; have zf18 := z18.f 1; have hcy18 : Below w3.heap.size w3 y18 := (by rw [← hy18]; exact Below.sn2 hcb lC1 _ _); obtain ⟨W18, hW18⟩ : ∃ W, (y18.setCell ⟨wCa.heap.size, 0, none⟩ (.bool false)).setCell ⟨wCa.heap.size, 1, none⟩ (.slice ra rk rc) = W := ⟨_, rfl⟩; obtain ⟨ka18, kb18, kq18, kr18, hcW18⟩ := two_boxes (WW := W18) hcb C1b C2b nC lC1 lC2 (hq1.below hxb) (hr1.below hxb) (by rw [hy18]; exact hW18); obtain ⟨y19, hy19⟩ : ∃ W, (wCb.setCell ⟨wCa.heap.size, 0, none⟩ (.bool false)).setCell ⟨wCa.heap.size, 1, none⟩ (.slice qa qk qc) = W := ⟨_, rfl⟩; have z19 : N2 wC.heap.size false (.slice none 0 0) y19 := (by rw [← hy19]; exact N2.o2 C1b nC _ _); have zc19 := z19.c0; have zd19 := z19.c1; have ze19 := z19.f 0; have zf19 := z19.f 1; have hcy19 : Below w3.heap.size w3 y19 := (by rw [← hy19]; exact Below.sn2 hcb lC2 _ _); obtain ⟨W19, hW19⟩ : ∃ W, (y19.setCell ⟨wC.heap.size, 0, none⟩ (.bool false)).setCell ⟨wC.heap.size, 1, none⟩ (.slice ra rk rc) = W := ⟨_, rfl⟩; obtain ⟨ka19, kb19, kq19, kr19, hcW19⟩ := two_boxes (WW := W19) hcb C2b C1b mC lC2 lC1 (hq1.below hxb) (hr1.below hxb) (by rw [hy19]; exact hW19))); clear hq1 hr1) | fail)
    all_goals first
      | (with_reducible (refine (show Exit.then _ _ _ _ W0 from ?_)); exact REST _ _ _ _ _ _ _ _ _ _ _ W0 (Lib.hid (And.intro ka0 (And.intro kb0 (And.intro kq0 kr0)))) (Lib.hid hcW0) HSN HSD)
      | (with_reducible (refine (show Exit.then _ _ _ _ W1 from ?_)); exact REST _ _ _ _ _ _ _ _ _ _ _ W1 (Lib.hid (And.intro ka1 (And.intro kb1 (And.intro kq1 kr1)))) (Lib.hid hcW1) HSN HSD)
      | (with_reducible (refine (show Exit.then _ _ _ _ W2 from ?_)); exact REST _ _ _ _ _ _ _ _ _ _ _ W2 (Lib.hid (And.intro ka2 (And.intro kb2 (And.intro kq2 kr2)))) (Lib.hid hcW2) HSN HSD)
      | (with_reducible (refine (show Exit.then _ _ _ _ W3 from ?_)); exact REST _ _ _ _ _ _ _ _ _ _ _ W3 (Lib.hid (And.intro ka3 (And.intro kb3 (And.intro kq3 kr3)))) (Lib.hid hcW3) HSN HSD)
      | (with_reducible (refine (show Exit.then _ _ _ _ W4 from ?_)); exact REST _ _ _ _ _ _ _ _ _ _ _ W4 (Lib.hid (And.intro ka4 (And.intro kb4 (And.intro kq4 kr4)))) (Lib.hid hcW4) HSN HSD)
      | (with_reducible (refine (show Exit.then _ _ _ _ W5 from ?_)); exact REST _ _ _ _ _ _ _ _ _ _ _ W5 (Lib.hid (And.intro ka5 (And.intro kb5 (And.intro kq5 kr5)))) (Lib.hid hcW5) HSN HSD)
      | (with_reducible (refine (show Exit.then _ _ _ _ W6 from ?_)); exact REST _ _ _ _ _ _ _ _ _ _ _ W6 (Lib.hid (And.intro ka6 (And.intro kb6 (And.intro kq6 kr6)))) (Lib.hid hcW6) HSN HSD)
      | (with_reducible (refine (show Exit.then _ _ _ _ W7 from ?_)); exact REST _ _ _ _ _ _ _ _ _ _ _ W7 (Lib.hid (And.intro ka7 (And.intro kb7 (And.intro kq7 kr7)))) (Lib.hid hcW7) HSN HSD)
      | (with_reducible (refine (show Exit.then _ _ _ _ W8 from ?_)); exact REST _ _ _ _ _ _ _ _ _ _ _ W8 (Lib.hid (And.intro ka8 (And.intro kb8 (And.intro kq8 kr8)))) (Lib.hid hcW8) HSN HSD)
      | (with_reducible (refine (show Exit.then _ _ _ _ W9 from ?_)); exact REST _ _ _ _ _ _ _ _ _ _ _ W9 (Lib.hid (And.intro ka9 (And.intro kb9 (And.intro kq9 kr9)))) (Lib.hid hcW9) HSN HSD)
      | (with_reducible (refine (show Exit.then _ _ _ _ W10 from ?_)); exact REST _ _ _ _ _ _ _ _ _ _ _ W10 (Lib.hid (And.intro ka10 (And.intro kb10 (And.intro kq10 kr10)))) (Lib.hid hcW10) HSN HSD)
      | (with_reducible (refine (show Exit.then _ _ _ _ W11 from ?_)); exact REST _ _ _ _ _ _ _ _ _ _ _ W11 (Lib.hid (And.intro ka11 (And.intro kb11 (And.intro kq11 kr11)))) (Lib.hid hcW11) HSN HSD)
      | (with_reducible (refine (show Exit.then _ _ _ _ W12 from ?_)); exact REST _ _ _ _ _ _ _ _ _ _ _ W12 (Lib.hid (And.intro ka12 (And.intro kb12 (And.intro kq12 kr12)))) (Lib.hid hcW12) HSN HSD)
      | (with_reducible (refine (show Exit.then _ _ _ _ W13 from ?_)); exact REST _ _ _ _ _ _ _ _ _ _ _ W13 (Lib.hid (And.intro ka13 (And.intro kb13 (And.intro kq13 kr13)))) (Lib.hid hcW13) HSN HSD)
      | (with_reducible (refine (show Exit.then _ _ _ _ W14 from ?_)); exact REST _ _ _ _ _ _ _ _ _ _ _ W14 (Lib.hid (And.intro ka14 (And.intro kb14 (And.intro kq14 kr14)))) (Lib.hid hcW14) HSN HSD)
      | (with_reducible (refine (show Exit.then _ _ _ _ W15 from ?_)); exact REST _ _ _ _ _ _ _ _ _ _ _ W15 (Lib.hid (And.intro ka15 (And.intro kb15 (And.intro kq15 kr15)))) (Lib.hid hcW15) HSN HSD)
      | (with_reducible (refine (show Exit.then _ _ _ _ W16 from ?_)); exact REST _ _ _ _ _ _ _ _ _ _ _ W16 (Lib.hid (And.intro ka16 (And.intro kb16 (And.intro kq16 kr16)))) (Lib.hid hcW16) HSN HSD)
      | (with_reducible (refine (show Exit.then _ _ _ _ W17 from ?_)); exact REST _ _ _ _ _ _ _ _ _ _ _ W17 (Lib.hid (And.intro ka17 (And.intro kb17 (And.intro kq17 kr17)))) (Lib.hid hcW17) HSN HSD)
      | (with_reducible (refine (show Exit.then _ _ _ _ W18 from ?_)); exact REST _ _ _ _ _ _ _ _ _ _ _ W18 (Lib.hid (And.intro ka18 (And.intro kb18 (And.intro kq18 kr18)))) (Lib.hid hcW18) HSN HSD)
      | (with_reducible (refine (show Exit.then _ _ _ _ W19 from ?_)); exact REST _ _ _ _ _ _ _ _ _ _ _ W19 (Lib.hid (And.intro ka19 (And.intro kb19 (And.intro kq19 kr19)))) (Lib.hid hcW19) HSN HSD)
      | fail
end Go.Proofs.YtekghemhccfhkaaGreatDoor
namespace Go.Big
open Go Go.RowKit
theorem bits_ex (m : Nat) : ∃ k, IsBits m k := by
  induction m with
  | zero => exact ⟨0, by decide, fun h => absurd h (by decide)⟩
  | succ m ih =>
    obtain ⟨k, h1, h2⟩ := ih
    by_cases h : m + 1 < 2 ^ k
    · exact ⟨k, h, fun h0 => Nat.le_succ_of_le (h2 h0)⟩
    · refine ⟨k + 1, by rw [Nat.pow_succ]; have : 0 < 2 ^ k := Nat.pow_pos (by decide); omega, fun _ => by simp; omega⟩
theorem bits_uniq {m k l : Nat} (h : IsBits m k) (h' : IsBits m l) : k = l := by
  obtain ⟨a1, a2⟩ := h
  obtain ⟨b1, b2⟩ := h'
  rcases Nat.lt_trichotomy k l with g | g | g
  · have h1 := b2 (by omega)
    have h2 : 2 ^ k ≤ 2 ^ (l - 1) := Nat.pow_le_pow_right (by decide) (by omega)
    omega
  · exact g
  · have h1 := a2 (by omega)
    have h2 : 2 ^ l ≤ 2 ^ (k - 1) := Nat.pow_le_pow_right (by decide) (by omega)
    omega
theorem bits_bl {m L : Nat} (h : m = 0 ∧ L = 0 ∨ 0 < m ∧ 1 ≤ L ∧ 2 ^ (L - 1) ≤ m ∧ m < 2 ^ L ∧ L ≤ 70368744177664) : IsBits m L := by
  rcases h with ⟨rfl, rfl⟩ | ⟨_, _, h1, h2, _⟩
  · exact ⟨by decide, fun h => absurd h (by decide)⟩
  · exact ⟨h2, fun _ => h1⟩
end Go.Big
namespace Go.Proofs.YtekghemhccfhkaaGreatDoor
open Go.RowKit Go.Big
theorem ceil_size {q : Rat} {K : Nat} (hK : K ≤ 31) (h : Sz K q) : (-(-q).floor).natAbs < B64 ^ 31 := by
  rw [Int.natAbs_neg]; exact floor_size hK h.neg
theorem floor_sn {q : Rat} {K : Nat} (hK : K ≤ 31) (h : Sz K q) : Sn 62 (q.floor : Rat) := by
  have h1 := floor_size hK h
  have e : B64 ^ 31 = B32 ^ 62 := b64_32 31
  unfold Sn
  rw [Rat.num_intCast, Rat.den_intCast, ← e]
  exact ⟨h1, Nat.lt_of_lt_of_le (by decide : 1 < B64 ^ 1) (Nat.pow_le_pow_right (by decide) (by decide))⟩
theorem ceil_sn {q : Rat} {K : Nat} (hK : K ≤ 31) (h : Sz K q) : Sn 62 ((-(-q).floor : Int) : Rat) := by
  have h1 := floor_sn hK h.neg
  unfold Sn at *
  rw [Rat.num_intCast, Rat.den_intCast] at *
  rw [Int.natAbs_neg]; exact h1
theorem nbitsN {v : Value} {n : Int} {k : Nat} {w : World} (h : NumV w v n) (hk : IsBits n.natAbs k) : Calls Tryz.prog 95 #[v] w (RetI w (k : Int)) := by
  refine (nbits_any h).mono ?_
  rintro e w' ⟨l, rfl, hl, hb⟩
  rw [bits_uniq hl hk]; exact ⟨rfl, hb⟩
theorem bitLenN {v : Value} {n : Int} {k : Nat} {w : World} (h : IntV w v n) (hk : IsBits n.natAbs k) : Calls Tryz.prog 94 #[v] w (RetI w (k : Int)) := by
  refine (bitLenI_any h).mono ?_
  rintro e w' ⟨l, rfl, hb, hl⟩
  rw [bits_uniq (bits_bl hl) hk]; exact ⟨rfl, hb⟩
set_option maxRecDepth 100000 in
set_option maxHeartbeats 4000000 in
/-- rational.Ceil -/
theorem ceilC {s S : ByteArray} {K : Nat} (hs : s.size ≤ 608) (hK : K ≤ 31) (s1 : Sz K (qv s)) (hS : rs ((-(-qv s).floor : Int) : Rat) = S) {w : World} (hT : TabsA w) : Calls Tryz.prog 49 #[.string s] w (RetB w S) := by
  have HL := Lib.hid hs
  have HK := Lib.hid hK
  have HR := Lib.hid s1
  have HT := Lib.hid hT
  have HS := Lib.hid hS
  clear hT hs hK s1 hS
  go_enter Tryz.func49, Tryz.ntmps49
  go_wp2_with fail
  refine (value_any s HL.out _ HT.out.1).mono ?_
  rintro e w1 ⟨v1, rfl, hv1, hb1⟩
  have HV1 := Lib.hid hv1
  have HT := Lib.hid (HT.out.below hb1)
  have HB := Lib.hid hb1
  clear hv1 hb1
  go_wp2_with fail
  refine (negF_any HV1.out).mono ?_
  rintro e w2 ⟨v2, rfl, hv2, hb2⟩
  have HV2 := Lib.hid hv2
  have HT := Lib.hid (HT.out.below hb2)
  have HB := Lib.hid (below_trans HB.out hb2)
  clear hv2 hb2
  go_wp2_with fail
  refine (floorF_any HV2.out (show K < 239 by have := HK.out; omega) HR.out.neg).mono ?_
  rintro e w3 ⟨v3, rfl, hv3, hb3⟩
  have HV3 := Lib.hid hv3
  have HT := Lib.hid (HT.out.below hb3)
  have HB := Lib.hid (below_trans HB.out hb3)
  clear hv3 hb3
  go_wp2_with fail
  refine (negI_any HV3.out).mono ?_
  rintro e w4 ⟨v4, rfl, hv4, hb4⟩
  have HV4 := Lib.hid hv4
  have HT := Lib.hid (HT.out.below hb4)
  have HB := Lib.hid (below_trans HB.out hb4)
  clear hv4 hb4
  go_wp2_with fail
  refine (stringC HV4.out HT.out (ceil_size HK.out HR.out) HS.out).mono ?_
  rintro e w5 ⟨rfl, hb5⟩
  have HB := Lib.hid (below_trans HB.out hb5)
  clear hb5
  go_wp2_with fail
  go_ret
  exact ⟨rfl, HB.out⟩
set_option maxRecDepth 100000 in
set_option maxHeartbeats 4000000 in
/-- rational.Bits -/
theorem bitsC {s : ByteArray} {q : Rat} {LN LD : Nat} (hs : s.size ≤ 608) (hq : qv s = q) (h1 : IsBits q.num.natAbs LN) (h2 : IsBits q.den LD) (hl : LN + LD < 1000000) {w : World} (hT : TabsA w) : Calls Tryz.prog 53 #[.string s] w (RetI w ((LN + LD : Nat) : Int)) := by
  have HL := Lib.hid hs
  have HT := Lib.hid hT
  have HQ := Lib.hid (And.intro hq (And.intro h1 (show IsBits ((q.den : Nat) : Int).natAbs LD by rw [Int.natAbs_natCast]; exact h2)))
  clear hT hs h1 h2 hq
  go_enter Tryz.func53, Tryz.ntmps53
  go_wp2_with fail
  refine (value_any s HL.out _ HT.out.1).mono ?_
  rintro e w1 ⟨v1, rfl, ⟨a, p, b, r, rfl, h1, h2⟩, hb1⟩
  rw [HQ.out.1] at h1 h2
  obtain ⟨w2, hw2, hb2, k1, hz2⟩ := box1 w1 #[.int .i64 a, .pointer p, .int .i64 b, .pointer r] 65 (ip4 _ _ _ _)
  have k1 : K4 w1.heap.size a p b r w2 := k1
  have HK : Hid (K4 w1.heap.size a p b r w2) := Lib.hid k1
  have HA := Lib.hid (h1.below hb2)
  have HBB := Lib.hid (h2.below hb2)
  have HT := Lib.hid (HT.out.below (below_trans hb1 hb2))
  have HB := Lib.hid (below_trans hb1 hb2)
  have y0 := k1.c0
  have y1 := k1.c1
  have y2 := k1.c2
  have y3 := k1.c3
  have ew : IntKind.i64.wrap ((LN : Int) + (LD : Int)) = (LN : Int) + (LD : Int) := by rw [IntKind.wrap_i64]; omega
  clear h1 h2 hb1 hb2 hz2 k1
  go_wp2_with fail
  have hc : Below w2.heap.size w2 w2.drew := (Below.refl _ _).drew
  go_region_held3 (fun w' => w'.cell? ⟨w1.heap.size, 0, none⟩ = some (.int .i64 a) ∧ w'.cell? ⟨w1.heap.size, 1, none⟩ = some (.pointer p) ∧ w'.cell? ⟨w1.heap.size, 2, none⟩ = some (.int .i64 b) ∧ w'.cell? ⟨w1.heap.size, 3, none⟩ = some (.pointer r) ∧ Below w2.heap.size w2 w') (first | (with_reducible exact ⟨(HK.out.below hc).c0, (HK.out.below hc).c1, (HK.out.below hc).c2, (HK.out.below hc).c3, hc⟩) | fail) (first | (go_at_call 94; (with_reducible refine (bitLenN (HA.out.below hc) HQ.out.2.1).mono ?_); rintro e whbP ⟨rfl, hbP⟩; have hc := hc.trans (hbP.mono hc.size)) | (go_at_call 94; (with_reducible refine (bitLenN (HBB.out.below hc) HQ.out.2.2).mono ?_); rintro e whbD ⟨rfl, hbD⟩; have hc := hc.trans (hbD.mono hc.size)) | fail)
  have HB := Lib.hid (below_trans HB.out hc)
  clear hc
  go_wp2_with fail
  exact bodyPost_ret (v := .int .i64 ((LN : Int) + (LD : Int))) (by simp [results, Tryz.results53, go_sem]) rfl ⟨rfl, HB.out⟩
set_option maxRecDepth 100000 in
set_option maxHeartbeats 4000000 in
/-- Floor of the reference -/
theorem floorR {s S : ByteArray} {K : Nat} (hs : s.size ≤ 10000) (hK : K ≤ 31) (s1 : Sz K (qv s)) (hS : rs ((qv s).floor : Rat) = S) {w : World} : Calls Tryz.prog 48 #[.string s] w (RetB w S) := by
  have HL := Lib.hid hs
  have HR := Lib.hid (And.intro (sn_of_sz s1) (And.intro (floor_sn hK s1) (show 2 * K < 10000 by omega)))
  have HS := Lib.hid hS
  clear hs hK s1 hS
  go_enter Tryz.func48, Tryz.ntmps48
  go_wp2_with fail
  refine (num_any s HL.out _).mono ?_
  rintro e w1 ⟨v1, rfl, hv1, hb1⟩
  have HV1 := Lib.hid hv1
  have HB := Lib.hid hb1
  clear hv1 hb1
  go_wp2_with fail
  refine (nfloor_any HV1.out HR.out.2.2 HR.out.1).mono ?_
  rintro e w2 ⟨v2, rfl, hv2, hb2⟩
  obtain ⟨db, da, dk, dc, rfl, de, dh⟩ := hv2.op
  have HD := Lib.hid (nrat_int de dh)
  have HB := Lib.hid (below_trans HB.out hb2)
  clear hv2 hb2 de dh
  go_wp2_with fail
  refine (textC (K := 62) HD.out (by decide) HR.out.2.1 HS.out).mono ?_
  rintro e w3 ⟨rfl, hb3⟩
  have HB := Lib.hid (below_trans HB.out hb3)
  clear hb3
  go_wp2_with fail
  go_ret
  exact ⟨rfl, HB.out⟩
set_option maxRecDepth 100000 in
set_option maxHeartbeats 4000000 in
/-- Ceil of the reference -/
theorem ceilR {s S : ByteArray} {K : Nat} (hs : s.size ≤ 10000) (hK : K ≤ 31) (s1 : Sz K (qv s)) (hS : rs ((-(-qv s).floor : Int) : Rat) = S) {w : World} : Calls Tryz.prog 50 #[.string s] w (RetB w S) := by
  have HL := Lib.hid hs
  have HR := Lib.hid (And.intro (sn_of_sz s1.neg) (And.intro (ceil_sn hK s1) (show 2 * K < 10000 by omega)))
  have HS := Lib.hid hS
  clear hs hK s1 hS
  go_enter Tryz.func50, Tryz.ntmps50
  go_wp2_with fail
  refine (num_any s HL.out _).mono ?_
  rintro e w1 ⟨v1, rfl, hv1, hb1⟩
  have HV1 := Lib.hid hv1
  have HB := Lib.hid hb1
  clear hv1 hb1
  go_wp2_with fail
  refine (rneg_any HV1.out).mono ?_
  rintro e w2 ⟨v2, rfl, hv2, hb2⟩
  have HV2 := Lib.hid hv2
  have HB := Lib.hid (below_trans HB.out hb2)
  clear hv2 hb2
  go_wp2_with fail
  refine (nfloor_any HV2.out HR.out.2.2 HR.out.1).mono ?_
  rintro e w3 ⟨v3, rfl, hv3, hb3⟩
  have HV3 := Lib.hid hv3
  have HB := Lib.hid (below_trans HB.out hb3)
  clear hv3 hb3
  go_wp2_with fail
  refine (nneg_any HV3.out).mono ?_
  rintro e w4 ⟨v4, rfl, hv4, hb4⟩
  obtain ⟨db, da, dk, dc, rfl, de, dh⟩ := hv4.op
  have HD := Lib.hid (nrat_int de dh)
  have HB := Lib.hid (below_trans HB.out hb4)
  clear hv4 hb4 de dh
  go_wp2_with fail
  refine (textC (K := 62) HD.out (by decide) HR.out.2.1 HS.out).mono ?_
  rintro e w5 ⟨rfl, hb5⟩
  have HB := Lib.hid (below_trans HB.out hb5)
  clear hb5
  go_wp2_with fail
  go_ret
  exact ⟨rfl, HB.out⟩
set_option maxRecDepth 100000 in
set_option maxHeartbeats 4000000 in
/-- Bits of the reference -/
theorem bitsR {s : ByteArray} {q : Rat} {LN LD : Nat} (hs : s.size ≤ 10000) (hq : qv s = q) (h1 : IsBits q.num.natAbs LN) (h2 : IsBits q.den LD) (hl : LN + LD < 1000000) {w : World} : Calls Tryz.prog 54 #[.string s] w (RetI w ((LN + LD : Nat) : Int)) := by
  have HL := Lib.hid hs
  have HQ := Lib.hid (And.intro hq (And.intro h1 (show IsBits ((q.den : Nat) : Int).natAbs LD by rw [Int.natAbs_natCast]; exact h2)))
  clear hs h1 h2 hq
  go_enter Tryz.func54, Tryz.ntmps54
  go_wp2_with fail
  refine (num_any s HL.out _).mono ?_
  rintro e w1 ⟨v1, rfl, hv1, hb1⟩
  rw [HQ.out.1] at hv1
  obtain ⟨b1, a1, l1, p1, c1, m1, r1, rfl, e1, h1, i1⟩ := hv1.op
  obtain ⟨w2, hw2, hb2, k1, hz2⟩ := nbox1 w1 #[.bool b1, .slice a1 l1 p1, .bool false, .slice c1 m1 r1] 32 (cb4 b1 h1.cb false i1.cb)
  have HK : Hid (N4 w1.heap.size b1 (.slice a1 l1 p1) false (.slice c1 m1 r1) w2) := Lib.hid k1
  have HA := Lib.hid (num_of e1 (h1.below hb2))
  have HX := Lib.hid (hv1.below hb2)
  have HB := Lib.hid (hb1.trans (hb2.mono hb1.size))
  have y0 := HK.out.c0
  have y1 := HK.out.c1
  have y2 := HK.out.c2
  have y3 := HK.out.c3
  have ew : IntKind.i64.wrap ((LN : Int) + (LD : Int)) = (LN : Int) + (LD : Int) := by rw [IntKind.wrap_i64]; omega
  clear h1 i1 e1 hv1 hb1 hb2 hz2 k1
  go_wp2_with fail
  have hc : Below w2.heap.size w2 w2.drew := (Below.refl _ _).drew
  go_region_held3 (fun w' => w'.cell? ⟨w1.heap.size, 0, none⟩ = some (.bool b1) ∧ w'.cell? ⟨w1.heap.size, 1, none⟩ = some (.slice a1 l1 p1) ∧ w'.cell? ⟨w1.heap.size, 2, none⟩ = some (.bool false) ∧ w'.cell? ⟨w1.heap.size, 3, none⟩ = some (.slice c1 m1 r1) ∧ Below w2.heap.size w2 w') (first | (with_reducible exact ⟨(HK.out.below hc).c0, (HK.out.below hc).c1, (HK.out.below hc).c2, (HK.out.below hc).c3, hc⟩) | fail) (first | (go_at_call 95; (with_reducible refine (nbitsN (HA.out.below hc) HQ.out.2.1).mono ?_); rintro e whbP ⟨rfl, hbP⟩; have hc := hc.trans (hbP.mono hc.size)) | (go_at_call 77; (with_reducible refine (nDen_any (HX.out.below hc)).mono ?_); rintro e whbD ⟨vD, rfl, hvD, hbD⟩; have hc := hc.trans (hbD.mono hc.size)) | (go_at_call 95; (with_reducible refine (nbitsN hvD HQ.out.2.2).mono ?_); rintro e whbQ ⟨rfl, hbQ⟩; have hc := hc.trans (hbQ.mono hc.size)) | fail)
  have HB := Lib.hid (HB.out.trans (hc.mono HB.out.size))
  clear hc
  go_wp2_with fail
  exact bodyPost_ret (v := .int .i64 ((LN : Int) + (LD : Int))) (by simp [results, Tryz.results54, go_sem]) rfl ⟨rfl, HB.out⟩
end Go.Proofs.YtekghemhccfhkaaGreatDoor
namespace Go.Big
open Go Go.RowKit
theorem rgcd_sz {a b : Rat} {K L : Nat} (ha : Sz K a) (hb : Sz L b) : Sz (K + L) (rgcd a b) := by
  refine ⟨?_, ?_⟩
  · rw [rgcd_num, Int.natAbs_natCast]
    rcases Nat.eq_zero_or_pos a.num.natAbs with h | h
    · rw [h, Nat.gcd_zero_left]; exact Nat.lt_of_lt_of_le hb.1 (bw_mono (by omega))
    · exact Nat.lt_of_le_of_lt (Nat.le_of_dvd h (Nat.gcd_dvd_left _ _)) (Nat.lt_of_lt_of_le ha.1 (bw_mono (by omega)))
  · rw [rgcd_den]
    exact mul_lt_pow ha.2 (Nat.lt_of_le_of_lt (Nat.div_le_self _ _) hb.2)
def RootS (q : Rat) (S : ByteArray) (b : Bool) : Prop := (b = true ∧ ∃ r : Rat, 0 ≤ r ∧ r * r = q ∧ S = rs r) ∨ (b = false ∧ S = ⟨#[]⟩ ∧ ¬ ∃ r : Rat, r * r = q)
theorem rootS_ex (q : Rat) : ∃ S b, RootS q S b := by
  by_cases h : ∃ r : Rat, r * r = q
  · obtain ⟨r, hr⟩ := h
    rcases (Rat.le_total : (0 : Rat) ≤ r ∨ r ≤ 0) with h0 | h0
    · exact ⟨rs r, true, .inl ⟨rfl, r, h0, hr, rfl⟩⟩
    · exact ⟨rs (-r), true, .inl ⟨rfl, -r, by grind, by rw [← hr]; grind, rfl⟩⟩
  · exact ⟨⟨#[]⟩, false, .inr ⟨rfl, rfl, h⟩⟩
theorem root_uniq {r s q : Rat} (h0 : 0 ≤ r) (h1 : r * r = q) (g0 : 0 ≤ s) (g1 : s * s = q) : r = s := by
  have e1 := rabs_of_root h0 (h1.trans g1.symm)
  have e2 := rabs_of_root (r := s) (a := s) g0 rfl
  rw [e1, ← e2]
theorem bits_le {m k K : Nat} (h : IsBits m k) (hm : m < B32 ^ K) : k ≤ 32 * K := by
  rcases Nat.eq_zero_or_pos m with h0 | h0
  · subst h0
    rcases Nat.eq_zero_or_pos k with h1 | h1
    · omega
    · have := h.2 h1
      have h2 : 0 < 2 ^ (k - 1) := Nat.pow_pos (by decide)
      omega
  · exact (sq_bits h h0 hm).2.2
end Go.Big
namespace Go.Proofs.YtekghemhccfhkaaGreatDoor
open Go.RowKit Go.Big
theorem rootQ_s {q : Rat} {S : ByteArray} {b : Bool} (h : RootS q S b) {w w' : World} {e : Ending} (hp : RootQ w q e w') : e = .returned (.tuple #[.string S, .bool b]) ∧ Below w.heap.size w w' := by
  obtain ⟨hb, hp⟩ := hp
  refine ⟨?_, hb⟩
  rcases hp with ⟨r, h0, h1, rfl⟩ | ⟨hno, rfl⟩
  · rcases h with ⟨rfl, s, g0, g1, rfl⟩ | ⟨_, _, hno⟩
    · rw [root_uniq h0 h1 g0 g1]
    · exact absurd ⟨r, h1⟩ hno
  · rcases h with ⟨_, s, _, g1, _⟩ | ⟨rfl, rfl, _⟩
    · exact absurd ⟨s, g1⟩ hno
    · rfl
theorem rootD {s S : ByteArray} {q : Rat} {b : Bool} {K : Nat} (gs : Nmb K s) (hK : K ≤ 31) (hq : qv s = q) (h : RootS q S b) {w : World} (hT : TabsA w) : Calls Tryz.prog 45 #[.string s] w fun e w' => e = .returned (.tuple #[.string S, .bool b]) ∧ Below w.heap.size w w' := by
  subst hq
  exact (rootA gs.1 hK gs.2 hT).mono fun _ _ hp => rootQ_s h hp
theorem rootE {s S : ByteArray} {q : Rat} {b : Bool} {K : Nat} (hs : s.size ≤ 10000) (hq : qv s = q) (hK : K < 1000) (sq : Sn K q) (h : RootS q S b) {w : World} : Calls Tryz.prog 46 #[.string s] w fun e w' => e = .returned (.tuple #[.string S, .bool b]) ∧ Below w.heap.size w w' :=
  (rootR hs hq hK sq).mono fun _ _ hp => rootQ_s h hp
set_option maxRecDepth 100000 in
set_option maxHeartbeats 4000000 in
theorem rationalRounding_walk (a b : ByteArray) {w : World} (hT : TabsA w) : Calls Tryz.prog 9 #[.string a, .string b] w (RetBool w true) := by
  have HT := Lib.hid hT
  obtain ⟨o, ho⟩ : ∃ o, S200 [a, b] = o := ⟨_, rfl⟩
  have HO := Lib.hid ho
  obtain ⟨w0, hw0⟩ : ∃ w0, w.alloc (.cells #[.string a, .string b] 9) = w0 := ⟨_, rfl⟩
  have hr := heap_alloc_new w (.cells #[.string a, .string b] 9)
  have hb0 : Below w.heap.size w w0 := by rw [← hw0]; exact (Below.refl _ _).alloc' _
  rw [hw0] at hr
  have HSH := Lib.hid (short22 (cap := 2) (g := w.heap.size) (w := w0) (by rw [cell_rowB hr]; rfl) (by rw [cell_rowB hr]; rfl) HO.out)
  have HT := Lib.hid (HT.out.below hb0)
  have HB := Lib.hid hb0
  clear hT ho hr hb0
  cases o with
  | false =>
    go_enter Tryz.func9, Tryz.ntmps9
    go_wp2_with fail
    refine HSH.out.mono ?_
    rintro e w1 ⟨rfl, rfl⟩
    go_wp2_with fail
    refine (awake_any HT.out).mono ?_
    rintro e w2 ⟨rfl, hb2⟩
    have HB := Lib.hid (below_trans HB.out hb2)
    clear hb2
    go_wp2_with fail
    go_ret
    exact ⟨rfl, HB.out⟩
  | true =>
    have hsz : ∀ x ∈ [a, b], x.size ≤ 200 := of_decide_eq_true HO.out
    obtain ⟨A, hA⟩ : ∃ A, qv a = A := ⟨_, rfl⟩
    obtain ⟨B, hB⟩ : ∃ B, qv b = B := ⟨_, rfl⟩
    have ha := hsz a (by simp)
    have hb := hsz b (by simp)
    have ga : Nmb 11 a := nmb_arg2 ha
    have gb : Nmb 11 b := nmb_arg2 hb
    have hza : Sz 11 A := by rw [← hA]; exact ga.2
    have hzb : Sz 11 B := by rw [← hB]; exact gb.2
    obtain ⟨R, rb, hR⟩ := rootS_ex A
    obtain ⟨FL, hFL⟩ : ∃ s, rs (A.floor : Rat) = s := ⟨_, rfl⟩
    obtain ⟨CE, hCE⟩ : ∃ s, rs ((-(-A).floor : Int) : Rat) = s := ⟨_, rfl⟩
    obtain ⟨G, hG⟩ : ∃ s, rs (rgcd A B) = s := ⟨_, rfl⟩
    obtain ⟨LN, hLN⟩ := bits_ex A.num.natAbs
    obtain ⟨LD, hLD⟩ := bits_ex A.den
    have hsa := sn_of_sz hza
    have b1 := bits_le hLN hsa.1
    have b2 := bits_le hLD hsa.2
    have GG := Lib.hid (And.intro ga gb)
    have GL := Lib.hid (show a.size ≤ 10000 ∧ b.size ≤ 10000 ∧ a.size ≤ 608 by omega)
    have SN : Hid (Sn 22 A ∧ Sn 22 B) := Lib.hid ⟨hsa, sn_of_sz hzb⟩
    have ZG : Hid (Sn 62 (rgcd A B) ∧ Sz 31 (rgcd (qv a) (qv b))) := Lib.hid ⟨sn_of_sz (K := 31) ((rgcd_sz hza hzb).mono (by decide)), by rw [hA, hB]; exact (rgcd_sz hza hzb).mono (by decide)⟩
    have ZA : Hid (Sz 11 (qv a)) := Lib.hid (by rw [hA]; exact hza)
    have HR := Lib.hid hR
    have EF := Lib.hid (show rs ((qv a).floor : Rat) = FL from by rw [hA, hFL])
    have EC := Lib.hid (show rs ((-(-qv a).floor : Int) : Rat) = CE from by rw [hA, hCE])
    have EG := Lib.hid (show rs (rgcd (qv a) (qv b)) = G from by rw [hA, hB, hG])
    have FG := Lib.hid hG
    have HL := Lib.hid (And.intro hLN (And.intro hLD (show LN + LD < 1000000 by omega)))
    have HAB := Lib.hid (And.intro hA hB)
    clear hsz ha hb ga gb hza hzb hA hB hR hFL hCE hG hLN hLD hsa b1 b2
    go_enter Tryz.func9, Tryz.ntmps9
    go_wp2_with fail
    refine HSH.out.mono ?_
    rintro e w1 ⟨rfl, rfl⟩
    clear HSH
    go_wp2_with fail
    refine (rootD (K := 11) GG.out.1 (by decide) HAB.out.1 HR.out HT.out).mono ?_
    rintro e w2 ⟨rfl, hb2⟩
    have HT := Lib.hid (HT.out.below hb2)
    have HB := Lib.hid (below_trans HB.out hb2)
    clear hb2
    go_wp2_with fail
    refine (rootE (K := 22) GL.out.1 HAB.out.1 (by decide) SN.out.1 HR.out).mono ?_
    rintro e w3 ⟨rfl, hb3⟩
    have HT := Lib.hid (HT.out.below hb3)
    have HB := Lib.hid (below_trans HB.out hb3)
    clear hb3
    go_wp2_with fail
    refine (floorC GG.out.1 (by decide) EF.out HT.out).mono ?_
    rintro e w4 ⟨rfl, hb4⟩
    have HT := Lib.hid (HT.out.below hb4)
    have HB := Lib.hid (below_trans HB.out hb4)
    clear hb4
    go_wp2_with fail
    refine (floorR (K := 11) GL.out.1 (by decide) ZA.out EF.out).mono ?_
    rintro e w5 ⟨rfl, hb5⟩
    have HT := Lib.hid (HT.out.below hb5)
    have HB := Lib.hid (below_trans HB.out hb5)
    clear hb5
    go_wp2_with fail
    refine (ceilC (K := 11) GL.out.2.2 (by decide) ZA.out EC.out HT.out).mono ?_
    rintro e w6 ⟨rfl, hb6⟩
    have HT := Lib.hid (HT.out.below hb6)
    have HB := Lib.hid (below_trans HB.out hb6)
    clear hb6
    go_wp2_with fail
    refine (ceilR (K := 11) GL.out.1 (by decide) ZA.out EC.out).mono ?_
    rintro e w7 ⟨rfl, hb7⟩
    have HT := Lib.hid (HT.out.below hb7)
    have HB := Lib.hid (below_trans HB.out hb7)
    clear hb7
    go_wp2_with fail
    refine (gcdC (K := 11) GG.out.1 GG.out.2 (by decide) ZG.out.2 EG.out HT.out).mono ?_
    rintro e w8 ⟨rfl, hb8⟩
    have HT := Lib.hid (HT.out.below hb8)
    have HB := Lib.hid (below_trans HB.out hb8)
    clear hb8
    go_wp2_with fail
    refine (num_any a GL.out.1 _).mono ?_
    rintro e w9 ⟨v9, rfl, hv9, hb9⟩
    rw [HAB.out.1] at hv9
    have HX := Lib.hid hv9
    have HT := Lib.hid (HT.out.below hb9)
    have HB := Lib.hid (below_trans HB.out hb9)
    clear hv9 hb9
    go_wp2_with fail
    refine (num_any b GL.out.2.1 _).mono ?_
    rintro e w10 ⟨v10, rfl, hv10, hb10⟩
    rw [HAB.out.2] at hv10
    have HY := Lib.hid hv10
    have HX := Lib.hid (HX.out.below hb10)
    have HT := Lib.hid (HT.out.below hb10)
    have HB := Lib.hid (below_trans HB.out hb10)
    clear hv10 hb10
    go_wp2_with fail
    refine (rgcd_any (K := 22) HX.out HY.out (by decide) SN.out.1 SN.out.2).mono ?_
    rintro e w11 ⟨v11, rfl, hv11, hb11⟩
    have HV := Lib.hid hv11
    have HT := Lib.hid (HT.out.below hb11)
    have HB := Lib.hid (below_trans HB.out hb11)
    clear hv11 hb11
    go_wp2_with fail
    refine (textC (K := 62) HV.out (by decide) ZG.out.1 FG.out).mono ?_
    rintro e w12 ⟨rfl, hb12⟩
    have HT := Lib.hid (HT.out.below hb12)
    have HB := Lib.hid (below_trans HB.out hb12)
    clear hb12
    go_wp2_with fail
    refine (bitsC GL.out.2.2 HAB.out.1 HL.out.1 HL.out.2.1 HL.out.2.2 HT.out).mono ?_
    rintro e w13 ⟨rfl, hb13⟩
    have HT := Lib.hid (HT.out.below hb13)
    have HB := Lib.hid (below_trans HB.out hb13)
    clear hb13
    go_wp2_with fail
    refine (bitsR GL.out.1 HAB.out.1 HL.out.1 HL.out.2.1 HL.out.2.2).mono ?_
    rintro e w14 ⟨rfl, hb14⟩
    have HT := Lib.hid (HT.out.below hb14)
    have HB := Lib.hid (below_trans HB.out hb14)
    clear hb14
    go_wp2_with fail
    refine (awake_any HT.out).mono ?_
    rintro e w15 ⟨rfl, hb15⟩
    have HT := Lib.hid (HT.out.below hb15)
    have HB := Lib.hid (below_trans HB.out hb15)
    clear hb15
    go_wp2_with fail
    go_ret
    exact ⟨rfl, HB.out⟩
end Go.Proofs.YtekghemhccfhkaaGreatDoor
