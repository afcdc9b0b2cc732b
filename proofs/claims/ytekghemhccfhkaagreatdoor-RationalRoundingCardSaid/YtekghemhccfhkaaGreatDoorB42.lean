/-
  Walks of the program's functions: NRat8, NFloor, NFromD, NRat4.
-/
import Derived.Test.YtekghemhccfhkaaGreatDoorB41
import Derived.Test.YtekghemhccfhkaaGreatDoorB38
import Derived.Test.YtekghemhccfhkaaGreatDoorB37
import Derived.Test.YtekghemhccfhkaaGreatDoorB07
namespace Go.Big
open Go Go.RowKit
theorem rat_div_of {a b : Rat} (hb : b.num ≠ 0) : (a / b).num * ((a.den : Int) * b.num) = (a.num * (b.den : Int)) * (a / b).den := by
  have e : a / b = Rat.divInt (a.num * b.den) (a.den * b.num) := by
    rw [Rat.div_def]
    conv => lhs; rw [← Rat.num_divInt_den a, ← Rat.num_divInt_den b, Rat.inv_divInt, Rat.divInt_mul_divInt]
  conv at e => lhs; rw [← Rat.num_divInt_den (a / b)]
  have h1 := a.den_nz
  have h2 := (a / b).den_nz
  rwa [Rat.divInt_eq_divInt_iff (by omega) (Int.mul_ne_zero (by omega) hb)] at e
end Go.Big
namespace Go.Proofs.YtekghemhccfhkaaGreatDoor
open Go.RowKit Go.Big
theorem frac_any {v v' : Value} {n d : Int} {K : Nat} {q : Rat} {w : World} (h : NumV w v n) (h' : NumV w v' d) (hd : d ≠ 0) (hK : K < 100000) (hm : n.natAbs < B32 ^ K) (hn : d.natAbs < B32 ^ K) (hq : q.num * d = n * q.den) : Calls Tryz.prog 75 #[v, v'] w (RetRat w q) := by
  by_cases h0 : 0 < d
  · exact frac_pos h h' h0 hK hm hn hq
  · exact frac_neg h h' (by omega) hK hm hn hq
set_option maxRecDepth 100000 in
set_option maxHeartbeats 4000000 in
/-- RDiv -/
theorem rdiv_any {v v' : Value} {q1 q2 : Rat} {K : Nat} {w : World} (h : NRat w v q1) (h' : NRat w v' q2) (hK : K < 10000) (s1 : Sn K q1) (s2 : Sn K q2) : Calls Tryz.prog 36 #[v, v'] w (RetRat w (q1 / q2)) := by
  obtain ⟨b1, a1, l1, p1, c1, m1, r1, rfl, e1, h1, i1⟩ := h.op
  obtain ⟨b2, a2, l2, p2, c2, m2, r2, rfl, e2, h2, i2⟩ := h'.op
  obtain ⟨w0, hw0, hb0, k0, k1, k2, hz0⟩ := nboxes3 w #[.bool b1, .slice a1 l1 p1, .bool false, .slice c1 m1 r1] 32 #[.bool b2, .slice a2 l2 p2, .bool false, .slice c2 m2 r2] 32 #[.bool false, .slice none 0 0, .bool false, .slice none 0 0] 32 (cb4 b1 h1.cb false i1.cb) (cb4 b2 h2.cb false i2.cb) (cb4 false cb_nil false cb_nil)
  have k0 : N4 w.heap.size b1 (.slice a1 l1 p1) false (.slice c1 m1 r1) w0 := k0
  have k1 : N4 (w.heap.size + 1) b2 (.slice a2 l2 p2) false (.slice c2 m2 r2) w0 := k1
  have k2 : N4 (w.heap.size + 1 + 1) false (.slice none 0 0) false (.slice none 0 0) w0 := k2
  have HA := Lib.hid (h.below hb0)
  have HB := Lib.hid (h'.below hb0)
  have HNA := Lib.hid (num_of e1 (h1.below hb0))
  have HNB := Lib.hid (num_of e2 (h2.below hb0))
  have HM := Lib.hid (And.intro hK (And.intro s1 s2))
  clear h h' h1 h2 i1 i2 e1 e2 hz0 hK s1 s2
  have HBN := Lib.hid (show (K < 100000 ∧ K + K < 100000) ∧ (q1.num.natAbs < B32 ^ K ∧ q2.num.natAbs < B32 ^ K ∧ (q1.den : Int).natAbs < B32 ^ K ∧ (q2.den : Int).natAbs < B32 ^ K) ∧ ((q1.num * (q2.den : Int)).natAbs < B32 ^ (K + K) ∧ ((q1.den : Int) * q2.num).natAbs < B32 ^ (K + K)) from by
    have hk := HM.out.1
    obtain ⟨n1, d1⟩ := HM.out.2.1
    obtain ⟨n2, d2⟩ := HM.out.2.2
    have d1 : (q1.den : Int).natAbs < B32 ^ K := by rw [den_abs]; exact d1
    have d2 : (q2.den : Int).natAbs < B32 ^ K := by rw [den_abs]; exact d2
    exact ⟨⟨by omega, by omega⟩, ⟨n1, n2, d1, d2⟩, sn_mul n1 d2, sn_mul d1 n2⟩)
  have y00 := k0.c0
  have y01 := k0.c1
  have y02 := k0.c2
  have y03 := k0.c3
  have y10 := k1.c0
  have y11 := k1.c1
  have y12 := k1.c2
  have y13 := k1.c3
  have HS := Lib.hid (rsign_any HB.out)
  by_cases hz : q2.num = 0
  · have HSG := Lib.hid (show q2.num.sign = 0 by rw [hz]; rfl)
    have HQ0 := Lib.hid (show q1 / q2 = 0 by rw [Rat.num_eq_zero.1 hz, Rat.div_def, Rat.inv_zero, Rat.mul_zero])
    clear hz
    go_enter Tryz.func36, Tryz.ntmps36
    go_wp2_with fail
    refine HS.out.mono ?_
    rintro e w1 ⟨rfl, hb1⟩
    rw [HSG.out]
    have k2 := k2.below hb1
    have hs := hb0.trans (hb1.mono hb0.size)
    obtain ⟨WW, hWW⟩ : ∃ WW, (((w1.setCell ⟨w.heap.size + 1 + 1, 0, none⟩ (.bool false)).setCell ⟨w.heap.size + 1 + 1, 1, none⟩ (.slice none 0 0)).setCell ⟨w.heap.size + 1 + 1, 2, none⟩ (.bool false)).setCell ⟨w.heap.size + 1 + 1, 3, none⟩ (.slice none 0 0) = WW := ⟨_, rfl⟩
    obtain ⟨z0, z1, z2, z3, z4⟩ := ret_rat (w := w) (q := (0 : Rat)) k2 rfl (mag_nil _) (mag_nil _) hs (by omega) hWW
    have HZ := Lib.hid z4
    have d0 := k2.c0
    have f0 := k2.f 0
    have d1 := k2.c1
    have f1 := k2.f 1
    have d2 := k2.c2
    have f2 := k2.f 2
    have d3 := k2.c3
    have f3 := k2.f 3
    clear hs hb1 hb0 z4 k0 k1 k2 HS y00 y01 y02 y03 y10 y11 y12 y13
    go_wp2_with fail
    exact bodyPost_ret (v := .agg #[.bool false, .slice none 0 0, .bool false, .slice none 0 0]) (by simp [results, Tryz.results36, go_sem, z0, z1, z2, z3]) rfl (by rw [HQ0.out]; exact HZ.out)
  · have hsg : (q2.num.sign == 0) = false := by rw [beq_eq_false_iff_ne]; exact fun e => hz (Int.sign_eq_zero_iff_zero.1 e)
    have HPD := Lib.hid (show (q1.den : Int) * q2.num ≠ 0 from Int.mul_ne_zero (by have := q1.den_nz; omega) hz)
    have HQ := Lib.hid (rat_div_of (a := q1) hz)
    clear hz
    go_enter Tryz.func36, Tryz.ntmps36
    go_wp2_with fail
    refine HS.out.mono ?_
    rintro e w1 ⟨rfl, hb1⟩
    generalize q2.num.sign = sg at hsg
    have HSG := Lib.hid hsg
    have x00 := (k0.below hb1).c0
    have x01 := (k0.below hb1).c1
    have x02 := (k0.below hb1).c2
    have x03 := (k0.below hb1).c3
    have x10 := (k1.below hb1).c0
    have x11 := (k1.below hb1).c1
    have x12 := (k1.below hb1).c2
    have x13 := (k1.below hb1).c3
    go_wp2_with fail
    have n02 : w.heap.size ≠ w.heap.size + 1 + 1 := by omega
    have n12 : w.heap.size + 1 ≠ w.heap.size + 1 + 1 := by omega
    have hg : w.heap.size ≤ w.heap.size + 1 + 1 := by omega
    have k0 : N4 w.heap.size b1 (.slice a1 l1 p1) false (.slice c1 m1 r1) w1.drew := k0.below hb1.drew
    have k1 : N4 (w.heap.size + 1) b2 (.slice a2 l2 p2) false (.slice c2 m2 r2) w1.drew := k1.below hb1.drew
    have k2 : N4 (w.heap.size + 1 + 1) false (.slice none 0 0) false (.slice none 0 0) w1.drew := k2.below hb1.drew
    have hc : Below w0.heap.size w0 w1.drew := hb1.drew
    have hs : Below w.heap.size w w1.drew := (hb0.trans (hb1.mono hb0.size)).drew
    go_region_held3 (fun w' => w'.cell? ⟨w.heap.size, 0, none⟩ = some (.bool b1) ∧ w'.cell? ⟨w.heap.size, 1, none⟩ = some (.slice a1 l1 p1) ∧ w'.cell? ⟨w.heap.size, 2, none⟩ = some (.bool false) ∧ w'.cell? ⟨w.heap.size, 3, none⟩ = some (.slice c1 m1 r1) ∧ w'.cell? ⟨(w.heap.size + 1), 0, none⟩ = some (.bool b2) ∧ w'.cell? ⟨(w.heap.size + 1), 1, none⟩ = some (.slice a2 l2 p2) ∧ w'.cell? ⟨(w.heap.size + 1), 2, none⟩ = some (.bool false) ∧ w'.cell? ⟨(w.heap.size + 1), 3, none⟩ = some (.slice c2 m2 r2) ∧ Below w.heap.size w w') (first | (with_reducible exact ⟨k0.c0, k0.c1, k0.c2, k0.c3, k1.c0, k1.c1, k1.c2, k1.c3, hs⟩) | (with_reducible exact ⟨(k0.o4 n02 _ _ _ _).c0, (k0.o4 n02 _ _ _ _).c1, (k0.o4 n02 _ _ _ _).c2, (k0.o4 n02 _ _ _ _).c3, (k1.o4 n12 _ _ _ _).c0, (k1.o4 n12 _ _ _ _).c1, (k1.o4 n12 _ _ _ _).c2, (k1.o4 n12 _ _ _ _).c3, hs.sn4 hg _ _ _ _⟩) | fail) (first | (go_at_call 83; (with_reducible refine (nden0_any (HB.out.below hc)).mono ?_); rintro e wb ⟨vb, rfl, hb, hbb⟩; have k0 := k0.below hbb; have k1 := k1.below hbb; have k2 := k2.below hbb; have hs := hs.trans (hbb.mono hs.size); have hc := hc.trans (hbb.mono hc.size); (try have ha := ha.below hbb); (try have hP := hP.below hbb); (try have hD := hD.below hbb)) | (go_at_call 83; (with_reducible refine (nden0_any (HA.out.below hc)).mono ?_); rintro e wa ⟨va, rfl, ha, hba⟩; have k0 := k0.below hba; have k1 := k1.below hba; have k2 := k2.below hba; have hs := hs.trans (hba.mono hs.size); have hc := hc.trans (hba.mono hc.size); (try have hb := hb.below hba); (try have hP := hP.below hba); (try have hD := hD.below hba)) | (go_at_call 72; (with_reducible refine (nmul_any (K := K) (HNA.out.below hc) hb HBN.out.1.1 HBN.out.2.1.1 HBN.out.2.1.2.2.2).mono ?_); rintro e wP ⟨vP, rfl, hP, hbP⟩; have k0 := k0.below hbP; have k1 := k1.below hbP; have k2 := k2.below hbP; have hs := hs.trans (hbP.mono hs.size); have hc := hc.trans (hbP.mono hc.size); (try have ha := ha.below hbP); (try have hb := hb.below hbP)) | (go_at_call 72; (with_reducible refine (nmul_any (K := K) ha (HNB.out.below hc) HBN.out.1.1 HBN.out.2.1.2.2.1 HBN.out.2.1.2.1).mono ?_); rintro e wD ⟨vD, rfl, hD, hbD⟩; have k0 := k0.below hbD; have k1 := k1.below hbD; have k2 := k2.below hbD; have hs := hs.trans (hbD.mono hs.size); have hc := hc.trans (hbD.mono hc.size); (try have hP := hP.below hbD)) | (go_at_call 75; (with_reducible refine (frac_any (K := K + K) (q := q1 / q2) hP hD HPD.out HBN.out.1.2 HBN.out.2.2.1 HBN.out.2.2.2 HQ.out).mono ?_); rintro e wR ⟨vR, rfl, hR, hbR⟩; have k0 := k0.below hbR; have k1 := k1.below hbR; have k2 := k2.below hbR; have hs := hs.trans (hbR.mono hs.size); have hc := hc.trans (hbR.mono hc.size); obtain ⟨rb, ra, rk, rc, ra', rk', rc', rfl, hrb, hr1, hr2⟩ := hR.op; have HRB := Lib.hid hrb; clear hrb; have d0 := k2.c0; have f0 := k2.f 0; have d1 := k2.c1; have f1 := k2.f 1; have d2 := k2.c2; have f2 := k2.f 2; have d3 := k2.c3; have f3 := k2.f 3) | fail)
    obtain ⟨WW, hWW⟩ : ∃ WW, (((wR.setCell ⟨w.heap.size + 1 + 1, 0, none⟩ (.bool rb)).setCell ⟨w.heap.size + 1 + 1, 1, none⟩ (.slice ra rk rc)).setCell ⟨w.heap.size + 1 + 1, 2, none⟩ (.bool false)).setCell ⟨w.heap.size + 1 + 1, 3, none⟩ (.slice ra' rk' rc') = WW := ⟨_, rfl⟩
    rw [hWW]
    obtain ⟨z0, z1, z2, z3, z4⟩ := ret_rat (q := q1 / q2) k2 HRB.out hr1 hr2 hs hg hWW
    have HZ := Lib.hid z4
    clear hs hc hWW z4 k0 k1 k2 hr1 hr2 d0 d1 d2 d3 f0 f1 f2 f3
    go_wp2_with fail
    exact bodyPost_ret (v := .agg #[.bool rb, .slice ra rk rc, .bool false, .slice ra' rk' rc']) (by simp [results, Tryz.results36, go_sem, z0, z1, z2, z3]) rfl HZ.out
end Go.Proofs.YtekghemhccfhkaaGreatDoor
namespace Go.Proofs.YtekghemhccfhkaaGreatDoor
open Go.RowKit Go.Big
theorem _root_.Go.Big.Bb.lt {w : World} {g : Nat} {cs : Array Value} {t : TypeId} (h : Bb w g cs t) : g < w.heap.size := (Array.getElem?_eq_some_iff.1 h.1).1
theorem floor_tdiv {m : Int} {d : Nat} (hd : d ≠ 0) : (m.tmod d < 0 → m / (d : Int) = m.tdiv d - 1) ∧ (¬ m.tmod d < 0 → m / (d : Int) = m.tdiv d) := by
  have h0 : (0 : Int) < d := by omega
  have h1 := Int.mul_tdiv_add_tmod m d
  have h2 := Int.tmod_lt_of_pos m h0
  have h3 : -(d : Int) < m.tmod d := by
    have := Int.natAbs_tmod m d
    have h4 : m.natAbs % (d : Int).natAbs < (d : Int).natAbs := Nat.mod_lt _ (by omega)
    omega
  constructor
  · intro h
    refine ((Int.ediv_emod_unique h0 (r := m.tmod d + d) (q := m.tdiv d - 1)).2 ⟨?_, by omega, by omega⟩).1
    rw [Int.mul_sub]; omega
  · intro h
    refine ((Int.ediv_emod_unique h0 (r := m.tmod d) (q := m.tdiv d)).2 ⟨by omega, by omega, h2⟩).1
theorem floor_neg (q : Rat) (h : q.num.tmod q.den < 0) : q.floor = q.num.tdiv q.den + -1 := by
  rw [Rat.floor_def, (floor_tdiv q.den_nz).1 h]; omega
theorem floor_pos (q : Rat) (h : ¬ q.num.tmod q.den < 0) : q.floor = q.num.tdiv q.den := by
  rw [Rat.floor_def, (floor_tdiv q.den_nz).2 h]
theorem two_boxes {w0 X WW : World} {g3 g4 : Nat} {f f' qb rb : Bool} {s s' : Value} {qa ra : Option Addr} {qk qc rk rc m n : Nat} (hc : Below w0.heap.size w0 X) (k3 : N2 g3 f s X) (k4 : N2 g4 f' s' X) (hne : g3 ≠ g4) (l3 : w0.heap.size ≤ g3) (l4 : w0.heap.size ≤ g4)
    (hq : NatV X .u32 B32 (.slice qa qk qc) m) (hr : NatV X .u32 B32 (.slice ra rk rc) n) (hWW : (((X.setCell ⟨g3, 0, none⟩ (.bool qb)).setCell ⟨g3, 1, none⟩ (.slice qa qk qc)).setCell ⟨g4, 0, none⟩ (.bool rb)).setCell ⟨g4, 1, none⟩ (.slice ra rk rc) = WW) :
    N2 g3 qb (.slice qa qk qc) WW ∧ N2 g4 rb (.slice ra rk rc) WW ∧ NatV WW .u32 B32 (.slice qa qk qc) m ∧ NatV WW .u32 B32 (.slice ra rk rc) n ∧ Below w0.heap.size w0 WW := by
  have hWW : sn2 (sn2 X g3 qb (.slice qa qk qc)) g4 rb (.slice ra rk rc) = WW := hWW
  subst hWW
  have a3 := k3.st qb (Cb.sl qa qk qc)
  have a4 := k4.o2 hne.symm qb (.slice qa qk qc)
  exact ⟨a3.o2 hne _ _, a4.st rb (Cb.sl ra rk rc), (hq.sn2 k3 (Cb.sl _ _ _)).sn2 a4 (Cb.sl _ _ _), (hr.sn2 k3 (Cb.sl _ _ _)).sn2 a4 (Cb.sl _ _ _), (hc.sn2 l3 _ _).sn2 l4 _ _⟩
set_option maxRecDepth 100000 in
set_option maxHeartbeats 4000000 in
/-- Floor -/
theorem nfloor_any {v : Value} {q : Rat} {K : Nat} {w : World} (h : NRat w v q) (hK : K < 10000) (s1 : Sn K q) : Calls Tryz.prog 91 #[v] w (RetNum w q.floor) := by
  obtain ⟨b1, a1, l1, p1, c1, m1, r1, rfl, e1, h1, i1⟩ := h.op
  obtain ⟨w0, hw0, hb0, k0, k1, hz0⟩ := nboxes2 w #[.bool b1, .slice a1 l1 p1, .bool false, .slice c1 m1 r1] 32 #[.bool false, .slice none 0 0] 30 (cb4 b1 h1.cb false i1.cb) (cb2 false cb_nil)
  have HK : Hid (N4 w.heap.size b1 (.slice a1 l1 p1) false (.slice c1 m1 r1) w0 ∧ N2 (w.heap.size + 1) false (.slice none 0 0) w0) := Lib.hid ⟨k0, k1⟩
  have HA := Lib.hid (h.below hb0)
  have HNA := Lib.hid (num_of e1 (h1.below hb0))
  have HM := Lib.hid (And.intro hK s1)
  have HDZ := Lib.hid (show (q.den : Int) ≠ 0 by have := q.den_nz; omega)
  have HKK := Lib.hid (show K < 100000 by omega)
  have HN1 : Hid (q.num.natAbs < B32 ^ K) := Lib.hid s1.1
  have HTD : Hid ((q.num.tdiv q.den).natAbs < B32 ^ K ∧ (1 : Int).natAbs < B32 ^ K) := Lib.hid ⟨by rw [Int.natAbs_tdiv]; exact Nat.lt_of_le_of_lt (Nat.div_le_self _ _) s1.1, Nat.lt_of_le_of_lt (Nat.one_le_iff_ne_zero.2 q.den_nz) s1.2⟩
  have HB := Lib.hid hb0
  have HZ0 := Lib.hid hz0
  have y00 := HK.out.1.c0
  have y01 := HK.out.1.c1
  have y02 := HK.out.1.c2
  have y03 := HK.out.1.c3
  clear h h1 i1 e1 hz0 hK s1 hb0 k0 k1
  go_enter Tryz.func91, Tryz.ntmps91
  go_wp2_with fail
  have hc : Below w0.heap.size w0 w0.drew := (Below.refl _ _).drew
  obtain ⟨w0a, hww0a, hxa, A1a, -⟩ := nbox1 w0.drew #[.bool false, .slice none 0 0] 30 (cb2 false cb_nil)
  obtain ⟨w0b, hww0b, hxb', A2b, -⟩ := nbox1 w0a #[.bool false, .slice none 0 0] 30 (cb2 false cb_nil)
  have A1a : Bb w0a w0.heap.size #[.bool false, .slice none 0 0] 30 := A1a
  have A1b := Bb.below A1a hxb'
  have hca := below_trans hc hxa
  have hcb := below_trans hca hxb'
  have hxb := below_trans hxa hxb'
  have lA1 : w0.heap.size ≤ w0.heap.size := Nat.le_refl _
  have lA2 := hca.size
  have nA := Nat.ne_of_lt (Bb.lt A1a)
  have mA := Ne.symm nA
  go_region_held3 (fun w' => w'.cell? ⟨w.heap.size, 0, none⟩ = some (.bool b1) ∧ w'.cell? ⟨w.heap.size, 1, none⟩ = some (.slice a1 l1 p1) ∧ w'.cell? ⟨w.heap.size, 2, none⟩ = some (.bool false) ∧ w'.cell? ⟨w.heap.size, 3, none⟩ = some (.slice c1 m1 r1) ∧ Below w0.heap.size w0 w') (first | (with_reducible exact ⟨(HK.out.1.below (by assumption)).c0, (HK.out.1.below (by assumption)).c1, (HK.out.1.below (by assumption)).c2, (HK.out.1.below (by assumption)).c3, by assumption⟩) | fail) (first | (go_at_call 83; (with_reducible refine (nden0_any (HA.out.below (by first | exact hc | exact hca | exact hcb))).mono ?_); rintro e wD ⟨vD, rfl, hD, hbD⟩; have hc := below_trans (by first | exact hc | exact hca | exact hcb) hbD; (first | (have A1D := Bb.below A1a hbD) | (have A1D := Bb.below A1b hbD; have A2D := Bb.below A2b hbD) | skip); obtain ⟨wDa, hwwDa, hxa, B1a, -⟩ := nbox1 wD #[.bool false, .slice none 0 0] 30 (cb2 false cb_nil); obtain ⟨wDb, hwwDb, hxb', B2b, -⟩ := nbox1 wDa #[.bool false, .slice none 0 0] 30 (cb2 false cb_nil); have B1b := Bb.below B1a hxb'; have hca := below_trans hc hxa; have hcb := below_trans hca hxb'; have hxb := below_trans hxa hxb'; have lB1 := hc.size; have lB2 := hca.size; have nB := Nat.ne_of_lt (Bb.lt B1a); have mB := Ne.symm nB; (try have nAB := Nat.ne_of_lt (Bb.lt A1D)); (try have mAB := Ne.symm nAB)) | (go_at_call 120; (with_reducible refine (nquoRem_any (K := K) (HNA.out.below (by first | exact hc | exact hca | exact hcb)) (by first | exact hD | exact hD.below hxa | exact hD.below hxb) HDZ.out HKK.out HN1.out).mono ?_); rintro e wQ ⟨vQ, vR, rfl, hQ, hR, hbQ⟩; have hc := below_trans (by first | exact hc | exact hca | exact hcb) hbQ; obtain ⟨qb, qa, qk, qc, rfl, hqb, hq1⟩ := hQ.op; obtain ⟨rb, ra, rk, rc, rfl, hrb, hr1⟩ := hR.op; have HQB := Lib.hid hqb; have HRB := Lib.hid hrb; clear hqb hrb; (first | (have A1Q := Bb.below A1D hbQ) | (have A1Q := Bb.below (Bb.below A1D hxa) hbQ) | (have A1Q := Bb.below (Bb.below A1D hxb) hbQ) | skip); (first | (have A2Q := Bb.below A2D hbQ) | (have A2Q := Bb.below (Bb.below A2D hxa) hbQ) | (have A2Q := Bb.below (Bb.below A2D hxb) hbQ) | skip); (first | (have B1Q := Bb.below B1a hbQ) | (have B1Q := Bb.below B1b hbQ; have B2Q := Bb.below B2b hbQ) | skip); obtain ⟨wQa, hwwQa, hxa, C1a, -⟩ := nbox1 wQ #[.bool false, .slice none 0 0] 30 (cb2 false cb_nil); obtain ⟨wQb, hwwQb, hxb', C2b, -⟩ := nbox1 wQa #[.bool false, .slice none 0 0] 30 (cb2 false cb_nil); have C1b := Bb.below C1a hxb'; have hca := below_trans hc hxa; have hcb := below_trans hca hxb'; have hxb := below_trans hxa hxb'; have lC1 := hc.size; have lC2 := hca.size; have nC := Nat.ne_of_lt (Bb.lt C1a); have mC := Ne.symm nC; (try have nAC := Nat.ne_of_lt (Bb.lt A1Q)); (try have mAC := Ne.symm nAC); (try have nBC := Nat.ne_of_lt (Bb.lt B1Q)); (try have mBC := Ne.symm nBC); (try have uA1Q0 := Bb.cell A1Q 0); (try have uA1Q1 := Bb.cell A1Q 1); (try have uA1Q2 := Bb.frozen A1Q 0); (try have uA1Q3 := Bb.frozen A1Q 1); (try have vA1Q0 := Bb.cell (Bb.below A1Q hxa) 0); (try have vA1Q1 := Bb.cell (Bb.below A1Q hxa) 1); (try have vA1Q2 := Bb.frozen (Bb.below A1Q hxa) 0); (try have vA1Q3 := Bb.frozen (Bb.below A1Q hxa) 1); (try have xA1Q0 := Bb.cell (Bb.below A1Q hxb) 0); (try have xA1Q1 := Bb.cell (Bb.below A1Q hxb) 1); (try have xA1Q2 := Bb.frozen (Bb.below A1Q hxb) 0); (try have xA1Q3 := Bb.frozen (Bb.below A1Q hxb) 1); (try have uA2Q0 := Bb.cell A2Q 0); (try have uA2Q1 := Bb.cell A2Q 1); (try have uA2Q2 := Bb.frozen A2Q 0); (try have uA2Q3 := Bb.frozen A2Q 1); (try have vA2Q0 := Bb.cell (Bb.below A2Q hxa) 0); (try have vA2Q1 := Bb.cell (Bb.below A2Q hxa) 1); (try have vA2Q2 := Bb.frozen (Bb.below A2Q hxa) 0); (try have vA2Q3 := Bb.frozen (Bb.below A2Q hxa) 1); (try have xA2Q0 := Bb.cell (Bb.below A2Q hxb) 0); (try have xA2Q1 := Bb.cell (Bb.below A2Q hxb) 1); (try have xA2Q2 := Bb.frozen (Bb.below A2Q hxb) 0); (try have xA2Q3 := Bb.frozen (Bb.below A2Q hxb) 1); (try have uB1Q0 := Bb.cell B1Q 0); (try have uB1Q1 := Bb.cell B1Q 1); (try have uB1Q2 := Bb.frozen B1Q 0); (try have uB1Q3 := Bb.frozen B1Q 1); (try have vB1Q0 := Bb.cell (Bb.below B1Q hxa) 0); (try have vB1Q1 := Bb.cell (Bb.below B1Q hxa) 1); (try have vB1Q2 := Bb.frozen (Bb.below B1Q hxa) 0); (try have vB1Q3 := Bb.frozen (Bb.below B1Q hxa) 1); (try have xB1Q0 := Bb.cell (Bb.below B1Q hxb) 0); (try have xB1Q1 := Bb.cell (Bb.below B1Q hxb) 1); (try have xB1Q2 := Bb.frozen (Bb.below B1Q hxb) 0); (try have xB1Q3 := Bb.frozen (Bb.below B1Q hxb) 1); (try have uB2Q0 := Bb.cell B2Q 0); (try have uB2Q1 := Bb.cell B2Q 1); (try have uB2Q2 := Bb.frozen B2Q 0); (try have uB2Q3 := Bb.frozen B2Q 1); (try have vB2Q0 := Bb.cell (Bb.below B2Q hxa) 0); (try have vB2Q1 := Bb.cell (Bb.below B2Q hxa) 1); (try have vB2Q2 := Bb.frozen (Bb.below B2Q hxa) 0); (try have vB2Q3 := Bb.frozen (Bb.below B2Q hxa) 1); (try have xB2Q0 := Bb.cell (Bb.below B2Q hxb) 0); (try have xB2Q1 := Bb.cell (Bb.below B2Q hxb) 1); (try have xB2Q2 := Bb.frozen (Bb.below B2Q hxb) 0); (try have xB2Q3 := Bb.frozen (Bb.below B2Q hxb) 1); (try have uC10 := Bb.cell C1a 0); (try have uC11 := Bb.cell C1a 1); (try have uC12 := Bb.frozen C1a 0); (try have uC13 := Bb.frozen C1a 1); (try have vC10 := Bb.cell C1b 0); (try have vC11 := Bb.cell C1b 1); (try have vC12 := Bb.frozen C1b 0); (try have vC13 := Bb.frozen C1b 1); (try have uC20 := Bb.cell C2b 0); (try have uC21 := Bb.cell C2b 1); (try have uC22 := Bb.frozen C2b 0); (try have uC23 := Bb.frozen C2b 1); (try (have hp_0 := A1Q; have hq_0 := A2Q; obtain ⟨y0, hy0⟩ : ∃ W, (wQ.setCell ⟨w0.heap.size, 0, none⟩ (.bool qb)).setCell ⟨w0.heap.size, 1, none⟩ (.slice qa qk qc) = W := ⟨_, rfl⟩; have z0 : N2 w0a.heap.size false (.slice none 0 0) y0 := (by rw [← hy0]; exact N2.o2 A2Q nA.symm _ _); have zc0 := z0.c0; have zd0 := z0.c1; have ze0 := z0.f 0; have zf0 := z0.f 1; have hcy0 : Below w0.heap.size w0 y0 := (by rw [← hy0]; exact Below.sn2 hc lA1 _ _); obtain ⟨W0, hW0⟩ : ∃ W, (y0.setCell ⟨w0a.heap.size, 0, none⟩ (.bool rb)).setCell ⟨w0a.heap.size, 1, none⟩ (.slice ra rk rc) = W := ⟨_, rfl⟩; obtain ⟨ka0, kb0, kq0, kr0, hcW0⟩ := two_boxes (WW := W0) hc A1Q A2Q nA lA1 lA2 (hq1.below (Below.refl _ _)) (hr1.below (Below.refl _ _)) (by rw [hy0]; exact hW0); have za0 := ka0.c0; have zb0 := ka0.c1; have zg0 := kb0.c0; have zh0 := kb0.c1)); (try (have hp_1 := A2Q; have hq_1 := A1Q; obtain ⟨y1, hy1⟩ : ∃ W, (wQ.setCell ⟨w0a.heap.size, 0, none⟩ (.bool qb)).setCell ⟨w0a.heap.size, 1, none⟩ (.slice qa qk qc) = W := ⟨_, rfl⟩; have z1 : N2 w0.heap.size false (.slice none 0 0) y1 := (by rw [← hy1]; exact N2.o2 A1Q mA.symm _ _); have zc1 := z1.c0; have zd1 := z1.c1; have ze1 := z1.f 0; have zf1 := z1.f 1; have hcy1 : Below w0.heap.size w0 y1 := (by rw [← hy1]; exact Below.sn2 hc lA2 _ _); obtain ⟨W1, hW1⟩ : ∃ W, (y1.setCell ⟨w0.heap.size, 0, none⟩ (.bool rb)).setCell ⟨w0.heap.size, 1, none⟩ (.slice ra rk rc) = W := ⟨_, rfl⟩; obtain ⟨ka1, kb1, kq1, kr1, hcW1⟩ := two_boxes (WW := W1) hc A2Q A1Q mA lA2 lA1 (hq1.below (Below.refl _ _)) (hr1.below (Below.refl _ _)) (by rw [hy1]; exact hW1); have za1 := ka1.c0; have zb1 := ka1.c1; have zg1 := kb1.c0; have zh1 := kb1.c1)); (try (have hp_2 := A1Q; have hq_2 := B1Q; obtain ⟨y2, hy2⟩ : ∃ W, (wQ.setCell ⟨w0.heap.size, 0, none⟩ (.bool qb)).setCell ⟨w0.heap.size, 1, none⟩ (.slice qa qk qc) = W := ⟨_, rfl⟩; have z2 : N2 wD.heap.size false (.slice none 0 0) y2 := (by rw [← hy2]; exact N2.o2 B1Q nAB.symm _ _); have zc2 := z2.c0; have zd2 := z2.c1; have ze2 := z2.f 0; have zf2 := z2.f 1; have hcy2 : Below w0.heap.size w0 y2 := (by rw [← hy2]; exact Below.sn2 hc lA1 _ _); obtain ⟨W2, hW2⟩ : ∃ W, (y2.setCell ⟨wD.heap.size, 0, none⟩ (.bool rb)).setCell ⟨wD.heap.size, 1, none⟩ (.slice ra rk rc) = W := ⟨_, rfl⟩; obtain ⟨ka2, kb2, kq2, kr2, hcW2⟩ := two_boxes (WW := W2) hc A1Q B1Q nAB lA1 lB1 (hq1.below (Below.refl _ _)) (hr1.below (Below.refl _ _)) (by rw [hy2]; exact hW2); have za2 := ka2.c0; have zb2 := ka2.c1; have zg2 := kb2.c0; have zh2 := kb2.c1)); (try (have hp_3 := B1Q; have hq_3 := A1Q; obtain ⟨y3, hy3⟩ : ∃ W, (wQ.setCell ⟨wD.heap.size, 0, none⟩ (.bool qb)).setCell ⟨wD.heap.size, 1, none⟩ (.slice qa qk qc) = W := ⟨_, rfl⟩; have z3 : N2 w0.heap.size false (.slice none 0 0) y3 := (by rw [← hy3]; exact N2.o2 A1Q mAB.symm _ _); have zc3 := z3.c0; have zd3 := z3.c1; have ze3 := z3.f 0; have zf3 := z3.f 1; have hcy3 : Below w0.heap.size w0 y3 := (by rw [← hy3]; exact Below.sn2 hc lB1 _ _); obtain ⟨W3, hW3⟩ : ∃ W, (y3.setCell ⟨w0.heap.size, 0, none⟩ (.bool rb)).setCell ⟨w0.heap.size, 1, none⟩ (.slice ra rk rc) = W := ⟨_, rfl⟩; obtain ⟨ka3, kb3, kq3, kr3, hcW3⟩ := two_boxes (WW := W3) hc B1Q A1Q mAB lB1 lA1 (hq1.below (Below.refl _ _)) (hr1.below (Below.refl _ _)) (by rw [hy3]; exact hW3); have za3 := ka3.c0; have zb3 := ka3.c1; have zg3 := kb3.c0; have zh3 := kb3.c1)); (try (have hp_4 := (Bb.below A1Q hxa); have hq_4 := C1a; obtain ⟨y4, hy4⟩ : ∃ W, (wQa.setCell ⟨w0.heap.size, 0, none⟩ (.bool qb)).setCell ⟨w0.heap.size, 1, none⟩ (.slice qa qk qc) = W := ⟨_, rfl⟩; have z4 : N2 wQ.heap.size false (.slice none 0 0) y4 := (by rw [← hy4]; exact N2.o2 C1a nAC.symm _ _); have zc4 := z4.c0; have zd4 := z4.c1; have ze4 := z4.f 0; have zf4 := z4.f 1; have hcy4 : Below w0.heap.size w0 y4 := (by rw [← hy4]; exact Below.sn2 hca lA1 _ _); obtain ⟨W4, hW4⟩ : ∃ W, (y4.setCell ⟨wQ.heap.size, 0, none⟩ (.bool rb)).setCell ⟨wQ.heap.size, 1, none⟩ (.slice ra rk rc) = W := ⟨_, rfl⟩; obtain ⟨ka4, kb4, kq4, kr4, hcW4⟩ := two_boxes (WW := W4) hca (Bb.below A1Q hxa) C1a nAC lA1 lC1 (hq1.below hxa) (hr1.below hxa) (by rw [hy4]; exact hW4); have za4 := ka4.c0; have zb4 := ka4.c1; have zg4 := kb4.c0; have zh4 := kb4.c1)); (try (have hp_5 := C1a; have hq_5 := (Bb.below A1Q hxa); obtain ⟨y5, hy5⟩ : ∃ W, (wQa.setCell ⟨wQ.heap.size, 0, none⟩ (.bool qb)).setCell ⟨wQ.heap.size, 1, none⟩ (.slice qa qk qc) = W := ⟨_, rfl⟩; have z5 : N2 w0.heap.size false (.slice none 0 0) y5 := (by rw [← hy5]; exact N2.o2 (Bb.below A1Q hxa) mAC.symm _ _); have zc5 := z5.c0; have zd5 := z5.c1; have ze5 := z5.f 0; have zf5 := z5.f 1; have hcy5 : Below w0.heap.size w0 y5 := (by rw [← hy5]; exact Below.sn2 hca lC1 _ _); obtain ⟨W5, hW5⟩ : ∃ W, (y5.setCell ⟨w0.heap.size, 0, none⟩ (.bool rb)).setCell ⟨w0.heap.size, 1, none⟩ (.slice ra rk rc) = W := ⟨_, rfl⟩; obtain ⟨ka5, kb5, kq5, kr5, hcW5⟩ := two_boxes (WW := W5) hca C1a (Bb.below A1Q hxa) mAC lC1 lA1 (hq1.below hxa) (hr1.below hxa) (by rw [hy5]; exact hW5); have za5 := ka5.c0; have zb5 := ka5.c1; have zg5 := kb5.c0; have zh5 := kb5.c1)); (try (have hp_6 := B1Q; have hq_6 := B2Q; obtain ⟨y6, hy6⟩ : ∃ W, (wQ.setCell ⟨wD.heap.size, 0, none⟩ (.bool qb)).setCell ⟨wD.heap.size, 1, none⟩ (.slice qa qk qc) = W := ⟨_, rfl⟩; have z6 : N2 wDa.heap.size false (.slice none 0 0) y6 := (by rw [← hy6]; exact N2.o2 B2Q nB.symm _ _); have zc6 := z6.c0; have zd6 := z6.c1; have ze6 := z6.f 0; have zf6 := z6.f 1; have hcy6 : Below w0.heap.size w0 y6 := (by rw [← hy6]; exact Below.sn2 hc lB1 _ _); obtain ⟨W6, hW6⟩ : ∃ W, (y6.setCell ⟨wDa.heap.size, 0, none⟩ (.bool rb)).setCell ⟨wDa.heap.size, 1, none⟩ (.slice ra rk rc) = W := ⟨_, rfl⟩; obtain ⟨ka6, kb6, kq6, kr6, hcW6⟩ := two_boxes (WW := W6) hc B1Q B2Q nB lB1 lB2 (hq1.below (Below.refl _ _)) (hr1.below (Below.refl _ _)) (by rw [hy6]; exact hW6); have za6 := ka6.c0; have zb6 := ka6.c1; have zg6 := kb6.c0; have zh6 := kb6.c1)); (try (have hp_7 := B2Q; have hq_7 := B1Q; obtain ⟨y7, hy7⟩ : ∃ W, (wQ.setCell ⟨wDa.heap.size, 0, none⟩ (.bool qb)).setCell ⟨wDa.heap.size, 1, none⟩ (.slice qa qk qc) = W := ⟨_, rfl⟩; have z7 : N2 wD.heap.size false (.slice none 0 0) y7 := (by rw [← hy7]; exact N2.o2 B1Q mB.symm _ _); have zc7 := z7.c0; have zd7 := z7.c1; have ze7 := z7.f 0; have zf7 := z7.f 1; have hcy7 : Below w0.heap.size w0 y7 := (by rw [← hy7]; exact Below.sn2 hc lB2 _ _); obtain ⟨W7, hW7⟩ : ∃ W, (y7.setCell ⟨wD.heap.size, 0, none⟩ (.bool rb)).setCell ⟨wD.heap.size, 1, none⟩ (.slice ra rk rc) = W := ⟨_, rfl⟩; obtain ⟨ka7, kb7, kq7, kr7, hcW7⟩ := two_boxes (WW := W7) hc B2Q B1Q mB lB2 lB1 (hq1.below (Below.refl _ _)) (hr1.below (Below.refl _ _)) (by rw [hy7]; exact hW7); have za7 := ka7.c0; have zb7 := ka7.c1; have zg7 := kb7.c0; have zh7 := kb7.c1)); (try (have hp_8 := (Bb.below B1Q hxa); have hq_8 := C1a; obtain ⟨y8, hy8⟩ : ∃ W, (wQa.setCell ⟨wD.heap.size, 0, none⟩ (.bool qb)).setCell ⟨wD.heap.size, 1, none⟩ (.slice qa qk qc) = W := ⟨_, rfl⟩; have z8 : N2 wQ.heap.size false (.slice none 0 0) y8 := (by rw [← hy8]; exact N2.o2 C1a nBC.symm _ _); have zc8 := z8.c0; have zd8 := z8.c1; have ze8 := z8.f 0; have zf8 := z8.f 1; have hcy8 : Below w0.heap.size w0 y8 := (by rw [← hy8]; exact Below.sn2 hca lB1 _ _); obtain ⟨W8, hW8⟩ : ∃ W, (y8.setCell ⟨wQ.heap.size, 0, none⟩ (.bool rb)).setCell ⟨wQ.heap.size, 1, none⟩ (.slice ra rk rc) = W := ⟨_, rfl⟩; obtain ⟨ka8, kb8, kq8, kr8, hcW8⟩ := two_boxes (WW := W8) hca (Bb.below B1Q hxa) C1a nBC lB1 lC1 (hq1.below hxa) (hr1.below hxa) (by rw [hy8]; exact hW8); have za8 := ka8.c0; have zb8 := ka8.c1; have zg8 := kb8.c0; have zh8 := kb8.c1)); (try (have hp_9 := C1a; have hq_9 := (Bb.below B1Q hxa); obtain ⟨y9, hy9⟩ : ∃ W, (wQa.setCell ⟨wQ.heap.size, 0, none⟩ (.bool qb)).setCell ⟨wQ.heap.size, 1, none⟩ (.slice qa qk qc) = W := ⟨_, rfl⟩; have z9 : N2 wD.heap.size false (.slice none 0 0) y9 := (by rw [← hy9]; exact N2.o2 (Bb.below B1Q hxa) mBC.symm _ _); have zc9 := z9.c0; have zd9 := z9.c1; have ze9 := z9.f 0; have zf9 := z9.f 1; have hcy9 : Below w0.heap.size w0 y9 := (by rw [← hy9]; exact Below.sn2 hca lC1 _ _); obtain ⟨W9, hW9⟩ : ∃ W, (y9.setCell ⟨wD.heap.size, 0, none⟩ (.bool rb)).setCell ⟨wD.heap.size, 1, none⟩ (.slice ra rk rc) = W := ⟨_, rfl⟩; obtain ⟨ka9, kb9, kq9, kr9, hcW9⟩ := two_boxes (WW := W9) hca C1a (Bb.below B1Q hxa) mBC lC1 lB1 (hq1.below hxa) (hr1.below hxa) (by rw [hy9]; exact hW9); have za9 := ka9.c0; have zb9 := ka9.c1; have zg9 := kb9.c0; have zh9 := kb9.c1)); (try (have hp_10 := C1b; have hq_10 := C2b; obtain ⟨y10, hy10⟩ : ∃ W, (wQb.setCell ⟨wQ.heap.size, 0, none⟩ (.bool qb)).setCell ⟨wQ.heap.size, 1, none⟩ (.slice qa qk qc) = W := ⟨_, rfl⟩; have z10 : N2 wQa.heap.size false (.slice none 0 0) y10 := (by rw [← hy10]; exact N2.o2 C2b nC.symm _ _); have zc10 := z10.c0; have zd10 := z10.c1; have ze10 := z10.f 0; have zf10 := z10.f 1; have hcy10 : Below w0.heap.size w0 y10 := (by rw [← hy10]; exact Below.sn2 hcb lC1 _ _); obtain ⟨W10, hW10⟩ : ∃ W, (y10.setCell ⟨wQa.heap.size, 0, none⟩ (.bool rb)).setCell ⟨wQa.heap.size, 1, none⟩ (.slice ra rk rc) = W := ⟨_, rfl⟩; obtain ⟨ka10, kb10, kq10, kr10, hcW10⟩ := two_boxes (WW := W10) hcb C1b C2b nC lC1 lC2 (hq1.below hxb) (hr1.below hxb) (by rw [hy10]; exact hW10); have za10 := ka10.c0; have zb10 := ka10.c1; have zg10 := kb10.c0; have zh10 := kb10.c1)); (try (have hp_11 := C2b; have hq_11 := C1b; obtain ⟨y11, hy11⟩ : ∃ W, (wQb.setCell ⟨wQa.heap.size, 0, none⟩ (.bool qb)).setCell ⟨wQa.heap.size, 1, none⟩ (.slice qa qk qc) = W := ⟨_, rfl⟩; have z11 : N2 wQ.heap.size false (.slice none 0 0) y11 := (by rw [← hy11]; exact N2.o2 C1b mC.symm _ _); have zc11 := z11.c0; have zd11 := z11.c1; have ze11 := z11.f 0; have zf11 := z11.f 1; have hcy11 : Below w0.heap.size w0 y11 := (by rw [← hy11]; exact Below.sn2 hcb lC2 _ _); obtain ⟨W11, hW11⟩ : ∃ W, (y11.setCell ⟨wQ.heap.size, 0, none⟩ (.bool rb)).setCell ⟨wQ.heap.size, 1, none⟩ (.slice ra rk rc) = W := ⟨_, rfl⟩; obtain ⟨ka11, kb11, kq11, kr11, hcW11⟩ := two_boxes (WW := W11) hcb C2b C1b mC lC2 lC1 (hq1.below hxb) (hr1.below hxb) (by rw [hy11]; exact hW11); have za11 := ka11.c0; have zb11 := ka11.c1; have zg11 := kb11.c0; have zh11 := kb11.c1)); clear hq1 hr1) | fail)
  all_goals first
    | (refine (show Exit.then _ _ _ _ W0 from ?_); have KF := Lib.hid (And.intro ka0 (And.intro kb0 (And.intro kq0 kr0))); have HCF := Lib.hid hcW0; generalize W0 = WF at KF HCF ⊢; have lG : ∃ G, G = w0.heap.size ∧ w0.heap.size ≤ G := ⟨_, rfl, lA1⟩; obtain ⟨G3, hG3, lG⟩ := lG; rw [← hG3] at KF ⊢; clear hG3; obtain ⟨G4, hG4⟩ : ∃ G, G = w0a.heap.size := ⟨_, rfl⟩; rw [← hG4] at KF ⊢; clear hG4; have HLG := Lib.hid lG; clear lG)
    | (refine (show Exit.then _ _ _ _ W1 from ?_); have KF := Lib.hid (And.intro ka1 (And.intro kb1 (And.intro kq1 kr1))); have HCF := Lib.hid hcW1; generalize W1 = WF at KF HCF ⊢; have lG : ∃ G, G = w0a.heap.size ∧ w0.heap.size ≤ G := ⟨_, rfl, lA2⟩; obtain ⟨G3, hG3, lG⟩ := lG; rw [← hG3] at KF ⊢; clear hG3; obtain ⟨G4, hG4⟩ : ∃ G, G = w0.heap.size := ⟨_, rfl⟩; rw [← hG4] at KF ⊢; clear hG4; have HLG := Lib.hid lG; clear lG)
    | (refine (show Exit.then _ _ _ _ W2 from ?_); have KF := Lib.hid (And.intro ka2 (And.intro kb2 (And.intro kq2 kr2))); have HCF := Lib.hid hcW2; generalize W2 = WF at KF HCF ⊢; have lG : ∃ G, G = w0.heap.size ∧ w0.heap.size ≤ G := ⟨_, rfl, lA1⟩; obtain ⟨G3, hG3, lG⟩ := lG; rw [← hG3] at KF ⊢; clear hG3; obtain ⟨G4, hG4⟩ : ∃ G, G = wD.heap.size := ⟨_, rfl⟩; rw [← hG4] at KF ⊢; clear hG4; have HLG := Lib.hid lG; clear lG)
    | (refine (show Exit.then _ _ _ _ W3 from ?_); have KF := Lib.hid (And.intro ka3 (And.intro kb3 (And.intro kq3 kr3))); have HCF := Lib.hid hcW3; generalize W3 = WF at KF HCF ⊢; have lG : ∃ G, G = wD.heap.size ∧ w0.heap.size ≤ G := ⟨_, rfl, lB1⟩; obtain ⟨G3, hG3, lG⟩ := lG; rw [← hG3] at KF ⊢; clear hG3; obtain ⟨G4, hG4⟩ : ∃ G, G = w0.heap.size := ⟨_, rfl⟩; rw [← hG4] at KF ⊢; clear hG4; have HLG := Lib.hid lG; clear lG)
    | (refine (show Exit.then _ _ _ _ W4 from ?_); have KF := Lib.hid (And.intro ka4 (And.intro kb4 (And.intro kq4 kr4))); have HCF := Lib.hid hcW4; generalize W4 = WF at KF HCF ⊢; have lG : ∃ G, G = w0.heap.size ∧ w0.heap.size ≤ G := ⟨_, rfl, lA1⟩; obtain ⟨G3, hG3, lG⟩ := lG; rw [← hG3] at KF ⊢; clear hG3; obtain ⟨G4, hG4⟩ : ∃ G, G = wQ.heap.size := ⟨_, rfl⟩; rw [← hG4] at KF ⊢; clear hG4; have HLG := Lib.hid lG; clear lG)
    | (refine (show Exit.then _ _ _ _ W5 from ?_); have KF := Lib.hid (And.intro ka5 (And.intro kb5 (And.intro kq5 kr5))); have HCF := Lib.hid hcW5; generalize W5 = WF at KF HCF ⊢; have lG : ∃ G, G = wQ.heap.size ∧ w0.heap.size ≤ G := ⟨_, rfl, lC1⟩; obtain ⟨G3, hG3, lG⟩ := lG; rw [← hG3] at KF ⊢; clear hG3; obtain ⟨G4, hG4⟩ : ∃ G, G = w0.heap.size := ⟨_, rfl⟩; rw [← hG4] at KF ⊢; clear hG4; have HLG := Lib.hid lG; clear lG)
    | (refine (show Exit.then _ _ _ _ W6 from ?_); have KF := Lib.hid (And.intro ka6 (And.intro kb6 (And.intro kq6 kr6))); have HCF := Lib.hid hcW6; generalize W6 = WF at KF HCF ⊢; have lG : ∃ G, G = wD.heap.size ∧ w0.heap.size ≤ G := ⟨_, rfl, lB1⟩; obtain ⟨G3, hG3, lG⟩ := lG; rw [← hG3] at KF ⊢; clear hG3; obtain ⟨G4, hG4⟩ : ∃ G, G = wDa.heap.size := ⟨_, rfl⟩; rw [← hG4] at KF ⊢; clear hG4; have HLG := Lib.hid lG; clear lG)
    | (refine (show Exit.then _ _ _ _ W7 from ?_); have KF := Lib.hid (And.intro ka7 (And.intro kb7 (And.intro kq7 kr7))); have HCF := Lib.hid hcW7; generalize W7 = WF at KF HCF ⊢; have lG : ∃ G, G = wDa.heap.size ∧ w0.heap.size ≤ G := ⟨_, rfl, lB2⟩; obtain ⟨G3, hG3, lG⟩ := lG; rw [← hG3] at KF ⊢; clear hG3; obtain ⟨G4, hG4⟩ : ∃ G, G = wD.heap.size := ⟨_, rfl⟩; rw [← hG4] at KF ⊢; clear hG4; have HLG := Lib.hid lG; clear lG)
    | (refine (show Exit.then _ _ _ _ W8 from ?_); have KF := Lib.hid (And.intro ka8 (And.intro kb8 (And.intro kq8 kr8))); have HCF := Lib.hid hcW8; generalize W8 = WF at KF HCF ⊢; have lG : ∃ G, G = wD.heap.size ∧ w0.heap.size ≤ G := ⟨_, rfl, lB1⟩; obtain ⟨G3, hG3, lG⟩ := lG; rw [← hG3] at KF ⊢; clear hG3; obtain ⟨G4, hG4⟩ : ∃ G, G = wQ.heap.size := ⟨_, rfl⟩; rw [← hG4] at KF ⊢; clear hG4; have HLG := Lib.hid lG; clear lG)
    | (refine (show Exit.then _ _ _ _ W9 from ?_); have KF := Lib.hid (And.intro ka9 (And.intro kb9 (And.intro kq9 kr9))); have HCF := Lib.hid hcW9; generalize W9 = WF at KF HCF ⊢; have lG : ∃ G, G = wQ.heap.size ∧ w0.heap.size ≤ G := ⟨_, rfl, lC1⟩; obtain ⟨G3, hG3, lG⟩ := lG; rw [← hG3] at KF ⊢; clear hG3; obtain ⟨G4, hG4⟩ : ∃ G, G = wD.heap.size := ⟨_, rfl⟩; rw [← hG4] at KF ⊢; clear hG4; have HLG := Lib.hid lG; clear lG)
    | (refine (show Exit.then _ _ _ _ W10 from ?_); have KF := Lib.hid (And.intro ka10 (And.intro kb10 (And.intro kq10 kr10))); have HCF := Lib.hid hcW10; generalize W10 = WF at KF HCF ⊢; have lG : ∃ G, G = wQ.heap.size ∧ w0.heap.size ≤ G := ⟨_, rfl, lC1⟩; obtain ⟨G3, hG3, lG⟩ := lG; rw [← hG3] at KF ⊢; clear hG3; obtain ⟨G4, hG4⟩ : ∃ G, G = wQa.heap.size := ⟨_, rfl⟩; rw [← hG4] at KF ⊢; clear hG4; have HLG := Lib.hid lG; clear lG)
    | (refine (show Exit.then _ _ _ _ W11 from ?_); have KF := Lib.hid (And.intro ka11 (And.intro kb11 (And.intro kq11 kr11))); have HCF := Lib.hid hcW11; generalize W11 = WF at KF HCF ⊢; have lG : ∃ G, G = wQa.heap.size ∧ w0.heap.size ≤ G := ⟨_, rfl, lC2⟩; obtain ⟨G3, hG3, lG⟩ := lG; rw [← hG3] at KF ⊢; clear hG3; obtain ⟨G4, hG4⟩ : ∃ G, G = wQ.heap.size := ⟨_, rfl⟩; rw [← hG4] at KF ⊢; clear hG4; have HLG := Lib.hid lG; clear lG)
    | fail
  all_goals
    have HX := KF
    have x0 := KF.out.1.c0
    have x1 := KF.out.1.c1
    have x2 := KF.out.2.1.c0
    have x3 := KF.out.2.1.c1
    have HRES := Lib.hid (HK.out.2.below HCF.out)
    have HBW := Lib.hid (HB.out.trans (HCF.out.mono HB.out.size))
    have HNG : Hid (G3 ≠ w.heap.size + 1) := Lib.hid (by have h1 := HLG.out; have h2 := HZ0.out; omega)
    have d0 := HRES.out.c0
    have d1 := HRES.out.c1
    have f0 := HRES.out.f 0
    have f1 := HRES.out.f 1
    cases rb with
    | true =>
      have HFL := Lib.hid (floor_neg q (of_decide_eq_true HRB.out.symm))
      have HQN := Lib.hid (num_of HQB.out KF.out.2.2.1)
      have HI1 : Hid (IsS 1) := Lib.hid ⟨by decide, by decide⟩
      go_wp2_with fail
      have k3 : N2 G3 qb (.slice qa qk qc) WF.drew := KF.out.1
      have kr : N2 (w.heap.size + 1) false (.slice none 0 0) WF.drew := HRES.out
      have hc : Below WF.heap.size WF WF.drew := (Below.refl _ _).drew
      have hs : Below w.heap.size w WF.drew := HBW.out.drew
      have hg : w.heap.size ≤ w.heap.size + 1 := by omega
      go_region_held3 (fun w' => w'.cell? ⟨G3, 0, none⟩ = some (.bool qb) ∧ w'.cell? ⟨G3, 1, none⟩ = some (.slice qa qk qc) ∧ Below w.heap.size w w') (first | (with_reducible exact ⟨k3.c0, k3.c1, hs⟩) | (with_reducible exact ⟨(k3.o2 HNG.out _ _).c0, (k3.o2 HNG.out _ _).c1, hs.sn2 hg _ _⟩) | fail) (first | (go_at_call 62; (with_reducible refine (nfromInt_any HI1.out _).mono ?_); rintro e w1 ⟨v1, rfl, h1, hb1⟩; have k3 := k3.below hb1; have kr := kr.below hb1; have hs := hs.trans (hb1.mono hs.size); have hc := hc.trans (hb1.mono hc.size)) | (go_at_call 127; (with_reducible refine (nsub_any (K := K) (HQN.out.below hc) h1 HKK.out HTD.out.1 HTD.out.2).mono ?_); rintro e wS ⟨vS, rfl, hS, hbS⟩; have k3 := k3.below hbS; have kr := kr.below hbS; have hs := hs.trans (hbS.mono hs.size); have hc := hc.trans (hbS.mono hc.size); obtain ⟨sb, sa, sk, sc, rfl, hsb, hs1⟩ := hS.op; have HSB := Lib.hid hsb; clear hsb; have d0 := kr.c0; have d1 := kr.c1; have f0 := kr.f 0; have f1 := kr.f 1) | fail)
      obtain ⟨WW, hWW⟩ : ∃ WW, (wS.setCell ⟨w.heap.size + 1, 0, none⟩ (.bool sb)).setCell ⟨w.heap.size + 1, 1, none⟩ (.slice sa sk sc) = WW := ⟨_, rfl⟩
      rw [hWW]
      obtain ⟨z0, z1, z2⟩ := ret_num (w := w) kr HSB.out hs1 hs hg hWW
      have HZ := Lib.hid z2
      clear hs hc hWW z2 k3 kr hs1 d0 d1 f0 f1
      go_wp2_with fail
      exact bodyPost_ret (v := .agg #[.bool sb, .slice sa sk sc]) (by simp [results, Tryz.results91, go_sem, z0, z1]) rfl (by rw [HFL.out]; exact HZ.out)
    | false =>
      have HFL := Lib.hid (floor_pos q (of_decide_eq_false HRB.out.symm))
      obtain ⟨WW, hWW⟩ : ∃ WW, (WF.setCell ⟨w.heap.size + 1, 0, none⟩ (.bool qb)).setCell ⟨w.heap.size + 1, 1, none⟩ (.slice qa qk qc) = WW := ⟨_, rfl⟩
      obtain ⟨z0, z1, z2⟩ := ret_num (w := w) HRES.out HQB.out KF.out.2.2.1 HBW.out (by omega) hWW
      have HZ := Lib.hid z2
      clear z2
      go_wp2_with fail
      exact bodyPost_ret (v := .agg #[.bool qb, .slice qa qk qc]) (by simp [results, Tryz.results91, go_sem, z0, z1]) rfl (by rw [HFL.out]; exact HZ.out)
end Go.Proofs.YtekghemhccfhkaaGreatDoor
namespace Go.Big
open Go Go.RowKit
/-- What the inner loop has read behind i: k digits. -/
theorem fd_step {L : List UInt8} {i k : Nat} (h : i + k < L.length) : dec ((L.drop i).take (k + 1)) = dec ((L.drop i).take k) * 10 + (L[i + k].toNat - 48) := by
  rw [dec_take _ _ (by rw [List.length_drop]; omega)]
  simp
theorem fd_join (L : List UInt8) (i k : Nat) (h : i + k ≤ L.length) : dec (L.take (i + k)) = dec (L.take i) * 10 ^ k + dec ((L.drop i).take k) := by
  rw [List.take_add, dec_append, List.length_take, List.length_drop, Nat.min_eq_left (by omega)]
theorem fd_lt {L : List UInt8} {i k : Nat} (h : Dig (L.take (i + k))) : dec ((L.drop i).take k) < 10 ^ k := by
  rw [List.take_add] at h
  refine Nat.lt_of_lt_of_le (dec_lt (fun b hb => h b (List.mem_append_right _ hb))) (Nat.pow_le_pow_right (by decide) ?_)
  rw [List.length_take]; omega
theorem pow_k9 {k : Nat} (h : k ≤ 9) : 10 ^ k ≤ 1000000000 := Nat.pow_le_pow_right (n := 10) (by decide) h
theorem nz_one {x : Nat} (h : 0 < x) : Nz [x] := by
  intro e
  simp at e ⊢
  omega
theorem one_b32 (n : Nat) : 4294967296 ≤ B32 ^ (n + 1) := by
  rw [Nat.pow_succ]; exact Nat.le_mul_of_pos_left _ (Nat.pow_pos (by decide))
theorem dec_b32 {L : List UInt8} (h : Dig L) {n : Nat} (hn : L.length ≤ n) : dec L < B32 ^ n :=
  Nat.lt_of_lt_of_le (dec_lt h) (Nat.le_trans (Nat.pow_le_pow_left (show 10 ≤ B32 by decide) _) (Nat.pow_le_pow_right (by decide) hn))
end Go.Big
namespace Go.Proofs.YtekghemhccfhkaaGreatDoor
open Go.RowKit Go.Big
def NfdPost (s : ByteArray) (w : World) (e : Ending) (w' : World) : Prop :=
  ∃ (v : Value) (b : Bool) (n : Int), e = .returned (.tuple #[v, .bool b]) ∧ (b = true ↔ Dig s.data.toList ∧ 0 < s.size) ∧ NumV w' v n ∧ (b = true → n = (dec s.data.toList : Nat)) ∧ Below w.heap.size w w'
set_option maxRecDepth 100000 in
set_option maxHeartbeats 4000000 in
/-- FromDigits -/
theorem nfromDigits_any (s : ByteArray) (hl : s.size ≤ 1000000) (w : World) : Calls Tryz.prog 70 #[.string s] w (NfdPost s w) := by
  obtain ⟨w0, hw0, hb0, k0, hz0⟩ := nbox1 w #[.bool false, .slice none 0 0] 30 (cb2 false cb_nil)
  have k0 : N2 w.heap.size false (.slice none 0 0) w0 := k0
  have hsz : s.data.toList.length = s.size := (Lib.size_eq s).symm
  have HS := Lib.hid (And.intro hsz hl)
  have HK := Lib.hid (And.intro k0 hb0)
  clear hsz k0 hz0 hb0
  go_enter Tryz.func70, Tryz.ntmps70
  go_wp2_with fail
  go_loopw [4, 5] (fun x y wr => ∃ i : Nat, i ≤ s.size ∧ y = .int .i64 i ∧ Hid (Dig (s.data.toList.take i)) ∧ NatV wr .u32 B32 x (dec (s.data.toList.take i)) ∧ Below w0.heap.size w0 wr) (fun _ y _ => s.size - (intOf y).toNat)
  case atStart => exact ⟨0, by omega, rfl, Lib.hid (fun b hb => by simp at hb), mag_nil _, Below.refl _ _⟩
  case round =>
    obtain ⟨i, hi, rfl, hdig, hM, hbel⟩ := hrel
    have HM := Lib.hid (And.intro hM hbel)
    obtain ⟨ao, cap, l, rfl, hlm, _, _, _⟩ := hM
    have hlm := hlm.len_le
    clear hbel
    by_cases h : i < s.size
    · go_wp2_with fail
      go_loopw [5, 6, 7, 8] (fun y v f k wx => wr = wx ∧ ∃ kn p dv fv : Nat, p ≤ s.size ∧ kn ≤ 9 ∧ y = .int .i64 (p : Nat) ∧ k = .int .i64 kn ∧ f = .int .u32 (fv : Nat) ∧ v = .int .u32 (dv : Nat) ∧ Hid (i + kn = p ∧ 10 ^ kn = fv ∧ dec ((s.data.toList.drop i).take kn) = dv ∧ Dig (s.data.toList.take p))) (fun _ _ _ k _ => 9 - (intOf k).toNat)
      case atStart => exact ⟨rfl, 0, i, 0, 1, hi, by omega, rfl, rfl, rfl, rfl, Lib.hid ⟨rfl, rfl, rfl, hdig.out⟩⟩
      case round =>
        obtain ⟨rfl, kn, p, dv, fv, hp, hk9, rfl, rfl, rfl, rfl, HI⟩ := hrel
        have HKX := Lib.hid (And.intro (HK.out.1.below HM.out.2) (HK.out.2.trans (HM.out.2.mono HK.out.2.size)))
        by_cases hA : kn < 9 ∧ p < s.size
        · obtain ⟨hk, hps⟩ := hA
          have hdt := fd_step (L := s.data.toList) (i := i) (k := kn) (by have := HS.out.1; have := HI.out.1; omega)
          have hb : s[p] = s.data.toList[p]'(by have := HS.out.1; omega) := by simp [ByteArray.getElem_eq_getElem_data]
          have hmem : s[p] ∈ s.data.toList := by rw [hb]; exact List.getElem_mem _
          have hnext : 48 ≤ s[p].toNat ∧ s[p].toNat ≤ 57 → Dig (s.data.toList.take (p + 1)) := by
            intro hc b hbm
            rw [List.take_succ_eq_append_getElem (by have := HS.out.1; omega), ← hb] at hbm
            rcases List.mem_append.1 hbm with h1 | h1
            · exact HI.out.2.2.2 b h1
            · rw [List.mem_singleton.1 h1]; exact hc
          simp only [HI.out.1, HI.out.2.2.1] at hdt
          rw [← hb] at hdt
          obtain ⟨c, hc⟩ : ∃ c, s[p].toNat = c := ⟨_, rfl⟩
          have hci : ((s[p].toNat : Nat) : Int) = (c : Int) := by rw [hc]
          rw [hc] at hdt hnext
          have HC := Lib.hid hc
          have HMEM := Lib.hid hmem
          have HDT := Lib.hid hdt
          have HN := Lib.hid hnext
          have hdv : dv < 1000000000 := by
            rw [← HI.out.2.2.1]
            exact Nat.lt_of_lt_of_le (fd_lt (by rw [HI.out.1]; exact HI.out.2.2.2)) (pow_k9 (by omega))
          have hdv9 : dv * 10 < 1000000000 := by
            have h9 : dv < 10 ^ kn := by rw [← HI.out.2.2.1]; exact fd_lt (by rw [HI.out.1]; exact HI.out.2.2.2)
            have h8 : 10 ^ (kn + 1) ≤ 1000000000 := pow_k9 (by omega)
            rw [Nat.pow_succ] at h8; omega
          have hfv : fv * 10 ≤ 1000000000 := by
            have h8 : 10 ^ (kn + 1) ≤ 1000000000 := pow_k9 (by omega)
            rw [Nat.pow_succ, HI.out.2.1] at h8; omega
          clear hb hmem hnext hdt hc hdv
          by_cases c1 : c < 48
          · clear hdv9 hfv
            obtain ⟨WW, hWW⟩ : ∃ WW, (wr.setCell ⟨w.heap.size, 0, none⟩ (.bool false)).setCell ⟨w.heap.size, 1, none⟩ (.slice none 0 0) = WW := ⟨_, rfl⟩
            obtain ⟨z0, z1, z2⟩ := ret_num (n := 0) HKX.out.1 rfl (mag_nil _) HKX.out.2 (Nat.le_refl _) hWW
            have HZ : Hid (NfdPost s w (.returned (.tuple #[.agg #[.bool false, .slice none 0 0], .bool false])) WW) := by
              obtain ⟨v, hv1, hv2, hv3⟩ := z2
              cases hv1
              exact Lib.hid ⟨_, false, 0, rfl, ⟨fun h => (by cases h), fun h => (by have h1 := h.1 _ HMEM.out; rw [HC.out] at h1; omega)⟩, hv2, fun h => (by cases h), hv3⟩
            have d0 := HKX.out.1.c0
            have d1 := HKX.out.1.c1
            have f0 := HKX.out.1.f 0
            have f1 := HKX.out.1.f 1
            clear z2
            go_wp2_with fail
            exact bodyPost_ret (v := .tuple #[.agg #[.bool false, .slice none 0 0], .bool false]) (by simp [results, Tryz.results70, go_sem, z0, z1]) rfl HZ.out
          · by_cases c2 : 57 < c
            · clear hdv9 hfv
              obtain ⟨WW, hWW⟩ : ∃ WW, (wr.setCell ⟨w.heap.size, 0, none⟩ (.bool false)).setCell ⟨w.heap.size, 1, none⟩ (.slice none 0 0) = WW := ⟨_, rfl⟩
              obtain ⟨z0, z1, z2⟩ := ret_num (n := 0) HKX.out.1 rfl (mag_nil _) HKX.out.2 (Nat.le_refl _) hWW
              have HZ : Hid (NfdPost s w (.returned (.tuple #[.agg #[.bool false, .slice none 0 0], .bool false])) WW) := by
                obtain ⟨v, hv1, hv2, hv3⟩ := z2
                cases hv1
                exact Lib.hid ⟨_, false, 0, rfl, ⟨fun h => (by cases h), fun h => (by have h1 := h.1 _ HMEM.out; rw [HC.out] at h1; omega)⟩, hv2, fun h => (by cases h), hv3⟩
              have d0 := HKX.out.1.c0
              have d1 := HKX.out.1.c1
              have f0 := HKX.out.1.f 0
              have f1 := HKX.out.1.f 1
              clear z2
              go_wp2_with fail
              exact bodyPost_ret (v := .tuple #[.agg #[.bool false, .slice none 0 0], .bool false]) (by simp [results, Tryz.results70, go_sem, z0, z1]) rfl HZ.out
            · obtain ⟨d, hd⟩ : ∃ d, d + 48 = c := ⟨c - 48, by omega⟩
              have hd9 : d ≤ 9 := by omega
              have e1 : IntKind.u8.wrap ((c : Int) - 48) = (d : Int) := by rw [show (c : Int) - 48 = (d : Int) by omega]; show (d : Int) % 256 = d; omega
              have e2 : IntKind.u32.wrap (d : Int) = (d : Int) := by rw [wrap32_nat, Nat.mod_eq_of_lt (by omega)]
              have e3 : IntKind.u32.wrap ((dv : Int) * 10) = ((dv * 10 : Nat) : Int) := by rw [show (dv : Int) * 10 = ((dv * 10 : Nat) : Int) by push_cast; rfl, wrap32_nat, Nat.mod_eq_of_lt (by omega)]
              have e4 : IntKind.u32.wrap ((fv : Int) * 10) = ((fv * 10 : Nat) : Int) := by rw [show (fv : Int) * 10 = ((fv * 10 : Nat) : Int) by push_cast; rfl, wrap32_nat, Nat.mod_eq_of_lt (by omega)]
              go_wp2_with fail
              go_roundw
              case rel => exact ⟨by first | rfl | trivial, kn + 1, p + 1, dv * 10 + d, fv * 10, by omega, by omega, by go_num, by go_num, by go_num, by go_num, Lib.hid ⟨by have := HI.out.1; omega, by rw [Nat.pow_succ, HI.out.2.1], by rw [HDT.out, ← hd, Nat.add_sub_cancel], HN.out (by omega)⟩⟩
              case measure => simp [intOf]; omega
        · have HA := Lib.hid hA
          have HA2 : Hid (0 < kn) := Lib.hid (by
            rcases Nat.eq_zero_or_pos kn with h0 | h0
            · exact absurd ⟨by omega, by have := HI.out.1; omega⟩ hA
            · exact h0)
          have hbA : Below wr.heap.size wr (wr.alloc (.cells (cellsOf .u32 [fv]) 73)) := (Below.refl _ _).alloc (Nat.le_refl _) _
          have HEQ : Hid (dec (s.data.toList.take p) = dec (s.data.toList.take i) * fv + dv ∧ dec (s.data.toList.take i) * fv < B32 ^ (s.size + s.size + 2) ∧ dv < B32 ^ (s.size + s.size + 2) ∧ Wd B32 [dv] ∧ fv < 4294967296 ∧ 0 < fv) := Lib.hid (by
            have h1 := fd_join s.data.toList i kn (by have := HS.out.1; have := HI.out.1; omega)
            rw [HI.out.1, HI.out.2.1, HI.out.2.2.1] at h1
            have h2 : dv < fv := by rw [← HI.out.2.1, ← HI.out.2.2.1]; exact fd_lt (by rw [HI.out.1]; exact HI.out.2.2.2)
            have h3 : fv ≤ 1000000000 := by rw [← HI.out.2.1]; exact pow_k9 hk9
            have h4 := dec_b32 HI.out.2.2.2 (n := s.size + s.size + 2) (by rw [List.length_take]; have := HS.out.1; omega)
            exact ⟨h1, by omega, by omega, by intro y hy; rw [List.mem_singleton.1 hy]; show dv < 4294967296; omega, by omega, by omega⟩)
          have hF : NatV (wr.alloc (.cells (cellsOf .u32 [fv]) 73)) .u32 B32 (.slice (some ⟨wr.heap.size, 0, none⟩) 1 1) fv :=
            ⟨_, 1, [fv], rfl, (isRow_alloc wr 73 .u32 [fv]).sl (by simp) (by simp), by intro y hy; rw [List.mem_singleton.1 hy]; exact HEQ.out.2.2.2.2.1, nz_one HEQ.out.2.2.2.2.2, by simp [val]⟩
          have HMU := Lib.hid (mulMag_any (K := s.size + 1) (HM.out.1.below hbA) hF (by have := HS.out.2; omega) (dec_b32 hdig.out (by rw [List.length_take]; have := HS.out.1; omega)) (Nat.lt_of_lt_of_le HEQ.out.2.2.2.2.1 (one_b32 _)))
          have HB0 := Lib.hid (HM.out.2.trans (hbA.mono HM.out.2.size))
          clear hF hbA
          by_cases hk : kn < 9
          · have hps : ¬ p < s.size := fun h => hA ⟨hk, h⟩
            clear hA
            go_wp2_with fail
            refine HMU.out.mono ?_
            rintro e w1 ⟨v1, rfl, hv1, hb1⟩
            have hr2 := isRow_alloc w1 73 .u32 [dv]
            have hsl2 := hr2.sl (cap := 1) (by simp) (by simp)
            have hbB : Below w1.heap.size w1 (w1.alloc (.cells (cellsOf .u32 [dv]) 73)) := (Below.refl _ _).alloc (Nat.le_refl _) _
            have HTR := Lib.hid (ntrim_at (n := 1) hsl2 rfl)
            have HSL := Lib.hid (And.intro hsl2 (And.intro (hv1.below hbB) ((hb1.trans (hbB.mono hb1.size)))))
            clear HMU hr2 hsl2 hbB hv1 hb1
            go_wp2_with fail
            refine HTR.out.mono ?_
            intro e w2 ht
            obtain ⟨v2, rfl, hv2, hb2⟩ := ntrim_ret (w0 := w1.alloc (.cells (cellsOf .u32 [dv]) 73)) (n := dv) HSL.out.1 HEQ.out.2.2.2.1 (by simp [val]) (Below.refl _ _) ht
            have HAD := Lib.hid (addMag_any (K := s.size + s.size + 2) (HSL.out.2.1.below hb2) hv2 (by have := HS.out.2; omega) HEQ.out.2.1 HEQ.out.2.2.1)
            have HB2 := Lib.hid (HSL.out.2.2.trans (hb2.mono HSL.out.2.2.size))
            clear HTR HSL hv2 hb2 ht
            go_wp2_with fail
            refine HAD.out.mono ?_
            rintro e w3 ⟨v3, rfl, hv3, hb3⟩
            rw [← HEQ.out.1] at hv3
            have HV3 := Lib.hid (And.intro hv3 (HB0.out.trans ((HB2.out.trans (hb3.mono HB2.out.size)).mono HB0.out.size)))
            clear HAD hv3 hb3
            go_wp2_with fail
            go_roundw
            case rel => exact ⟨p, hp, rfl, Lib.hid HI.out.2.2.2, HV3.out.1, HV3.out.2⟩
            case measure => simp [intOf]; have := HI.out.1; have := HA2.out; omega
          · clear hA
            go_wp2_with fail
            refine HMU.out.mono ?_
            rintro e w1 ⟨v1, rfl, hv1, hb1⟩
            have hr2 := isRow_alloc w1 73 .u32 [dv]
            have hsl2 := hr2.sl (cap := 1) (by simp) (by simp)
            have hbB : Below w1.heap.size w1 (w1.alloc (.cells (cellsOf .u32 [dv]) 73)) := (Below.refl _ _).alloc (Nat.le_refl _) _
            have HTR := Lib.hid (ntrim_at (n := 1) hsl2 rfl)
            have HSL := Lib.hid (And.intro hsl2 (And.intro (hv1.below hbB) ((hb1.trans (hbB.mono hb1.size)))))
            clear HMU hr2 hsl2 hbB hv1 hb1
            go_wp2_with fail
            refine HTR.out.mono ?_
            intro e w2 ht
            obtain ⟨v2, rfl, hv2, hb2⟩ := ntrim_ret (w0 := w1.alloc (.cells (cellsOf .u32 [dv]) 73)) (n := dv) HSL.out.1 HEQ.out.2.2.2.1 (by simp [val]) (Below.refl _ _) ht
            have HAD := Lib.hid (addMag_any (K := s.size + s.size + 2) (HSL.out.2.1.below hb2) hv2 (by have := HS.out.2; omega) HEQ.out.2.1 HEQ.out.2.2.1)
            have HB2 := Lib.hid (HSL.out.2.2.trans (hb2.mono HSL.out.2.2.size))
            clear HTR HSL hv2 hb2 ht
            go_wp2_with fail
            refine HAD.out.mono ?_
            rintro e w3 ⟨v3, rfl, hv3, hb3⟩
            rw [← HEQ.out.1] at hv3
            have HV3 := Lib.hid (And.intro hv3 (HB0.out.trans ((HB2.out.trans (hb3.mono HB2.out.size)).mono HB0.out.size)))
            clear HAD hv3 hb3
            go_wp2_with fail
            go_roundw
            case rel => exact ⟨p, hp, rfl, Lib.hid HI.out.2.2.2, HV3.out.1, HV3.out.2⟩
            case measure => simp [intOf]; have := HI.out.1; have := HA2.out; omega
    · have he : i = s.size := by omega
      have hf : s.data.toList.take i = s.data.toList := List.take_of_length_le (by have := HS.out.1; omega)
      rw [hf] at hdig HM
      have HMK := Lib.hid (make1_any false HM.out.1)
      have HKX := Lib.hid (And.intro (HK.out.1.below HM.out.2) (HK.out.2.trans (HM.out.2.mono HK.out.2.size)))
      clear hf hlm
      subst he
      go_wp2_with fail
      refine HMK.out.mono ?_
      rintro e w1 ⟨v1, rfl, hv1, hb1⟩
      obtain ⟨rb, ra, rk, rc, rfl, hrb, hr1⟩ := hv1.op
      have k2 := HKX.out.1.below hb1
      have hs := HKX.out.2.trans (hb1.mono HKX.out.2.size)
      obtain ⟨WW, hWW⟩ : ∃ WW, (w1.setCell ⟨w.heap.size, 0, none⟩ (.bool rb)).setCell ⟨w.heap.size, 1, none⟩ (.slice ra rk rc) = WW := ⟨_, rfl⟩
      obtain ⟨z0, z1, z2⟩ := ret_num k2 hrb hr1 hs (Nat.le_refl _) hWW
      have d0 := k2.c0
      have d1 := k2.c1
      have f0 := k2.f 0
      have f1 := k2.f 1
      have HZ := Lib.hid z2
      clear z2 hv1 hr1 hs hb1 k2 hrb HMK HKX
      go_wp2_with fail
      obtain ⟨v4, hv4, hv5, hv6⟩ := HZ.out
      cases hv4
      refine bodyPost_ret (v := .tuple #[.agg #[.bool rb, .slice ra rk rc], .bool (!s.toList.isEmpty)]) (by simp [results, Tryz.results70, go_sem, z0, z1]) rfl ⟨_, _, _, rfl, ?_, hv5, fun _ => rfl, hv6⟩
      rw [Lib.toList_data, Bool.not_eq_true', ← Bool.not_eq_true, List.isEmpty_iff_length_eq_zero, HS.out.1]
      exact ⟨fun h => ⟨hdig.out, by omega⟩, fun h => by have := h.2; omega⟩
end Go.Proofs.YtekghemhccfhkaaGreatDoor
namespace Go.Proofs.YtekghemhccfhkaaGreatDoor
open Go.RowKit Go.Big
set_option maxRecDepth 100000 in
set_option maxHeartbeats 4000000 in
/-- RMul -/
theorem rmul_any {v v' : Value} {q1 q2 : Rat} {K : Nat} {w : World} (h : NRat w v q1) (h' : NRat w v' q2) (hK : K < 10000) (s1 : Sn K q1) (s2 : Sn K q2) : Calls Tryz.prog 42 #[v, v'] w (RetRat w (q1 * q2)) := by
  obtain ⟨b1, a1, l1, p1, c1, m1, r1, rfl, e1, h1, i1⟩ := h.op
  obtain ⟨b2, a2, l2, p2, c2, m2, r2, rfl, e2, h2, i2⟩ := h'.op
  obtain ⟨w0, hw0, hb0, k0, k1, k2, hz0⟩ := nboxes3 w #[.bool b1, .slice a1 l1 p1, .bool false, .slice c1 m1 r1] 32 #[.bool b2, .slice a2 l2 p2, .bool false, .slice c2 m2 r2] 32 #[.bool false, .slice none 0 0, .bool false, .slice none 0 0] 32 (cb4 b1 h1.cb false i1.cb) (cb4 b2 h2.cb false i2.cb) (cb4 false cb_nil false cb_nil)
  have k0 : N4 w.heap.size b1 (.slice a1 l1 p1) false (.slice c1 m1 r1) w0 := k0
  have k1 : N4 (w.heap.size + 1) b2 (.slice a2 l2 p2) false (.slice c2 m2 r2) w0 := k1
  have k2 : N4 (w.heap.size + 1 + 1) false (.slice none 0 0) false (.slice none 0 0) w0 := k2
  have HA := Lib.hid (h.below hb0)
  have HB := Lib.hid (h'.below hb0)
  have HNA := Lib.hid (num_of e1 (h1.below hb0))
  have HNB := Lib.hid (num_of e2 (h2.below hb0))
  have HM := Lib.hid (And.intro hK (And.intro s1 s2))
  obtain ⟨hd1, hm1⟩ := dn_len q1.den_nz i1
  obtain ⟨hd2, hm2⟩ := dn_len q2.den_nz i2
  clear h h' h1 h2 i1 i2 e1 e2 hz0 hK s1 s2
  have HBN := Lib.hid (show (K < 100000 ∧ K + K < 100000 ∧ K + K + 1 < 100000) ∧ (q1.num.natAbs < B32 ^ K ∧ q2.num.natAbs < B32 ^ K ∧ (q1.den : Int).natAbs < B32 ^ K ∧ (q2.den : Int).natAbs < B32 ^ K) ∧ ((q1.num * (q2.den : Int)).natAbs < B32 ^ (K + K) ∧ (q2.num * (q1.den : Int)).natAbs < B32 ^ (K + K)) ∧ (((q1.den : Int) * (q2.den : Int)).natAbs < B32 ^ (K + K + 1) ∧ (q1.num * (q2.den : Int) + q2.num * (q1.den : Int)).natAbs < B32 ^ (K + K + 1) ∧ (q1.num * q2.num).natAbs < B32 ^ (K + K + 1)) from by
    have hk := HM.out.1
    obtain ⟨n1, d1⟩ := HM.out.2.1
    obtain ⟨n2, d2⟩ := HM.out.2.2
    have d1 : (q1.den : Int).natAbs < B32 ^ K := by rw [den_abs]; exact d1
    have d2 : (q2.den : Int).natAbs < B32 ^ K := by rw [den_abs]; exact d2
    exact ⟨⟨by omega, by omega, by omega⟩, ⟨n1, n2, d1, d2⟩, ⟨sn_mul n1 d2, sn_mul n2 d1⟩, sn_up (sn_mul d1 d2), sn_add (sn_mul n1 d2) (sn_mul n2 d1), sn_up (sn_mul n1 n2)⟩)
  have y00 := k0.c0
  have y01 := k0.c1
  have y02 := k0.c2
  have y03 := k0.c3
  have y10 := k1.c0
  have y11 := k1.c1
  have y12 := k1.c2
  have y13 := k1.c3
  have HPD := Lib.hid (show (0 : Int) < (q1.den : Int) * (q2.den : Int) from Int.mul_pos (by have := rat_den_pos q1; omega) (by have := rat_den_pos q2; omega))
  have HQ := Lib.hid (show (q1 * q2).num * ((q1.den : Int) * (q2.den : Int)) = (q1.num * q2.num) * (q1 * q2).den from by have := rat_mul q1 q2; rwa [Int.natCast_mul] at this)
  by_cases hden : q1.den = 1 ∧ q2.den = 1
  · have t1 : ((m1 : Int) == 0) = true := by rw [beq_iff_eq]; have := hd1.2 hden.1; omega
    have t2 : ((m2 : Int) == 0) = true := by rw [beq_iff_eq]; have := hd2.2 hden.2; omega
    have HDD := Lib.hid (mul_whole hden.1 hden.2)
    have HC := Lib.hid (nmul_any (K := K) HNA.out HNB.out (by have := HM.out.1; omega) HM.out.2.1.1 HM.out.2.2.1)
    clear hd1 hd2 hden
    go_enter Tryz.func42, Tryz.ntmps42
    go_wp2_with fail
    refine HC.out.mono ?_
    rintro e w1 ⟨v1, rfl, hv1, hb1⟩
    have hv1 := numv_signed (m := (q1 * q2).num) hv1 HDD.out.1.symm
    obtain ⟨rb, ra, rk, rc, rfl, hrb, hr1⟩ := hv1.op
    have k2 := k2.below hb1
    have hs := hb0.trans (hb1.mono hb0.size)
    obtain ⟨WW, hWW⟩ : ∃ WW, (((w1.setCell ⟨w.heap.size + 1 + 1, 0, none⟩ (.bool rb)).setCell ⟨w.heap.size + 1 + 1, 1, none⟩ (.slice ra rk rc)).setCell ⟨w.heap.size + 1 + 1, 2, none⟩ (.bool false)).setCell ⟨w.heap.size + 1 + 1, 3, none⟩ (.slice none 0 0) = WW := ⟨_, rfl⟩
    obtain ⟨z0, z1, z2, z3, z4⟩ := ret_rat (q := q1 * q2) k2 hrb hr1 (by rw [HDD.out.2]; exact mag_nil _) hs (by omega) hWW
    have HZ := Lib.hid z4
    have d0 := k2.c0
    have f0 := k2.f 0
    have d1 := k2.c1
    have f1 := k2.f 1
    have d2 := k2.c2
    have f2 := k2.f 2
    have d3 := k2.c3
    have f3 := k2.f 3
    clear hs hb1 hb0 z4 k0 k1 k2 hr1 hrb hv1 HC y00 y01 y02 y03 y10 y11 y12 y13
    go_wp2_with fail
    exact bodyPost_ret (v := .agg #[.bool rb, .slice ra rk rc, .bool false, .slice none 0 0]) (by simp [results, Tryz.results42, go_sem, z0, z1, z2, z3]) rfl HZ.out
  · by_cases hx1 : q1.den = 1
    · have hx2 : ¬ q2.den = 1 := fun h => hden ⟨hx1, h⟩
      have t1 : ((m1 : Int) == 0) = true := by rw [beq_iff_eq]; have := hd1.2 hx1; omega
      have t2 : ((m2 : Int) == 0) = false := by rw [beq_eq_false_iff_ne]; have := mt hd2.1 hx2; omega
      clear hd1 hd2 hden hx1 hx2
      go_enter Tryz.func42, Tryz.ntmps42
      go_wp2_with fail
      have n02 : w.heap.size ≠ w.heap.size + 1 + 1 := by omega
      have n12 : w.heap.size + 1 ≠ w.heap.size + 1 + 1 := by omega
      have hg : w.heap.size ≤ w.heap.size + 1 + 1 := by omega
      have k0 : N4 w.heap.size b1 (.slice a1 l1 p1) false (.slice c1 m1 r1) w0.drew := k0
      have k1 : N4 (w.heap.size + 1) b2 (.slice a2 l2 p2) false (.slice c2 m2 r2) w0.drew := k1
      have k2 : N4 (w.heap.size + 1 + 1) false (.slice none 0 0) false (.slice none 0 0) w0.drew := k2
      have hc : Below w0.heap.size w0 w0.drew := (Below.refl _ _).drew
      have hs : Below w.heap.size w w0.drew := hb0.drew
      go_region_held3 (fun w' => w'.cell? ⟨w.heap.size, 0, none⟩ = some (.bool b1) ∧ w'.cell? ⟨w.heap.size, 1, none⟩ = some (.slice a1 l1 p1) ∧ w'.cell? ⟨w.heap.size, 2, none⟩ = some (.bool false) ∧ w'.cell? ⟨w.heap.size, 3, none⟩ = some (.slice c1 m1 r1) ∧ w'.cell? ⟨(w.heap.size + 1), 0, none⟩ = some (.bool b2) ∧ w'.cell? ⟨(w.heap.size + 1), 1, none⟩ = some (.slice a2 l2 p2) ∧ w'.cell? ⟨(w.heap.size + 1), 2, none⟩ = some (.bool false) ∧ w'.cell? ⟨(w.heap.size + 1), 3, none⟩ = some (.slice c2 m2 r2) ∧ Below w.heap.size w w') (first | (with_reducible exact ⟨k0.c0, k0.c1, k0.c2, k0.c3, k1.c0, k1.c1, k1.c2, k1.c3, hs⟩) | (with_reducible exact ⟨(k0.o4 n02 _ _ _ _).c0, (k0.o4 n02 _ _ _ _).c1, (k0.o4 n02 _ _ _ _).c2, (k0.o4 n02 _ _ _ _).c3, (k1.o4 n12 _ _ _ _).c0, (k1.o4 n12 _ _ _ _).c1, (k1.o4 n12 _ _ _ _).c2, (k1.o4 n12 _ _ _ _).c3, hs.sn4 hg _ _ _ _⟩) | fail) (first | (go_at_call 72; (with_reducible refine (nmul_any (K := K) (HNA.out.below hc) (HNB.out.below hc) HBN.out.1.1 HBN.out.2.1.1 HBN.out.2.1.2.1).mono ?_); rintro e wP ⟨vP, rfl, hP, hbP⟩; have k0 := k0.below hbP; have k1 := k1.below hbP; have k2 := k2.below hbP; have hs := hs.trans (hbP.mono hs.size); have hc := hc.trans (hbP.mono hc.size); (try have ha := ha.below hbP); (try have hb := hb.below hbP)) | (go_at_call 83; (with_reducible refine (nden0_any (HA.out.below hc)).mono ?_); rintro e wa ⟨va, rfl, ha, hba⟩; have k0 := k0.below hba; have k1 := k1.below hba; have k2 := k2.below hba; have hs := hs.trans (hba.mono hs.size); have hc := hc.trans (hba.mono hc.size); (try have hb := hb.below hba); (try have hP := hP.below hba); (try have hQ := hQ.below hba); (try have hS := hS.below hba); (try have hD := hD.below hba)) | (go_at_call 83; (with_reducible refine (nden0_any (HB.out.below hc)).mono ?_); rintro e wb ⟨vb, rfl, hb, hbb⟩; have k0 := k0.below hbb; have k1 := k1.below hbb; have k2 := k2.below hbb; have hs := hs.trans (hbb.mono hs.size); have hc := hc.trans (hbb.mono hc.size); (try have ha := ha.below hbb); (try have hP := hP.below hbb); (try have hQ := hQ.below hbb); (try have hS := hS.below hbb); (try have hD := hD.below hbb)) | (go_at_call 72; (with_reducible refine (nmul_any (K := K) ha hb HBN.out.1.1 HBN.out.2.1.2.2.1 HBN.out.2.1.2.2.2).mono ?_); rintro e wD ⟨vD, rfl, hD, hbD⟩; have k0 := k0.below hbD; have k1 := k1.below hbD; have k2 := k2.below hbD; have hs := hs.trans (hbD.mono hs.size); have hc := hc.trans (hbD.mono hc.size); (try have hP := hP.below hbD)) | (go_at_call 75; (with_reducible refine (frac_pos (K := K + K + 1) (q := q1 * q2) hP hD HPD.out HBN.out.1.2.2 HBN.out.2.2.2.2.2 HBN.out.2.2.2.1 HQ.out).mono ?_); rintro e wR ⟨vR, rfl, hR, hbR⟩; have k0 := k0.below hbR; have k1 := k1.below hbR; have k2 := k2.below hbR; have hs := hs.trans (hbR.mono hs.size); have hc := hc.trans (hbR.mono hc.size); obtain ⟨rb, ra, rk, rc, ra', rk', rc', rfl, hrb, hr1, hr2⟩ := hR.op; have HRB := Lib.hid hrb; clear hrb; have d0 := k2.c0; have f0 := k2.f 0; have d1 := k2.c1; have f1 := k2.f 1; have d2 := k2.c2; have f2 := k2.f 2; have d3 := k2.c3; have f3 := k2.f 3) | fail)
      obtain ⟨WW, hWW⟩ : ∃ WW, (((wR.setCell ⟨w.heap.size + 1 + 1, 0, none⟩ (.bool rb)).setCell ⟨w.heap.size + 1 + 1, 1, none⟩ (.slice ra rk rc)).setCell ⟨w.heap.size + 1 + 1, 2, none⟩ (.bool false)).setCell ⟨w.heap.size + 1 + 1, 3, none⟩ (.slice ra' rk' rc') = WW := ⟨_, rfl⟩
      rw [hWW]
      obtain ⟨z0, z1, z2, z3, z4⟩ := ret_rat (q := q1 * q2) k2 HRB.out hr1 hr2 hs hg hWW
      have HZ := Lib.hid z4
      clear hs hc hWW z4 k0 k1 k2 hr1 hr2 d0 d1 d2 d3 f0 f1 f2 f3
      go_wp2_with fail
      exact bodyPost_ret (v := .agg #[.bool rb, .slice ra rk rc, .bool false, .slice ra' rk' rc']) (by simp [results, Tryz.results42, go_sem, z0, z1, z2, z3]) rfl HZ.out
    · have t1 : ((m1 : Int) == 0) = false := by rw [beq_eq_false_iff_ne]; have := mt hd1.1 hx1; omega
      clear hd1 hd2 hden hx1
      go_enter Tryz.func42, Tryz.ntmps42
      go_wp2_with fail
      have n02 : w.heap.size ≠ w.heap.size + 1 + 1 := by omega
      have n12 : w.heap.size + 1 ≠ w.heap.size + 1 + 1 := by omega
      have hg : w.heap.size ≤ w.heap.size + 1 + 1 := by omega
      have k0 : N4 w.heap.size b1 (.slice a1 l1 p1) false (.slice c1 m1 r1) w0.drew := k0
      have k1 : N4 (w.heap.size + 1) b2 (.slice a2 l2 p2) false (.slice c2 m2 r2) w0.drew := k1
      have k2 : N4 (w.heap.size + 1 + 1) false (.slice none 0 0) false (.slice none 0 0) w0.drew := k2
      have hc : Below w0.heap.size w0 w0.drew := (Below.refl _ _).drew
      have hs : Below w.heap.size w w0.drew := hb0.drew
      go_region_held3 (fun w' => w'.cell? ⟨w.heap.size, 0, none⟩ = some (.bool b1) ∧ w'.cell? ⟨w.heap.size, 1, none⟩ = some (.slice a1 l1 p1) ∧ w'.cell? ⟨w.heap.size, 2, none⟩ = some (.bool false) ∧ w'.cell? ⟨w.heap.size, 3, none⟩ = some (.slice c1 m1 r1) ∧ w'.cell? ⟨(w.heap.size + 1), 0, none⟩ = some (.bool b2) ∧ w'.cell? ⟨(w.heap.size + 1), 1, none⟩ = some (.slice a2 l2 p2) ∧ w'.cell? ⟨(w.heap.size + 1), 2, none⟩ = some (.bool false) ∧ w'.cell? ⟨(w.heap.size + 1), 3, none⟩ = some (.slice c2 m2 r2) ∧ Below w.heap.size w w') (first | (with_reducible exact ⟨k0.c0, k0.c1, k0.c2, k0.c3, k1.c0, k1.c1, k1.c2, k1.c3, hs⟩) | (with_reducible exact ⟨(k0.o4 n02 _ _ _ _).c0, (k0.o4 n02 _ _ _ _).c1, (k0.o4 n02 _ _ _ _).c2, (k0.o4 n02 _ _ _ _).c3, (k1.o4 n12 _ _ _ _).c0, (k1.o4 n12 _ _ _ _).c1, (k1.o4 n12 _ _ _ _).c2, (k1.o4 n12 _ _ _ _).c3, hs.sn4 hg _ _ _ _⟩) | fail) (first | (go_at_call 72; (with_reducible refine (nmul_any (K := K) (HNA.out.below hc) (HNB.out.below hc) HBN.out.1.1 HBN.out.2.1.1 HBN.out.2.1.2.1).mono ?_); rintro e wP ⟨vP, rfl, hP, hbP⟩; have k0 := k0.below hbP; have k1 := k1.below hbP; have k2 := k2.below hbP; have hs := hs.trans (hbP.mono hs.size); have hc := hc.trans (hbP.mono hc.size); (try have ha := ha.below hbP); (try have hb := hb.below hbP)) | (go_at_call 83; (with_reducible refine (nden0_any (HA.out.below hc)).mono ?_); rintro e wa ⟨va, rfl, ha, hba⟩; have k0 := k0.below hba; have k1 := k1.below hba; have k2 := k2.below hba; have hs := hs.trans (hba.mono hs.size); have hc := hc.trans (hba.mono hc.size); (try have hb := hb.below hba); (try have hP := hP.below hba); (try have hQ := hQ.below hba); (try have hS := hS.below hba); (try have hD := hD.below hba)) | (go_at_call 83; (with_reducible refine (nden0_any (HB.out.below hc)).mono ?_); rintro e wb ⟨vb, rfl, hb, hbb⟩; have k0 := k0.below hbb; have k1 := k1.below hbb; have k2 := k2.below hbb; have hs := hs.trans (hbb.mono hs.size); have hc := hc.trans (hbb.mono hc.size); (try have ha := ha.below hbb); (try have hP := hP.below hbb); (try have hQ := hQ.below hbb); (try have hS := hS.below hbb); (try have hD := hD.below hbb)) | (go_at_call 72; (with_reducible refine (nmul_any (K := K) ha hb HBN.out.1.1 HBN.out.2.1.2.2.1 HBN.out.2.1.2.2.2).mono ?_); rintro e wD ⟨vD, rfl, hD, hbD⟩; have k0 := k0.below hbD; have k1 := k1.below hbD; have k2 := k2.below hbD; have hs := hs.trans (hbD.mono hs.size); have hc := hc.trans (hbD.mono hc.size); (try have hP := hP.below hbD)) | (go_at_call 75; (with_reducible refine (frac_pos (K := K + K + 1) (q := q1 * q2) hP hD HPD.out HBN.out.1.2.2 HBN.out.2.2.2.2.2 HBN.out.2.2.2.1 HQ.out).mono ?_); rintro e wR ⟨vR, rfl, hR, hbR⟩; have k0 := k0.below hbR; have k1 := k1.below hbR; have k2 := k2.below hbR; have hs := hs.trans (hbR.mono hs.size); have hc := hc.trans (hbR.mono hc.size); obtain ⟨rb, ra, rk, rc, ra', rk', rc', rfl, hrb, hr1, hr2⟩ := hR.op; have HRB := Lib.hid hrb; clear hrb; have d0 := k2.c0; have f0 := k2.f 0; have d1 := k2.c1; have f1 := k2.f 1; have d2 := k2.c2; have f2 := k2.f 2; have d3 := k2.c3; have f3 := k2.f 3) | fail)
      obtain ⟨WW, hWW⟩ : ∃ WW, (((wR.setCell ⟨w.heap.size + 1 + 1, 0, none⟩ (.bool rb)).setCell ⟨w.heap.size + 1 + 1, 1, none⟩ (.slice ra rk rc)).setCell ⟨w.heap.size + 1 + 1, 2, none⟩ (.bool false)).setCell ⟨w.heap.size + 1 + 1, 3, none⟩ (.slice ra' rk' rc') = WW := ⟨_, rfl⟩
      rw [hWW]
      obtain ⟨z0, z1, z2, z3, z4⟩ := ret_rat (q := q1 * q2) k2 HRB.out hr1 hr2 hs hg hWW
      have HZ := Lib.hid z4
      clear hs hc hWW z4 k0 k1 k2 hr1 hr2 d0 d1 d2 d3 f0 f1 f2 f3
      go_wp2_with fail
      exact bodyPost_ret (v := .agg #[.bool rb, .slice ra rk rc, .bool false, .slice ra' rk' rc']) (by simp [results, Tryz.results42, go_sem, z0, z1, z2, z3]) rfl HZ.out
end Go.Proofs.YtekghemhccfhkaaGreatDoor
