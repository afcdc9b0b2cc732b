/-
  Walks of the program's functions: IntJ, IntK, FracA.
-/
import Derived.Test.YtekghemhccfhkaaGreatDoorB32
import Derived.Deep.RegionWith
import Derived.Test.YtekghemhccfhkaaGreatDoorB02
namespace Go.Big
open Go Go.RowKit
theorem isS_one : IsS 1 := ⟨by omega, by omega⟩
theorem ediv_same {n m : Int} (hm : 0 < m) (h : n.tmod m = 0 ∨ 0 ≤ n) : n / m = n.tdiv m ∧ n % m = n.tmod m := by
  have e := Int.mul_tdiv_add_tmod n m
  have hb : (n.tmod m).natAbs < m.natAbs := by rw [Int.natAbs_tmod]; exact Nat.mod_lt _ (by omega)
  have h0 : 0 ≤ n.tmod m := by
    rcases h with h | h
    · omega
    · exact Int.tmod_nonneg m h
  exact (Int.ediv_emod_unique hm).2 ⟨by omega, h0, by omega⟩
theorem ediv_less {n m : Int} (hm : 0 < m) (h : n.tmod m ≠ 0) (hn : n < 0) : n / m = n.tdiv m - 1 ∧ n % m = n.tmod m + m := by
  have e := Int.mul_tdiv_add_tmod n m
  have hb : (n.tmod m).natAbs < m.natAbs := by rw [Int.natAbs_tmod]; exact Nat.mod_lt _ (by omega)
  have h0 : n.tmod m ≤ 0 := by
    have := Int.tmod_nonneg (a := -n) m (by omega)
    rw [Int.neg_tmod] at this
    omega
  refine (Int.ediv_emod_unique hm).2 ⟨?_, by omega, by omega⟩
  rw [Int.mul_sub, Int.mul_one]; omega
theorem s_step6 {w w' w1 : World} {g0 g1 g2 : Nat} {x y z : Int} {p q r : Option Addr} (s1 : w'.cell? ⟨g0, 0, none⟩ = some (.int .i64 x)) (s2 : w'.cell? ⟨g0, 1, none⟩ = some (.pointer p))
    (s3 : w'.cell? ⟨g1, 0, none⟩ = some (.int .i64 y)) (s4 : w'.cell? ⟨g1, 1, none⟩ = some (.pointer q)) (s5 : w'.cell? ⟨g2, 0, none⟩ = some (.int .i64 z)) (s6 : w'.cell? ⟨g2, 1, none⟩ = some (.pointer r)) (s7 : Below w.heap.size w w') (hb : Below w'.heap.size w' w1) :
    w1.cell? ⟨g0, 0, none⟩ = some (.int .i64 x) ∧ w1.cell? ⟨g0, 1, none⟩ = some (.pointer p) ∧ w1.cell? ⟨g1, 0, none⟩ = some (.int .i64 y) ∧ w1.cell? ⟨g1, 1, none⟩ = some (.pointer q) ∧ w1.cell? ⟨g2, 0, none⟩ = some (.int .i64 z) ∧ w1.cell? ⟨g2, 1, none⟩ = some (.pointer r) ∧ Below w.heap.size w w1 := by
  obtain ⟨t1, t2, t3, t4, t5⟩ := s_step4 s1 s2 s3 s4 s7 hb
  exact ⟨t1, t2, t3, t4, (hb.cell (p := ⟨g2, 0, none⟩) (World.block_lt_of_cell? w' _ s5)).trans s5, (hb.cell (p := ⟨g2, 1, none⟩) (World.block_lt_of_cell? w' _ s6)).trans s6, t5⟩
theorem s_chain6 {w w3 : World} {g0 g1 g2 g i j : Nat} {x y z : Int} {p q r : Option Addr} {c d : Value} (s1 : w3.cell? ⟨g0, 0, none⟩ = some (.int .i64 x)) (s2 : w3.cell? ⟨g0, 1, none⟩ = some (.pointer p))
    (s3 : w3.cell? ⟨g1, 0, none⟩ = some (.int .i64 y)) (s4 : w3.cell? ⟨g1, 1, none⟩ = some (.pointer q)) (s5 : w3.cell? ⟨g2, 0, none⟩ = some (.int .i64 z)) (s6 : w3.cell? ⟨g2, 1, none⟩ = some (.pointer r)) (s7 : Below w.heap.size w w3) (h0 : g0 ≠ g) (h1 : g1 ≠ g) (h2 : g2 ≠ g) (hg : w.heap.size ≤ g) :
    ((w3.setCell ⟨g, i, none⟩ c).setCell ⟨g, j, none⟩ d).cell? ⟨g0, 0, none⟩ = some (.int .i64 x) ∧ ((w3.setCell ⟨g, i, none⟩ c).setCell ⟨g, j, none⟩ d).cell? ⟨g0, 1, none⟩ = some (.pointer p) ∧
      ((w3.setCell ⟨g, i, none⟩ c).setCell ⟨g, j, none⟩ d).cell? ⟨g1, 0, none⟩ = some (.int .i64 y) ∧ ((w3.setCell ⟨g, i, none⟩ c).setCell ⟨g, j, none⟩ d).cell? ⟨g1, 1, none⟩ = some (.pointer q) ∧
      ((w3.setCell ⟨g, i, none⟩ c).setCell ⟨g, j, none⟩ d).cell? ⟨g2, 0, none⟩ = some (.int .i64 z) ∧ ((w3.setCell ⟨g, i, none⟩ c).setCell ⟨g, j, none⟩ d).cell? ⟨g2, 1, none⟩ = some (.pointer r) ∧
      Below w.heap.size w ((w3.setCell ⟨g, i, none⟩ c).setCell ⟨g, j, none⟩ d) :=
  ⟨by rw [cell_setO h0, cell_setO h0]; exact s1, by rw [cell_setO h0, cell_setO h0]; exact s2, by rw [cell_setO h1, cell_setO h1]; exact s3, by rw [cell_setO h1, cell_setO h1]; exact s4, by rw [cell_setO h2, cell_setO h2]; exact s5, by rw [cell_setO h2, cell_setO h2]; exact s6, (s7.setCell hg _).setCell hg _⟩
theorem s_chain2d {w w3 : World} {g0 g1 g2 i j : Nat} {x y : Int} {p q : Option Addr} {c d : Value} (s1 : w3.cell? ⟨g0, 0, none⟩ = some (.int .i64 x)) (s2 : w3.cell? ⟨g0, 1, none⟩ = some (.pointer p))
    (s3 : w3.cell? ⟨g1, 0, none⟩ = some (.int .i64 y)) (s4 : w3.cell? ⟨g1, 1, none⟩ = some (.pointer q)) (s5 : Below w.heap.size w w3) (h0 : g0 ≠ g2) (h1 : g1 ≠ g2) (hg : w.heap.size ≤ g2) :
    ((w3.setCell ⟨g2, i, none⟩ c).setCell ⟨g2, j, none⟩ d).drew.cell? ⟨g0, 0, none⟩ = some (.int .i64 x) ∧ ((w3.setCell ⟨g2, i, none⟩ c).setCell ⟨g2, j, none⟩ d).drew.cell? ⟨g0, 1, none⟩ = some (.pointer p) ∧
      ((w3.setCell ⟨g2, i, none⟩ c).setCell ⟨g2, j, none⟩ d).drew.cell? ⟨g1, 0, none⟩ = some (.int .i64 y) ∧ ((w3.setCell ⟨g2, i, none⟩ c).setCell ⟨g2, j, none⟩ d).drew.cell? ⟨g1, 1, none⟩ = some (.pointer q) ∧
      Below w.heap.size w ((w3.setCell ⟨g2, i, none⟩ c).setCell ⟨g2, j, none⟩ d).drew := by
  obtain ⟨t1, t2, t3, t4, t5⟩ := s_chain2 (i := i) (j := j) (c := c) (d := d) s1 s2 s3 s4 s5 h0 h1 hg
  exact s_drew4 t1 t2 t3 t4 t5
theorem s_chain4d {w w3 : World} {g0 g1 g2 g3 i j k l : Nat} {x y : Int} {p q : Option Addr} {c d e f : Value} (s1 : w3.cell? ⟨g0, 0, none⟩ = some (.int .i64 x)) (s2 : w3.cell? ⟨g0, 1, none⟩ = some (.pointer p))
    (s3 : w3.cell? ⟨g1, 0, none⟩ = some (.int .i64 y)) (s4 : w3.cell? ⟨g1, 1, none⟩ = some (.pointer q)) (s5 : Below w.heap.size w w3) (h0 : g0 ≠ g2) (h1 : g1 ≠ g2) (hg : w.heap.size ≤ g2) (h3 : g0 ≠ g3) (h4 : g1 ≠ g3) (hg3 : w.heap.size ≤ g3) :
    ((((w3.setCell ⟨g2, i, none⟩ c).setCell ⟨g2, j, none⟩ d).setCell ⟨g3, k, none⟩ e).setCell ⟨g3, l, none⟩ f).drew.cell? ⟨g0, 0, none⟩ = some (.int .i64 x) ∧ ((((w3.setCell ⟨g2, i, none⟩ c).setCell ⟨g2, j, none⟩ d).setCell ⟨g3, k, none⟩ e).setCell ⟨g3, l, none⟩ f).drew.cell? ⟨g0, 1, none⟩ = some (.pointer p) ∧
      ((((w3.setCell ⟨g2, i, none⟩ c).setCell ⟨g2, j, none⟩ d).setCell ⟨g3, k, none⟩ e).setCell ⟨g3, l, none⟩ f).drew.cell? ⟨g1, 0, none⟩ = some (.int .i64 y) ∧ ((((w3.setCell ⟨g2, i, none⟩ c).setCell ⟨g2, j, none⟩ d).setCell ⟨g3, k, none⟩ e).setCell ⟨g3, l, none⟩ f).drew.cell? ⟨g1, 1, none⟩ = some (.pointer q) ∧
      Below w.heap.size w ((((w3.setCell ⟨g2, i, none⟩ c).setCell ⟨g2, j, none⟩ d).setCell ⟨g3, k, none⟩ e).setCell ⟨g3, l, none⟩ f).drew := by
  obtain ⟨t1, t2, t3, t4, t5⟩ := s_chain4 (i := i) (j := j) (c := c) (d := d) (k := k) (l := l) (e := e) (f := f) s1 s2 s3 s4 s5 h0 h1 hg h3 h4 hg3
  exact s_drew4 t1 t2 t3 t4 t5
theorem s_chain8 {w w3 : World} {g0 g1 g2 g h i j k l : Nat} {x y z : Int} {p q r : Option Addr} {c d e f : Value} (h0 : g0 ≠ g) (h1 : g1 ≠ g) (h2 : g2 ≠ g) (hg : w.heap.size ≤ g) (i0 : g0 ≠ h) (i1 : g1 ≠ h) (i2 : g2 ≠ h) (hh : w.heap.size ≤ h) (s1 : w3.cell? ⟨g0, 0, none⟩ = some (.int .i64 x)) (s2 : w3.cell? ⟨g0, 1, none⟩ = some (.pointer p))
    (s3 : w3.cell? ⟨g1, 0, none⟩ = some (.int .i64 y)) (s4 : w3.cell? ⟨g1, 1, none⟩ = some (.pointer q)) (s5 : w3.cell? ⟨g2, 0, none⟩ = some (.int .i64 z)) (s6 : w3.cell? ⟨g2, 1, none⟩ = some (.pointer r)) (s7 : Below w.heap.size w w3) :
    ((((w3.setCell ⟨g, i, none⟩ c).setCell ⟨g, j, none⟩ d).setCell ⟨h, k, none⟩ e).setCell ⟨h, l, none⟩ f).cell? ⟨g0, 0, none⟩ = some (.int .i64 x) ∧ ((((w3.setCell ⟨g, i, none⟩ c).setCell ⟨g, j, none⟩ d).setCell ⟨h, k, none⟩ e).setCell ⟨h, l, none⟩ f).cell? ⟨g0, 1, none⟩ = some (.pointer p) ∧
      ((((w3.setCell ⟨g, i, none⟩ c).setCell ⟨g, j, none⟩ d).setCell ⟨h, k, none⟩ e).setCell ⟨h, l, none⟩ f).cell? ⟨g1, 0, none⟩ = some (.int .i64 y) ∧ ((((w3.setCell ⟨g, i, none⟩ c).setCell ⟨g, j, none⟩ d).setCell ⟨h, k, none⟩ e).setCell ⟨h, l, none⟩ f).cell? ⟨g1, 1, none⟩ = some (.pointer q) ∧
      ((((w3.setCell ⟨g, i, none⟩ c).setCell ⟨g, j, none⟩ d).setCell ⟨h, k, none⟩ e).setCell ⟨h, l, none⟩ f).cell? ⟨g2, 0, none⟩ = some (.int .i64 z) ∧ ((((w3.setCell ⟨g, i, none⟩ c).setCell ⟨g, j, none⟩ d).setCell ⟨h, k, none⟩ e).setCell ⟨h, l, none⟩ f).cell? ⟨g2, 1, none⟩ = some (.pointer r) ∧
      Below w.heap.size w ((((w3.setCell ⟨g, i, none⟩ c).setCell ⟨g, j, none⟩ d).setCell ⟨h, k, none⟩ e).setCell ⟨h, l, none⟩ f) := by
  obtain ⟨t1, t2, t3, t4, t5, t6, t7⟩ := s_chain6 (i := i) (j := j) (c := c) (d := d) s1 s2 s3 s4 s5 s6 s7 h0 h1 h2 hg
  exact s_chain6 t1 t2 t3 t4 t5 t6 t7 i0 i1 i2 hh
end Go.Big
namespace Go.Proofs.YtekghemhccfhkaaGreatDoor
open Go.RowKit Go.Big
theorem retInt2_drew {w WW : World} {a b : Int} {e : Ending} (h : RetInt2 w a b e WW) : RetInt2 w a b e WW.drew := by
  obtain ⟨v, v', h1, h2, h3, h4⟩ := h
  exact ⟨v, v', h1, h2.below (Below.refl WW.heap.size WW).drew, h3.below (Below.refl WW.heap.size WW).drew, h4.drew⟩
set_option maxRecDepth 100000 in
set_option maxHeartbeats 4000000 in
theorem div_pos {x y : Int} {p q : Option Addr} {n m : Int} {w : World} (hx : IntV w (.agg #[.int .i64 x, .pointer p]) n) (hy : IntV w (.agg #[.int .i64 y, .pointer q]) m) {K : Nat} (hm0 : 0 < m) (hK : K < 239) (hn : n.natAbs < B64 ^ K) (hm : m.natAbs < B64 ^ K) :
    Calls Tryz.prog 128 #[.agg #[.int .i64 x, .pointer p], .agg #[.int .i64 y, .pointer q]] w (RetInt2 w (n / m) (n % m)) := by
  obtain ⟨w0, hw0, hb0, kx, ky, k2, k3, hsz⟩ := four_boxes w x p y q
  have HVX := Lib.hid hx
  have HVY := Lib.hid hy
  have e1 := kx.c0
  have e2 := kx.c1
  have e3 := ky.c0
  have e4 := ky.c1
  have HB := Lib.hid hb0
  have HK := Lib.hid (And.intro kx (And.intro ky (And.intro k2 k3)))
  have HM := Lib.hid (And.intro hm0 (And.intro hn hm))
  have HSZ := Lib.hid hsz
  have hsg : Int.sign m = 1 := Int.sign_eq_one_of_pos hm0
  have HSG := Lib.hid (by have := sign_any (hy.below hb0); rw [hsg] at this; exact this)
  clear kx ky k2 k3 hb0 hx hy hsz hm0 hn hm hsg
  go_enter Tryz.func128, Tryz.ntmps128
  go_wp2_with fail
  refine HSG.out.mono ?_
  rintro e w1 ⟨rfl, hb1⟩
  obtain ⟨kx, ky, k2, k3⟩ := HK.out
  have kx := kx.below hb1
  have ky := ky.below hb1
  have k2 := k2.below hb1
  have k3 := k3.below hb1
  have e1 := kx.c0
  have e2 := kx.c1
  have e3 := ky.c0
  have e4 := ky.c1
  have HB1 := Lib.hid (below_trans HB.out hb1)
  have HK1 := Lib.hid (And.intro kx (And.intro ky (And.intro k2 k3)))
  have HD := Lib.hid (divS_any (HVX.out.below HB1.out) (HVY.out.below HB1.out) (by have := HM.out.1; omega) hK HM.out.2.1 HM.out.2.2)
  clear kx ky k2 k3 hb1 HK HSG
  go_wp2_with fail
  refine HD.out.mono ?_
  rintro e w2 ⟨v, v', rfl, hv, hv', hb2⟩
  obtain ⟨y1, q1, rfl⟩ := hv.two
  obtain ⟨y2, q2, rfl⟩ := hv'.two
  obtain ⟨kx, ky, k2, k3⟩ := HK1.out
  have kx := kx.below hb2
  have ky := ky.below hb2
  have k2 := k2.below hb2
  have k3 := k3.below hb2
  have HB2 := Lib.hid (below_trans HB1.out hb2)
  have HK2 := Lib.hid (And.intro kx (And.intro ky (And.intro k2 k3)))
  have HV := Lib.hid (And.intro hv hv')
  clear kx ky k2 k3 hb2 HK1 HD hv hv' e1 e2 e3 e4
  obtain ⟨W, hW, hbW, j1, j2, hsW⟩ := pair_boxes w2 y1 q1 y2 q2
  have HBW := Lib.hid hbW
  have HJ := Lib.hid (And.intro j1 j2)
  have HSW := Lib.hid hsW
  clear hbW j1 j2 hsW
  go_wp2_with fail
  have f1 := HJ.out.2.c0
  have f2 := HJ.out.2.c1
  have HS := Lib.hid (sign_any ((HV.out.2.below HBW.out).below (Below.refl W.heap.size W).drew))
  by_cases hr : n.tmod m = 0
  · rw [hr] at HS
    have HE := Lib.hid (ediv_same HM.out.1 (.inl hr))
    clear hr
    have hz : ((Int.sign 0) != 0) = false := rfl
    go_region_with (first | (go_at_call 65; refine HS.out.mono ?_; rintro e w3 ⟨rfl, hb3⟩))
    all_goals
      obtain ⟨kx, ky, k2, k3⟩ := HK2.out
      have hge : w.heap.size + 3 < w2.heap.size := Bx.lt k3
      obtain ⟨j1, j2⟩ := HJ.out
      have hbb := (((Below.refl W.heap.size W).drew).trans hb3 : Below W.heap.size W w3)
      have hs := HB2.out.trans ((HBW.out.trans (hbb.mono HBW.out.size)).mono HB2.out.size)
      have ky := (ky.below HBW.out).below hbb
      have k2 := (k2.below HBW.out).below hbb
      have k3 := (k3.below HBW.out).below hbb
      have j1 := j1.below hbb
      have j2 := j2.below hbb
      have hv := (HV.out.1.below HBW.out).below hbb
      have hv' := (HV.out.2.below HBW.out).below hbb
      clear kx hbb
      clear hb3 f1 f2 ky
      go_wp2_with fail
      have t1 := j1.c0
      have t2 := j1.c1
      have t3 := j2.c0
      have t4 := j2.c1
      have t5 := hs
      have c0 := k2.c0
      have c1 := k2.c1
      have f0 := k2.f 0
      have f1 := k2.f 1
      have c2 := k3.c0
      have c3 := k3.c1
      have f2 := k3.f 0
      have f3 := k3.f 1
      obtain ⟨s1, s2, s3, s4, s5⟩ := s_drew4 t1 t2 t3 t4 hs
      go_region_held3 (fun w' => w'.cell? ⟨w2.heap.size, 0, none⟩ = some (.int .i64 y1) ∧ w'.cell? ⟨w2.heap.size, 1, none⟩ = some (.pointer q1) ∧ w'.cell? ⟨w2.heap.size + 1, 0, none⟩ = some (.int .i64 y2) ∧ w'.cell? ⟨w2.heap.size + 1, 1, none⟩ = some (.pointer q2) ∧ Below w.heap.size w w') (first | (with_reducible exact ⟨s1, s2, s3, s4, s5⟩) | ((with_reducible refine s_chain2d t1 t2 t3 t4 t5 ?_ ?_ ?_) <;> omega) | ((with_reducible refine s_chain4d t1 t2 t3 t4 t5 ?_ ?_ ?_ ?_ ?_ ?_) <;> omega) | fail) (fail)
      have SS := hs
      clear s1 s2 s3 s4 s5 t1 t2 t3 t4 t5
      obtain ⟨WW, hWW⟩ : ∃ WW, (((w3.setCell ⟨w.heap.size + 2, 0, none⟩ (.int .i64 y1)).setCell ⟨w.heap.size + 2, 1, none⟩ (.pointer q1)).setCell ⟨w.heap.size + 3, 0, none⟩ (.int .i64 y2)).setCell ⟨w.heap.size + 3, 1, none⟩ (.pointer q2) = WW := ⟨_, rfl⟩
      rw [hWW]
      obtain ⟨z1, z2, z3, z4, z5⟩ := ret_box2 k2 k3 (by omega) hv hv' SS (by omega) (by omega) hWW
      rw [← HE.out.1, ← HE.out.2] at z5
      have HZ := Lib.hid (retInt2_drew z5)
      clear c0 c1 f0 f1 c2 c3 f2 f3 k2 k3 hWW z5 SS
      go_wp2_with fail
      exact bodyPost_ret (v := .tuple #[.agg #[.int .i64 y1, .pointer q1], .agg #[.int .i64 y2, .pointer q2]]) (by simp [results, Tryz.results128, go_sem, z1, z2, z3, z4]) rfl HZ.out
  · by_cases hn : 0 ≤ n
    · have hny : ∀ w', Below w.heap.size w w' → Calls Tryz.prog 112 #[.agg #[.int .i64 y, .pointer q]] w' (RetBool w' false) := fun w' hb => by
        have := negative_any (HVY.out.below hb)
        rwa [decide_eq_false (by have := HM.out.1; omega)] at this
      have hnx : ∀ w', Below w.heap.size w w' → Calls Tryz.prog 112 #[.agg #[.int .i64 x, .pointer p]] w' (RetBool w' false) := fun w' hb => by
        have := negative_any (HVX.out.below hb)
        rwa [decide_eq_false (by omega)] at this
      have HE := Lib.hid (ediv_same HM.out.1 (.inr (by omega)))
      have hz : (Int.sign (n.tmod m) != 0) = true := by rw [bne_iff_ne]; intro h; exact hr (Int.sign_eq_zero_iff_zero.1 h)
      obtain ⟨sg, hsg⟩ : ∃ sg, Int.sign (n.tmod m) = sg := ⟨_, rfl⟩
      rw [hsg] at hz HS
      have HNX := Lib.hid hnx
      have HNY := Lib.hid hny
      clear hr hsg hnx hny
      obtain ⟨kx, ky, k2, k3⟩ := HK2.out
      have kx := kx.below HBW.out
      have ky := ky.below HBW.out
      have s1 : W.drew.cell? ⟨w2.heap.size + 1, 0, none⟩ = some (.int .i64 y2) := f1
      have s2 : W.drew.cell? ⟨w2.heap.size + 1, 1, none⟩ = some (.pointer q2) := f2
      have s3 : W.drew.cell? ⟨w.heap.size, 0, none⟩ = some (.int .i64 x) := kx.c0
      have s4 : W.drew.cell? ⟨w.heap.size, 1, none⟩ = some (.pointer p) := kx.c1
      have s5 : W.drew.cell? ⟨w.heap.size + 1, 0, none⟩ = some (.int .i64 y) := ky.c0
      have s6 : W.drew.cell? ⟨w.heap.size + 1, 1, none⟩ = some (.pointer q) := ky.c1
      have s7 : Below w.heap.size w W.drew := (HB2.out.trans (HBW.out.mono HB2.out.size)).drew
      clear kx ky k2 k3 f1 f2
      go_region_held3 (fun w' => w'.cell? ⟨w2.heap.size + 1, 0, none⟩ = some (.int .i64 y2) ∧ w'.cell? ⟨w2.heap.size + 1, 1, none⟩ = some (.pointer q2) ∧ w'.cell? ⟨w.heap.size, 0, none⟩ = some (.int .i64 x) ∧ w'.cell? ⟨w.heap.size, 1, none⟩ = some (.pointer p) ∧ w'.cell? ⟨w.heap.size + 1, 0, none⟩ = some (.int .i64 y) ∧ w'.cell? ⟨w.heap.size + 1, 1, none⟩ = some (.pointer q) ∧ Below w.heap.size w w') (first | (with_reducible exact ⟨s1, s2, s3, s4, s5, s6, s7⟩) | fail) (first | (go_at_call 65; (with_reducible refine HS.out.mono ?_); rintro e w3 ⟨rfl, hb3⟩; obtain ⟨s1, s2, s3, s4, s5, s6, s7⟩ := s_step6 s1 s2 s3 s4 s5 s6 s7 hb3) | (go_at_call 112; (with_reducible refine (HNX.out _ s7).mono ?_); rintro e w4 ⟨rfl, hb4⟩; obtain ⟨s1, s2, s3, s4, s5, s6, s7⟩ := s_step6 s1 s2 s3 s4 s5 s6 s7 hb4) | (go_at_call 112; (with_reducible refine (HNY.out _ s7).mono ?_); rintro e w5 ⟨rfl, hb5⟩; obtain ⟨s1, s2, s3, s4, s5, s6, s7⟩ := s_step6 s1 s2 s3 s4 s5 s6 s7 hb5) | fail)
      clear s1 s2 s3 s4 s5 s6 s7
      obtain ⟨kx, ky, k2, k3⟩ := HK2.out
      have hge : w.heap.size + 3 < w2.heap.size := Bx.lt k3
      obtain ⟨j1, j2⟩ := HJ.out
      have hbb := ((((Below.refl W.heap.size W).drew).trans hb3).trans (hb4.mono (((Below.refl W.heap.size W).drew).trans hb3).size)).trans (hb5.mono ((((Below.refl W.heap.size W).drew).trans hb3).trans (hb4.mono (((Below.refl W.heap.size W).drew).trans hb3).size)).size)
      have hs := HB2.out.trans ((HBW.out.trans (hbb.mono HBW.out.size)).mono HB2.out.size)
      have ky := (ky.below HBW.out).below hbb
      have k2 := (k2.below HBW.out).below hbb
      have k3 := (k3.below HBW.out).below hbb
      have j1 := j1.below hbb
      have j2 := j2.below hbb
      have hv := (HV.out.1.below HBW.out).below hbb
      have hv' := (HV.out.2.below HBW.out).below hbb
      clear kx hbb
      clear hb3 hb4 hb5 ky
      go_wp2_with fail
      have t1 := j1.c0
      have t2 := j1.c1
      have t3 := j2.c0
      have t4 := j2.c1
      have t5 := hs
      have c0 := k2.c0
      have c1 := k2.c1
      have f0 := k2.f 0
      have f1 := k2.f 1
      have c2 := k3.c0
      have c3 := k3.c1
      have f2 := k3.f 0
      have f3 := k3.f 1
      obtain ⟨s1, s2, s3, s4, s5⟩ := s_drew4 t1 t2 t3 t4 hs
      go_region_held3 (fun w' => w'.cell? ⟨w2.heap.size, 0, none⟩ = some (.int .i64 y1) ∧ w'.cell? ⟨w2.heap.size, 1, none⟩ = some (.pointer q1) ∧ w'.cell? ⟨w2.heap.size + 1, 0, none⟩ = some (.int .i64 y2) ∧ w'.cell? ⟨w2.heap.size + 1, 1, none⟩ = some (.pointer q2) ∧ Below w.heap.size w w') (first | (with_reducible exact ⟨s1, s2, s3, s4, s5⟩) | ((with_reducible refine s_chain2d t1 t2 t3 t4 t5 ?_ ?_ ?_) <;> omega) | ((with_reducible refine s_chain4d t1 t2 t3 t4 t5 ?_ ?_ ?_ ?_ ?_ ?_) <;> omega) | fail) (fail)
      have SS := hs
      clear s1 s2 s3 s4 s5 t1 t2 t3 t4 t5
      obtain ⟨WW, hWW⟩ : ∃ WW, (((w5.setCell ⟨w.heap.size + 2, 0, none⟩ (.int .i64 y1)).setCell ⟨w.heap.size + 2, 1, none⟩ (.pointer q1)).setCell ⟨w.heap.size + 3, 0, none⟩ (.int .i64 y2)).setCell ⟨w.heap.size + 3, 1, none⟩ (.pointer q2) = WW := ⟨_, rfl⟩
      rw [hWW]
      obtain ⟨z1, z2, z3, z4, z5⟩ := ret_box2 k2 k3 (by omega) hv hv' SS (by omega) (by omega) hWW
      rw [← HE.out.1, ← HE.out.2] at z5
      have HZ := Lib.hid (retInt2_drew z5)
      clear c0 c1 f0 f1 c2 c3 f2 f3 k2 k3 hWW z5 SS
      go_wp2_with fail
      exact bodyPost_ret (v := .tuple #[.agg #[.int .i64 y1, .pointer q1], .agg #[.int .i64 y2, .pointer q2]]) (by simp [results, Tryz.results128, go_sem, z1, z2, z3, z4]) rfl HZ.out
    · have hny : ∀ w', Below w.heap.size w w' → Calls Tryz.prog 112 #[.agg #[.int .i64 y, .pointer q]] w' (RetBool w' false) := fun w' hb => by
        have := negative_any (HVY.out.below hb)
        rwa [decide_eq_false (by have := HM.out.1; omega)] at this
      have hnx : ∀ w', Below w.heap.size w w' → Calls Tryz.prog 112 #[.agg #[.int .i64 x, .pointer p]] w' (RetBool w' true) := fun w' hb => by
        have := negative_any (HVX.out.below hb)
        rwa [decide_eq_true (by omega)] at this
      have HE := Lib.hid (ediv_less HM.out.1 hr (by omega))
      have HQ := Lib.hid (show (n.tdiv m).natAbs < B64 ^ K ∧ (1 : Int).natAbs < B64 ^ K ∧ (n.tmod m).natAbs < B64 ^ K ∧ m.natAbs < B64 ^ K from
        ⟨Nat.lt_of_le_of_lt (by rw [Int.natAbs_tdiv]; exact Nat.div_le_self _ _) HM.out.2.1, by have := HM.out.1; have := HM.out.2.2; omega, Nat.lt_of_le_of_lt (by rw [Int.natAbs_tmod]; exact Nat.mod_le _ _) HM.out.2.1, HM.out.2.2⟩)
      have hz : (Int.sign (n.tmod m) != 0) = true := by rw [bne_iff_ne]; intro h; exact hr (Int.sign_eq_zero_iff_zero.1 h)
      obtain ⟨sg, hsg⟩ : ∃ sg, Int.sign (n.tmod m) = sg := ⟨_, rfl⟩
      rw [hsg] at hz HS
      have HNX := Lib.hid hnx
      have HNY := Lib.hid hny
      clear hr hsg hnx hny
      obtain ⟨kx, ky, k2, k3⟩ := HK2.out
      have kx := kx.below HBW.out
      have ky := ky.below HBW.out
      have s1 : W.drew.cell? ⟨w2.heap.size + 1, 0, none⟩ = some (.int .i64 y2) := f1
      have s2 : W.drew.cell? ⟨w2.heap.size + 1, 1, none⟩ = some (.pointer q2) := f2
      have s3 : W.drew.cell? ⟨w.heap.size, 0, none⟩ = some (.int .i64 x) := kx.c0
      have s4 : W.drew.cell? ⟨w.heap.size, 1, none⟩ = some (.pointer p) := kx.c1
      have s5 : W.drew.cell? ⟨w.heap.size + 1, 0, none⟩ = some (.int .i64 y) := ky.c0
      have s6 : W.drew.cell? ⟨w.heap.size + 1, 1, none⟩ = some (.pointer q) := ky.c1
      have s7 : Below w.heap.size w W.drew := (HB2.out.trans (HBW.out.mono HB2.out.size)).drew
      clear kx ky k2 k3 f1 f2
      go_region_held3 (fun w' => w'.cell? ⟨w2.heap.size + 1, 0, none⟩ = some (.int .i64 y2) ∧ w'.cell? ⟨w2.heap.size + 1, 1, none⟩ = some (.pointer q2) ∧ w'.cell? ⟨w.heap.size, 0, none⟩ = some (.int .i64 x) ∧ w'.cell? ⟨w.heap.size, 1, none⟩ = some (.pointer p) ∧ w'.cell? ⟨w.heap.size + 1, 0, none⟩ = some (.int .i64 y) ∧ w'.cell? ⟨w.heap.size + 1, 1, none⟩ = some (.pointer q) ∧ Below w.heap.size w w') (first | (with_reducible exact ⟨s1, s2, s3, s4, s5, s6, s7⟩) | fail) (first | (go_at_call 65; (with_reducible refine HS.out.mono ?_); rintro e w3 ⟨rfl, hb3⟩; obtain ⟨s1, s2, s3, s4, s5, s6, s7⟩ := s_step6 s1 s2 s3 s4 s5 s6 s7 hb3) | (go_at_call 112; (with_reducible refine (HNX.out _ s7).mono ?_); rintro e w4 ⟨rfl, hb4⟩; obtain ⟨s1, s2, s3, s4, s5, s6, s7⟩ := s_step6 s1 s2 s3 s4 s5 s6 s7 hb4) | (go_at_call 112; (with_reducible refine (HNY.out _ s7).mono ?_); rintro e w5 ⟨rfl, hb5⟩; obtain ⟨s1, s2, s3, s4, s5, s6, s7⟩ := s_step6 s1 s2 s3 s4 s5 s6 s7 hb5) | fail)
      clear s1 s2 s3 s4 s5 s6 s7
      obtain ⟨kx, ky, k2, k3⟩ := HK2.out
      have hge : w.heap.size + 3 < w2.heap.size := Bx.lt k3
      obtain ⟨j1, j2⟩ := HJ.out
      have hbb := ((((Below.refl W.heap.size W).drew).trans hb3).trans (hb4.mono (((Below.refl W.heap.size W).drew).trans hb3).size)).trans (hb5.mono ((((Below.refl W.heap.size W).drew).trans hb3).trans (hb4.mono (((Below.refl W.heap.size W).drew).trans hb3).size)).size)
      have hs := HB2.out.trans ((HBW.out.trans (hbb.mono HBW.out.size)).mono HB2.out.size)
      have ky := (ky.below HBW.out).below hbb
      have k2 := (k2.below HBW.out).below hbb
      have k3 := (k3.below HBW.out).below hbb
      have j1 := j1.below hbb
      have j2 := j2.below hbb
      have hv := (HV.out.1.below HBW.out).below hbb
      have hv' := (HV.out.2.below HBW.out).below hbb
      clear kx hbb
      clear hb3 hb4 hb5
      go_wp2_with fail
      have s1 : w5.drew.cell? ⟨w2.heap.size, 0, none⟩ = some (.int .i64 y1) := j1.c0
      have s2 : w5.drew.cell? ⟨w2.heap.size, 1, none⟩ = some (.pointer q1) := j1.c1
      have s3 : w5.drew.cell? ⟨w2.heap.size + 1, 0, none⟩ = some (.int .i64 y2) := j2.c0
      have s4 : w5.drew.cell? ⟨w2.heap.size + 1, 1, none⟩ = some (.pointer q2) := j2.c1
      have s5 : w5.drew.cell? ⟨w.heap.size + 1, 0, none⟩ = some (.int .i64 y) := ky.c0
      have s6 : w5.drew.cell? ⟨w.heap.size + 1, 1, none⟩ = some (.pointer q) := ky.c1
      have s7 : Below w.heap.size w w5.drew := hs.drew
      have k2 : K2 (w.heap.size + 2) 0 none w5.drew := k2
      have k3 : K2 (w.heap.size + 3) 0 none w5.drew := k3
      have hv := hv.below (Below.refl w5.heap.size w5).drew
      have hv' := hv'.below (Below.refl w5.heap.size w5).drew
      clear j1 j2 ky hs
      go_region_held3 (fun w' => w'.cell? ⟨w2.heap.size, 0, none⟩ = some (.int .i64 y1) ∧ w'.cell? ⟨w2.heap.size, 1, none⟩ = some (.pointer q1) ∧ w'.cell? ⟨w2.heap.size + 1, 0, none⟩ = some (.int .i64 y2) ∧ w'.cell? ⟨w2.heap.size + 1, 1, none⟩ = some (.pointer q2) ∧ w'.cell? ⟨w.heap.size + 1, 0, none⟩ = some (.int .i64 y) ∧ w'.cell? ⟨w.heap.size + 1, 1, none⟩ = some (.pointer q) ∧ Below w.heap.size w w') (first | (with_reducible exact ⟨s1, s2, s3, s4, s5, s6, s7⟩) | ((with_reducible refine s_chain6 s1 s2 s3 s4 s5 s6 s7 ?_ ?_ ?_ ?_) <;> omega) | ((with_reducible refine s_chain8 ?_ ?_ ?_ ?_ ?_ ?_ ?_ ?_ s1 s2 s3 s4 s5 s6 s7) <;> omega) | fail) (first | (go_at_call 59; (with_reducible refine (fromInt64_any isS_one _).mono ?_); rintro e w6 ⟨v6, rfl, hv6, hb6⟩; obtain ⟨s1, s2, s3, s4, s5, s6, s7⟩ := s_step6 s1 s2 s3 s4 s5 s6 s7 hb6; have k2 := k2.below hb6; have k3 := k3.below hb6; have hv := hv.below hb6; have hv' := hv'.below hb6) | (go_at_call 161; (with_reducible refine (subI_any (K := K) hv hv6 (by omega) HQ.out.1 HQ.out.2.1).mono ?_); rintro e w7 ⟨v7, rfl, hv7, hb7⟩; obtain ⟨s1, s2, s3, s4, s5, s6, s7⟩ := s_step6 s1 s2 s3 s4 s5 s6 s7 hb7; have k2 := k2.below hb7; have k3 := k3.below hb7; have hv' := hv'.below hb7) | (go_at_call 123; (with_reducible refine (addI_any (K := K) hv' (HVY.out.below s7) (by omega) HQ.out.2.2.1 HQ.out.2.2.2).mono ?_); rintro e w8 ⟨v8, rfl, hv8, hb8⟩; obtain ⟨s1, s2, s3, s4, s5, s6, s7⟩ := s_step6 s1 s2 s3 s4 s5 s6 s7 hb8; have k2 := k2.below hb8; have k3 := k3.below hb8; have hv7 := hv7.below hb8; obtain ⟨y', q', rfl⟩ := hv7.two; obtain ⟨y'', q'', rfl⟩ := hv8.two; have c0 := k2.c0; have c1 := k2.c1; have f0 := k2.f 0; have f1 := k2.f 1; have c2 := k3.c0; have c3 := k3.c1; have f2 := k3.f 0; have f3 := k3.f 1) | fail)
      have SS := s7
      clear s1 s2 s3 s4 s5 s6 s7 hb6 hb7 hb8 hv hv' hv6
      obtain ⟨WW, hWW⟩ : ∃ WW, (((w8.setCell ⟨w.heap.size + 2, 0, none⟩ (.int .i64 y')).setCell ⟨w.heap.size + 2, 1, none⟩ (.pointer q')).setCell ⟨w.heap.size + 3, 0, none⟩ (.int .i64 y'')).setCell ⟨w.heap.size + 3, 1, none⟩ (.pointer q'') = WW := ⟨_, rfl⟩
      rw [hWW]
      obtain ⟨z1, z2, z3, z4, z5⟩ := ret_box2 k2 k3 (by omega) hv7 hv8 SS (by omega) (by omega) hWW
      rw [← HE.out.1, ← HE.out.2] at z5
      have HZ := Lib.hid z5
      clear c0 c1 f0 f1 c2 c3 f2 f3 k2 k3 hWW z5 SS
      go_wp2_with fail
      exact bodyPost_ret (v := .tuple #[.agg #[.int .i64 y', .pointer q'], .agg #[.int .i64 y'', .pointer q'']]) (by simp [results, Tryz.results128, go_sem, z1, z2, z3, z4]) rfl HZ.out
theorem divI_any {vx vy : Value} {n m : Int} {K : Nat} {w : World} (hx : IntV w vx n) (hy : IntV w vy m) (hm0 : 0 < m) (hK : K < 239) (hn : n.natAbs < B64 ^ K) (hm : m.natAbs < B64 ^ K) :
    Calls Tryz.prog 128 #[vx, vy] w (RetInt2 w (n / m) (n % m)) := by
  obtain ⟨x, p, rfl⟩ := hx.two
  obtain ⟨y, q, rfl⟩ := hy.two
  exact div_pos hx hy hm0 hK hn hm
end Go.Proofs.YtekghemhccfhkaaGreatDoor
namespace Go.Big
open Go Go.RowKit
theorem signed_pow (n : Int) (e : Nat) (b : Bool) (hb : b = (decide (n < 0) && ((e : Int) % 2 == 1))) : signed b (n.natAbs ^ e) = n ^ e := by
  subst hb
  by_cases h : n < 0
  · rw [decide_eq_true h, Bool.true_and]
    obtain ⟨m, rfl⟩ : ∃ m : Nat, n = -(m : Int) := ⟨n.natAbs, by omega⟩
    rw [Int.natAbs_neg, Int.natAbs_natCast]
    by_cases he : e % 2 = 1
    · have : ((e : Int) % 2 == 1) = true := by rw [beq_iff_eq]; omega
      rw [this]
      show -((m ^ e : Nat) : Int) = (-(m : Int)) ^ e
      obtain ⟨k, rfl⟩ : ∃ k, e = 2 * k + 1 := ⟨e / 2, by omega⟩
      rw [Int.pow_succ, Int.pow_mul, Int.natCast_pow, Int.pow_succ, Int.pow_mul]
      have e2 : (-(m : Int)) ^ 2 = (m : Int) ^ 2 := by grind
      rw [e2]; grind
    · have : ((e : Int) % 2 == 1) = false := by rw [beq_eq_false_iff_ne]; omega
      rw [this]
      show ((m ^ e : Nat) : Int) = (-(m : Int)) ^ e
      obtain ⟨k, rfl⟩ : ∃ k, e = 2 * k := ⟨e / 2, by omega⟩
      rw [Int.pow_mul, Int.natCast_pow, Int.pow_mul]
      have e2 : (-(m : Int)) ^ 2 = (m : Int) ^ 2 := by grind
      rw [e2]
  · rw [decide_eq_false h, Bool.false_and]
    show ((n.natAbs ^ e : Nat) : Int) = n ^ e
    rw [Int.natCast_pow, show (n.natAbs : Int) = n by omega]
end Go.Big
namespace Go.Proofs.YtekghemhccfhkaaGreatDoor
open Go.RowKit Go.Big
end Go.Proofs.YtekghemhccfhkaaGreatDoor
namespace Go.Big
open Go Go.RowKit
/-- The value v is the fraction q: the numerator's two cells, the denominator's two. -/
def FracV (w : World) (v : Value) (q : Rat) : Prop := ∃ a p b r, v = .agg #[.int .i64 a, .pointer p, .int .i64 b, .pointer r] ∧ IntV w (.agg #[.int .i64 a, .pointer p]) q.num ∧ IntV w (.agg #[.int .i64 b, .pointer r]) (q.den : Int)
theorem FracV.below {w w' : World} {v : Value} {q : Rat} (h : FracV w v q) (hb : Below w.heap.size w w') : FracV w' v q := by
  obtain ⟨a, p, b, r, e, h1, h2⟩ := h
  exact ⟨a, p, b, r, e, h1.below hb, h2.below hb⟩
theorem ip4 (x : Int) (p : Option Addr) (y : Int) (q : Option Addr) : ∀ c ∈ #[Value.int .i64 x, .pointer p, .int .i64 y, .pointer q], IP c := by
  intro c hc; simp at hc; rcases hc with rfl | rfl | rfl | rfl
  · exact IP.int _
  · exact IP.ptr _
  · exact IP.int _
  · exact IP.ptr _
/-- A box of a fraction. -/
def K4 (g : Nat) (x : Int) (p : Option Addr) (y : Int) (q : Option Addr) (w : World) : Prop := Bx w g #[.int .i64 x, .pointer p, .int .i64 y, .pointer q] 65
section
variable {g : Nat} {x y : Int} {p q : Option Addr} {w w' : World}
theorem K4.below (h : K4 g x p y q w) (hb : Below w.heap.size w w') : K4 g x p y q w' := Bx.below h hb
theorem K4.drew (h : K4 g x p y q w) : K4 g x p y q w.drew := h
theorem K2.drew' {g : Nat} {x : Int} {p : Option Addr} {w : World} (h : K2 g x p w) : K2 g x p w.drew := h
theorem K4.c0 (h : K4 g x p y q w) : w.cell? ⟨g, 0, none⟩ = some (.int .i64 x) := by rw [Bx.cell h]; rfl
theorem K4.c1 (h : K4 g x p y q w) : w.cell? ⟨g, 1, none⟩ = some (.pointer p) := by rw [Bx.cell h]; rfl
theorem K4.c2 (h : K4 g x p y q w) : w.cell? ⟨g, 2, none⟩ = some (.int .i64 y) := by rw [Bx.cell h]; rfl
theorem K4.c3 (h : K4 g x p y q w) : w.cell? ⟨g, 3, none⟩ = some (.pointer q) := by rw [Bx.cell h]; rfl
theorem K4.f (h : K4 g x p y q w) (i : Nat) : w.frozen? ⟨g, i, none⟩ = false := Bx.frozen h i
end
/-- Storing a fraction into a box. -/
abbrev st4 (w : World) (g : Nat) (x : Int) (p : Option Addr) (y : Int) (q : Option Addr) : World :=
  (((w.setCell ⟨g, 0, none⟩ (.int .i64 x)).setCell ⟨g, 1, none⟩ (.pointer p)).setCell ⟨g, 2, none⟩ (.int .i64 y)).setCell ⟨g, 3, none⟩ (.pointer q)
abbrev st2 (w : World) (g : Nat) (x : Int) (p : Option Addr) : World := (w.setCell ⟨g, 0, none⟩ (.int .i64 x)).setCell ⟨g, 1, none⟩ (.pointer p)
theorem K4.st {g : Nat} {x y : Int} {p q : Option Addr} {w : World} (h : K4 g x p y q w) (x' : Int) (p' : Option Addr) (y' : Int) (q' : Option Addr) : K4 g x' p' y' q' (st4 w g x' p' y' q') :=
  (((Bx.set h 0 (IP.int x')).set 1 (IP.ptr p')).set 2 (IP.int y')).set 3 (IP.ptr q')
theorem Bx.st_other {g g' : Nat} {cs : Array Value} {t : TypeId} {w : World} (h : Bx w g cs t) (hne : g ≠ g') (x : Int) (p : Option Addr) (y : Int) (q : Option Addr) : Bx (st4 w g' x p y q) g cs t :=
  (((h.other hne _ _).other hne _ _).other hne _ _).other hne _ _
theorem IntV.st {g : Nat} {x y : Int} {p q : Option Addr} {w : World} {v : Value} {n : Int} (k : K4 g x p y q w) (h : IntV w v n) (x' : Int) (p' : Option Addr) (y' : Int) (q' : Option Addr) : IntV (st4 w g x' p' y' q') v n :=
  (((h.setIP k).setIP (Bx.set k 0 (IP.int x'))).setIP ((Bx.set k 0 (IP.int x')).set 1 (IP.ptr p'))).setIP (((Bx.set k 0 (IP.int x')).set 1 (IP.ptr p')).set 2 (IP.int y'))
theorem below_st4 {B : Nat} {a w : World} (h : Below B a w) {g : Nat} (hg : B ≤ g) (x : Int) (p : Option Addr) (y : Int) (q : Option Addr) : Below B a (st4 w g x p y q) :=
  (((h.setCell hg _).setCell hg _).setCell hg _).setCell hg _
theorem K4.o4 {g g' : Nat} {x y : Int} {p q : Option Addr} {w : World} (h : K4 g x p y q w) (hne : g ≠ g') (a : Int) (b : Option Addr) (c : Int) (d : Option Addr) : K4 g x p y q (st4 w g' a b c d) := Bx.st_other h hne a b c d
theorem K2.o4 {g g' : Nat} {x : Int} {p : Option Addr} {w : World} (h : K2 g x p w) (hne : g ≠ g') (a : Int) (b : Option Addr) (c : Int) (d : Option Addr) : K2 g x p (st4 w g' a b c d) := Bx.st_other h hne a b c d
theorem K4.o2 {g g' : Nat} {x y : Int} {p q : Option Addr} {w : World} (h : K4 g x p y q w) (hne : g ≠ g') (a : Int) (b : Option Addr) : K4 g x p y q (st2 w g' a b) := (Bx.other h hne _ _).other hne _ _
theorem K2.o2 {g g' : Nat} {x : Int} {p : Option Addr} {w : World} (h : K2 g x p w) (hne : g ≠ g') (a : Int) (b : Option Addr) : K2 g x p (st2 w g' a b) := (Bx.other h hne _ _).other hne _ _
theorem _root_.Go.RowKit.Below.st4 {B : Nat} {a w : World} (h : Below B a w) {g : Nat} (hg : B ≤ g) (x : Int) (p : Option Addr) (y : Int) (q : Option Addr) : Below B a (Go.Big.st4 w g x p y q) := below_st4 h hg x p y q
theorem _root_.Go.RowKit.Below.st2 {B : Nat} {a w : World} (h : Below B a w) {g : Nat} (hg : B ≤ g) (x : Int) (p : Option Addr) : Below B a (Go.Big.st2 w g x p) := (h.setCell hg _).setCell hg _
theorem boxes2 (w : World) (c1 : Array Value) (t1 : TypeId) (c2 : Array Value) (t2 : TypeId) (h1 : ∀ c ∈ c1, IP c) (h2 : ∀ c ∈ c2, IP c) : ∃ w0, (w.alloc (.cells c1 t1)).alloc (.cells c2 t2) = w0 ∧ Below w.heap.size w w0 ∧ Bx w0 w.heap.size c1 t1 ∧ Bx w0 (w.heap.size + 1) c2 t2 ∧ w0.heap.size = w.heap.size + 2 := by
  obtain ⟨w1, e1, b1, x1, z1⟩ := box1 w c1 t1 h1
  obtain ⟨w2, e2, b2, x2, z2⟩ := box1 w1 c2 t2 h2
  rw [z1] at x2
  exact ⟨w2, by rw [e1, e2], b1.trans (b2.mono b1.size), x1.below b2, x2, by omega⟩
theorem boxes3 (w : World) (c1 : Array Value) (t1 : TypeId) (c2 : Array Value) (t2 : TypeId) (c3 : Array Value) (t3 : TypeId) (h1 : ∀ c ∈ c1, IP c) (h2 : ∀ c ∈ c2, IP c) (h3 : ∀ c ∈ c3, IP c) : ∃ w0, ((w.alloc (.cells c1 t1)).alloc (.cells c2 t2)).alloc (.cells c3 t3) = w0 ∧ Below w.heap.size w w0 ∧ Bx w0 w.heap.size c1 t1 ∧ Bx w0 (w.heap.size + 1) c2 t2 ∧ Bx w0 (w.heap.size + 2) c3 t3 ∧ w0.heap.size = w.heap.size + 3 := by
  obtain ⟨w2, e2, b2, x1, x2, z2⟩ := boxes2 w c1 t1 c2 t2 h1 h2
  obtain ⟨w3, e3, b3, x3, z3⟩ := box1 w2 c3 t3 h3
  rw [z2] at x3
  exact ⟨w3, by rw [e2, e3], b2.trans (b3.mono b2.size), x1.below b3, x2.below b3, x3, by omega⟩
end Go.Big
namespace Go.Proofs.YtekghemhccfhkaaGreatDoor
open Go.RowKit Go.Big
def RetF (w : World) (q : Rat) (e : Ending) (w' : World) : Prop := ∃ v, e = .returned v ∧ FracV w' v q ∧ Below w.heap.size w w'
/-- What a call that ends with a fraction in its result's box leaves. -/
theorem ret_box4 {w w3 : World} {g : Nat} {x0 y0 x y : Int} {p0 q0 p q : Option Addr} {r : Rat} (k : K4 g x0 p0 y0 q0 w3) (h1 : IntV w3 (.agg #[.int .i64 x, .pointer p]) r.num) (h2 : IntV w3 (.agg #[.int .i64 y, .pointer q]) (r.den : Int)) (s3 : Below w.heap.size w w3) (hg : w.heap.size ≤ g)
    {W : World} (hW : (((w3.setCell ⟨g, 0, none⟩ (.int .i64 x)).setCell ⟨g, 1, none⟩ (.pointer p)).setCell ⟨g, 2, none⟩ (.int .i64 y)).setCell ⟨g, 3, none⟩ (.pointer q) = W) :
    W.cell? ⟨g, 0, none⟩ = some (.int .i64 x) ∧ W.cell? ⟨g, 1, none⟩ = some (.pointer p) ∧ W.cell? ⟨g, 2, none⟩ = some (.int .i64 y) ∧ W.cell? ⟨g, 3, none⟩ = some (.pointer q) ∧ RetF w r (.returned (.agg #[.int .i64 x, .pointer p, .int .i64 y, .pointer q])) W := by
  have hW : st4 w3 g x p y q = W := hW
  subst hW
  have k' := k.st x p y q
  exact ⟨k'.c0, k'.c1, k'.c2, k'.c3, _, rfl, ⟨x, p, y, q, rfl, h1.st k x p y q, h2.st k x p y q⟩, below_st4 s3 hg x p y q⟩
end Go.Proofs.YtekghemhccfhkaaGreatDoor
