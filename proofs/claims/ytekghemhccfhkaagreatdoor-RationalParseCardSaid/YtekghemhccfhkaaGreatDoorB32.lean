/-
  Walks of the program's functions: IntJ, IntK, FracA, FracB, FracC, FracD, FracE, PowIp, PowIn, PowF, NBox, NInt1.
-/
import Derived.Test.YtekghemhccfhkaaGreatDoorB31
import Derived.Deep.RegionWith
import Derived.Test.YtekghemhccfhkaaGreatDoorB02
import Derived.Test.YtekghemhccfhkaaGreatDoorB20
import Derived.Deep.RegionHeld3
import Derived.Test.YtekghemhccfhkaaGreatDoorB04
import Derived.Test.YtekghemhccfhkaaGreatDoorB29
namespace Go.Big
open Go Go.RowKit
theorem isS_one : IsS 1 := ⟨by omega, by omega⟩
theorem ediv_same {n m : Int} (hm : 0 < m) (h : n.tmod m = 0 ∨ 0 ≤ n) : n / m = n.tdiv m ∧ n % m = n.tmod m := by
  have e := Int.mul_tdiv_add_tmod n m
  have hb : (n.tmod m).natAbs < m.natAbs := by rw [Int.natAbs_tmod]; exact Nat.mod_lt _ (by omega)
  have h0 : 0 ≤ n.tmod m := by
    rcases h with h | h
    · omega
    · exact Int.tmod_nonneg m h
  exact (Int.ediv_emod_unique hm).2 ⟨by omega, h0, by omega⟩
theorem ediv_less {n m : Int} (hm : 0 < m) (h : n.tmod m ≠ 0) (hn : n < 0) : n / m = n.tdiv m - 1 ∧ n % m = n.tmod m + m := by
  have e := Int.mul_tdiv_add_tmod n m
  have hb : (n.tmod m).natAbs < m.natAbs := by rw [Int.natAbs_tmod]; exact Nat.mod_lt _ (by omega)
  have h0 : n.tmod m ≤ 0 := by
    have := Int.tmod_nonneg (a := -n) m (by omega)
    rw [Int.neg_tmod] at this
    omega
  refine (Int.ediv_emod_unique hm).2 ⟨?_, by omega, by omega⟩
  rw [Int.mul_sub, Int.mul_one]; omega
theorem s_step6 {w w' w1 : World} {g0 g1 g2 : Nat} {x y z : Int} {p q r : Option Addr} (s1 : w'.cell? ⟨g0, 0, none⟩ = some (.int .i64 x)) (s2 : w'.cell? ⟨g0, 1, none⟩ = some (.pointer p))
    (s3 : w'.cell? ⟨g1, 0, none⟩ = some (.int .i64 y)) (s4 : w'.cell? ⟨g1, 1, none⟩ = some (.pointer q)) (s5 : w'.cell? ⟨g2, 0, none⟩ = some (.int .i64 z)) (s6 : w'.cell? ⟨g2, 1, none⟩ = some (.pointer r)) (s7 : Below w.heap.size w w') (hb : Below w'.heap.size w' w1) :
    w1.cell? ⟨g0, 0, none⟩ = some (.int .i64 x) ∧ w1.cell? ⟨g0, 1, none⟩ = some (.pointer p) ∧ w1.cell? ⟨g1, 0, none⟩ = some (.int .i64 y) ∧ w1.cell? ⟨g1, 1, none⟩ = some (.pointer q) ∧ w1.cell? ⟨g2, 0, none⟩ = some (.int .i64 z) ∧ w1.cell? ⟨g2, 1, none⟩ = some (.pointer r) ∧ Below w.heap.size w w1 := by
  obtain ⟨t1, t2, t3, t4, t5⟩ := s_step4 s1 s2 s3 s4 s7 hb
  exact ⟨t1, t2, t3, t4, (hb.cell (p := ⟨g2, 0, none⟩) (World.block_lt_of_cell? w' _ s5)).trans s5, (hb.cell (p := ⟨g2, 1, none⟩) (World.block_lt_of_cell? w' _ s6)).trans s6, t5⟩
theorem s_chain6 {w w3 : World} {g0 g1 g2 g i j : Nat} {x y z : Int} {p q r : Option Addr} {c d : Value} (s1 : w3.cell? ⟨g0, 0, none⟩ = some (.int .i64 x)) (s2 : w3.cell? ⟨g0, 1, none⟩ = some (.pointer p))
    (s3 : w3.cell? ⟨g1, 0, none⟩ = some (.int .i64 y)) (s4 : w3.cell? ⟨g1, 1, none⟩ = some (.pointer q)) (s5 : w3.cell? ⟨g2, 0, none⟩ = some (.int .i64 z)) (s6 : w3.cell? ⟨g2, 1, none⟩ = some (.pointer r)) (s7 : Below w.heap.size w w3) (h0 : g0 ≠ g) (h1 : g1 ≠ g) (h2 : g2 ≠ g) (hg : w.heap.size ≤ g) :
    ((w3.setCell ⟨g, i, none⟩ c).setCell ⟨g, j, none⟩ d).cell? ⟨g0, 0, none⟩ = some (.int .i64 x) ∧ ((w3.setCell ⟨g, i, none⟩ c).setCell ⟨g, j, none⟩ d).cell? ⟨g0, 1, none⟩ = some (.pointer p) ∧
      ((w3.setCell ⟨g, i, none⟩ c).setCell ⟨g, j, none⟩ d).cell? ⟨g1, 0, none⟩ = some (.int .i64 y) ∧ ((w3.setCell ⟨g, i, none⟩ c).setCell ⟨g, j, none⟩ d).cell? ⟨g1, 1, none⟩ = some (.pointer q) ∧
      ((w3.setCell ⟨g, i, none⟩ c).setCell ⟨g, j, none⟩ d).cell? ⟨g2, 0, none⟩ = some (.int .i64 z) ∧ ((w3.setCell ⟨g, i, none⟩ c).setCell ⟨g, j, none⟩ d).cell? ⟨g2, 1, none⟩ = some (.pointer r) ∧
      Below w.heap.size w ((w3.setCell ⟨g, i, none⟩ c).setCell ⟨g, j, none⟩ d) :=
  ⟨by rw [cell_setO h0, cell_setO h0]; exact s1, by rw [cell_setO h0, cell_setO h0]; exact s2, by rw [cell_setO h1, cell_setO h1]; exact s3, by rw [cell_setO h1, cell_setO h1]; exact s4, by rw [cell_setO h2, cell_setO h2]; exact s5, by rw [cell_setO h2, cell_setO h2]; exact s6, (s7.setCell hg _).setCell hg _⟩
theorem s_chain2d {w w3 : World} {g0 g1 g2 i j : Nat} {x y : Int} {p q : Option Addr} {c d : Value} (s1 : w3.cell? ⟨g0, 0, none⟩ = some (.int .i64 x)) (s2 : w3.cell? ⟨g0, 1, none⟩ = some (.pointer p))
    (s3 : w3.cell? ⟨g1, 0, none⟩ = some (.int .i64 y)) (s4 : w3.cell? ⟨g1, 1, none⟩ = some (.pointer q)) (s5 : Below w.heap.size w w3) (h0 : g0 ≠ g2) (h1 : g1 ≠ g2) (hg : w.heap.size ≤ g2) :
    ((w3.setCell ⟨g2, i, none⟩ c).setCell ⟨g2, j, none⟩ d).drew.cell? ⟨g0, 0, none⟩ = some (.int .i64 x) ∧ ((w3.setCell ⟨g2, i, none⟩ c).setCell ⟨g2, j, none⟩ d).drew.cell? ⟨g0, 1, none⟩ = some (.pointer p) ∧
      ((w3.setCell ⟨g2, i, none⟩ c).setCell ⟨g2, j, none⟩ d).drew.cell? ⟨g1, 0, none⟩ = some (.int .i64 y) ∧ ((w3.setCell ⟨g2, i, none⟩ c).setCell ⟨g2, j, none⟩ d).drew.cell? ⟨g1, 1, none⟩ = some (.pointer q) ∧
      Below w.heap.size w ((w3.setCell ⟨g2, i, none⟩ c).setCell ⟨g2, j, none⟩ d).drew := by
  obtain ⟨t1, t2, t3, t4, t5⟩ := s_chain2 (i := i) (j := j) (c := c) (d := d) s1 s2 s3 s4 s5 h0 h1 hg
  exact s_drew4 t1 t2 t3 t4 t5
theorem s_chain4d {w w3 : World} {g0 g1 g2 g3 i j k l : Nat} {x y : Int} {p q : Option Addr} {c d e f : Value} (s1 : w3.cell? ⟨g0, 0, none⟩ = some (.int .i64 x)) (s2 : w3.cell? ⟨g0, 1, none⟩ = some (.pointer p))
    (s3 : w3.cell? ⟨g1, 0, none⟩ = some (.int .i64 y)) (s4 : w3.cell? ⟨g1, 1, none⟩ = some (.pointer q)) (s5 : Below w.heap.size w w3) (h0 : g0 ≠ g2) (h1 : g1 ≠ g2) (hg : w.heap.size ≤ g2) (h3 : g0 ≠ g3) (h4 : g1 ≠ g3) (hg3 : w.heap.size ≤ g3) :
    ((((w3.setCell ⟨g2, i, none⟩ c).setCell ⟨g2, j, none⟩ d).setCell ⟨g3, k, none⟩ e).setCell ⟨g3, l, none⟩ f).drew.cell? ⟨g0, 0, none⟩ = some (.int .i64 x) ∧ ((((w3.setCell ⟨g2, i, none⟩ c).setCell ⟨g2, j, none⟩ d).setCell ⟨g3, k, none⟩ e).setCell ⟨g3, l, none⟩ f).drew.cell? ⟨g0, 1, none⟩ = some (.pointer p) ∧
      ((((w3.setCell ⟨g2, i, none⟩ c).setCell ⟨g2, j, none⟩ d).setCell ⟨g3, k, none⟩ e).setCell ⟨g3, l, none⟩ f).drew.cell? ⟨g1, 0, none⟩ = some (.int .i64 y) ∧ ((((w3.setCell ⟨g2, i, none⟩ c).setCell ⟨g2, j, none⟩ d).setCell ⟨g3, k, none⟩ e).setCell ⟨g3, l, none⟩ f).drew.cell? ⟨g1, 1, none⟩ = some (.pointer q) ∧
      Below w.heap.size w ((((w3.setCell ⟨g2, i, none⟩ c).setCell ⟨g2, j, none⟩ d).setCell ⟨g3, k, none⟩ e).setCell ⟨g3, l, none⟩ f).drew := by
  obtain ⟨t1, t2, t3, t4, t5⟩ := s_chain4 (i := i) (j := j) (c := c) (d := d) (k := k) (l := l) (e := e) (f := f) s1 s2 s3 s4 s5 h0 h1 hg h3 h4 hg3
  exact s_drew4 t1 t2 t3 t4 t5
theorem s_chain8 {w w3 : World} {g0 g1 g2 g h i j k l : Nat} {x y z : Int} {p q r : Option Addr} {c d e f : Value} (h0 : g0 ≠ g) (h1 : g1 ≠ g) (h2 : g2 ≠ g) (hg : w.heap.size ≤ g) (i0 : g0 ≠ h) (i1 : g1 ≠ h) (i2 : g2 ≠ h) (hh : w.heap.size ≤ h) (s1 : w3.cell? ⟨g0, 0, none⟩ = some (.int .i64 x)) (s2 : w3.cell? ⟨g0, 1, none⟩ = some (.pointer p))
    (s3 : w3.cell? ⟨g1, 0, none⟩ = some (.int .i64 y)) (s4 : w3.cell? ⟨g1, 1, none⟩ = some (.pointer q)) (s5 : w3.cell? ⟨g2, 0, none⟩ = some (.int .i64 z)) (s6 : w3.cell? ⟨g2, 1, none⟩ = some (.pointer r)) (s7 : Below w.heap.size w w3) :
    ((((w3.setCell ⟨g, i, none⟩ c).setCell ⟨g, j, none⟩ d).setCell ⟨h, k, none⟩ e).setCell ⟨h, l, none⟩ f).cell? ⟨g0, 0, none⟩ = some (.int .i64 x) ∧ ((((w3.setCell ⟨g, i, none⟩ c).setCell ⟨g, j, none⟩ d).setCell ⟨h, k, none⟩ e).setCell ⟨h, l, none⟩ f).cell? ⟨g0, 1, none⟩ = some (.pointer p) ∧
      ((((w3.setCell ⟨g, i, none⟩ c).setCell ⟨g, j, none⟩ d).setCell ⟨h, k, none⟩ e).setCell ⟨h, l, none⟩ f).cell? ⟨g1, 0, none⟩ = some (.int .i64 y) ∧ ((((w3.setCell ⟨g, i, none⟩ c).setCell ⟨g, j, none⟩ d).setCell ⟨h, k, none⟩ e).setCell ⟨h, l, none⟩ f).cell? ⟨g1, 1, none⟩ = some (.pointer q) ∧
      ((((w3.setCell ⟨g, i, none⟩ c).setCell ⟨g, j, none⟩ d).setCell ⟨h, k, none⟩ e).setCell ⟨h, l, none⟩ f).cell? ⟨g2, 0, none⟩ = some (.int .i64 z) ∧ ((((w3.setCell ⟨g, i, none⟩ c).setCell ⟨g, j, none⟩ d).setCell ⟨h, k, none⟩ e).setCell ⟨h, l, none⟩ f).cell? ⟨g2, 1, none⟩ = some (.pointer r) ∧
      Below w.heap.size w ((((w3.setCell ⟨g, i, none⟩ c).setCell ⟨g, j, none⟩ d).setCell ⟨h, k, none⟩ e).setCell ⟨h, l, none⟩ f) := by
  obtain ⟨t1, t2, t3, t4, t5, t6, t7⟩ := s_chain6 (i := i) (j := j) (c := c) (d := d) s1 s2 s3 s4 s5 s6 s7 h0 h1 h2 hg
  exact s_chain6 t1 t2 t3 t4 t5 t6 t7 i0 i1 i2 hh
end Go.Big
namespace Go.Proofs.YtekghemhccfhkaaGreatDoor
open Go.RowKit Go.Big
theorem retInt2_drew {w WW : World} {a b : Int} {e : Ending} (h : RetInt2 w a b e WW) : RetInt2 w a b e WW.drew := by
  obtain ⟨v, v', h1, h2, h3, h4⟩ := h
  exact ⟨v, v', h1, h2.below (Below.refl WW.heap.size WW).drew, h3.below (Below.refl WW.heap.size WW).drew, h4.drew⟩
set_option maxRecDepth 100000 in
set_option maxHeartbeats 4000000 in
theorem div_pos {x y : Int} {p q : Option Addr} {n m : Int} {w : World} (hx : IntV w (.agg #[.int .i64 x, .pointer p]) n) (hy : IntV w (.agg #[.int .i64 y, .pointer q]) m) {K : Nat} (hm0 : 0 < m) (hK : K < 239) (hn : n.natAbs < B64 ^ K) (hm : m.natAbs < B64 ^ K) :
    Calls Tryz.prog 128 #[.agg #[.int .i64 x, .pointer p], .agg #[.int .i64 y, .pointer q]] w (RetInt2 w (n / m) (n % m)) := by
  obtain ⟨w0, hw0, hb0, kx, ky, k2, k3, hsz⟩ := four_boxes w x p y q
  have HVX := Lib.hid hx
  have HVY := Lib.hid hy
  have e1 := kx.c0
  have e2 := kx.c1
  have e3 := ky.c0
  have e4 := ky.c1
  have HB := Lib.hid hb0
  have HK := Lib.hid (And.intro kx (And.intro ky (And.intro k2 k3)))
  have HM := Lib.hid (And.intro hm0 (And.intro hn hm))
  have HSZ := Lib.hid hsz
  have hsg : Int.sign m = 1 := Int.sign_eq_one_of_pos hm0
  have HSG := Lib.hid (by have := sign_any (hy.below hb0); rw [hsg] at this; exact this)
  clear kx ky k2 k3 hb0 hx hy hsz hm0 hn hm hsg
  go_enter Tryz.func128, Tryz.ntmps128
  go_wp2_with fail
  refine HSG.out.mono ?_
  rintro e w1 ⟨rfl, hb1⟩
  obtain ⟨kx, ky, k2, k3⟩ := HK.out
  have kx := kx.below hb1
  have ky := ky.below hb1
  have k2 := k2.below hb1
  have k3 := k3.below hb1
  have e1 := kx.c0
  have e2 := kx.c1
  have e3 := ky.c0
  have e4 := ky.c1
  have HB1 := Lib.hid (below_trans HB.out hb1)
  have HK1 := Lib.hid (And.intro kx (And.intro ky (And.intro k2 k3)))
  have HD := Lib.hid (divS_any (HVX.out.below HB1.out) (HVY.out.below HB1.out) (by have := HM.out.1; omega) hK HM.out.2.1 HM.out.2.2)
  clear kx ky k2 k3 hb1 HK HSG
  go_wp2_with fail
  refine HD.out.mono ?_
  rintro e w2 ⟨v, v', rfl, hv, hv', hb2⟩
  obtain ⟨y1, q1, rfl⟩ := hv.two
  obtain ⟨y2, q2, rfl⟩ := hv'.two
  obtain ⟨kx, ky, k2, k3⟩ := HK1.out
  have kx := kx.below hb2
  have ky := ky.below hb2
  have k2 := k2.below hb2
  have k3 := k3.below hb2
  have HB2 := Lib.hid (below_trans HB1.out hb2)
  have HK2 := Lib.hid (And.intro kx (And.intro ky (And.intro k2 k3)))
  have HV := Lib.hid (And.intro hv hv')
  clear kx ky k2 k3 hb2 HK1 HD hv hv' e1 e2 e3 e4
  obtain ⟨W, hW, hbW, j1, j2, hsW⟩ := pair_boxes w2 y1 q1 y2 q2
  have HBW := Lib.hid hbW
  have HJ := Lib.hid (And.intro j1 j2)
  have HSW := Lib.hid hsW
  clear hbW j1 j2 hsW
  go_wp2_with fail
  have f1 := HJ.out.2.c0
  have f2 := HJ.out.2.c1
  have HS := Lib.hid (sign_any ((HV.out.2.below HBW.out).below (Below.refl W.heap.size W).drew))
  by_cases hr : n.tmod m = 0
  · rw [hr] at HS
    have HE := Lib.hid (ediv_same HM.out.1 (.inl hr))
    clear hr
    have hz : ((Int.sign 0) != 0) = false := rfl
    go_region_with (first | (go_at_call 65; refine HS.out.mono ?_; rintro e w3 ⟨rfl, hb3⟩))
    all_goals
      obtain ⟨kx, ky, k2, k3⟩ := HK2.out
      have hge : w.heap.size + 3 < w2.heap.size := Bx.lt k3
      obtain ⟨j1, j2⟩ := HJ.out
      have hbb := (((Below.refl W.heap.size W).drew).trans hb3 : Below W.heap.size W w3)
      have hs := HB2.out.trans ((HBW.out.trans (hbb.mono HBW.out.size)).mono HB2.out.size)
      have ky := (ky.below HBW.out).below hbb
      have k2 := (k2.below HBW.out).below hbb
      have k3 := (k3.below HBW.out).below hbb
      have j1 := j1.below hbb
      have j2 := j2.below hbb
      have hv := (HV.out.1.below HBW.out).below hbb
      have hv' := (HV.out.2.below HBW.out).below hbb
      clear kx hbb
      clear hb3 f1 f2 ky
      go_wp2_with fail
      have t1 := j1.c0
      have t2 := j1.c1
      have t3 := j2.c0
      have t4 := j2.c1
      have t5 := hs
      have c0 := k2.c0
      have c1 := k2.c1
      have f0 := k2.f 0
      have f1 := k2.f 1
      have c2 := k3.c0
      have c3 := k3.c1
      have f2 := k3.f 0
      have f3 := k3.f 1
      obtain ⟨s1, s2, s3, s4, s5⟩ := s_drew4 t1 t2 t3 t4 hs
      go_region_held3 (fun w' => w'.cell? ⟨w2.heap.size, 0, none⟩ = some (.int .i64 y1) ∧ w'.cell? ⟨w2.heap.size, 1, none⟩ = some (.pointer q1) ∧ w'.cell? ⟨w2.heap.size + 1, 0, none⟩ = some (.int .i64 y2) ∧ w'.cell? ⟨w2.heap.size + 1, 1, none⟩ = some (.pointer q2) ∧ Below w.heap.size w w') (first | (with_reducible exact ⟨s1, s2, s3, s4, s5⟩) | ((with_reducible refine s_chain2d t1 t2 t3 t4 t5 ?_ ?_ ?_) <;> omega) | ((with_reducible refine s_chain4d t1 t2 t3 t4 t5 ?_ ?_ ?_ ?_ ?_ ?_) <;> omega) | fail) (fail)
      have SS := hs
      clear s1 s2 s3 s4 s5 t1 t2 t3 t4 t5
      obtain ⟨WW, hWW⟩ : ∃ WW, (((w3.setCell ⟨w.heap.size + 2, 0, none⟩ (.int .i64 y1)).setCell ⟨w.heap.size + 2, 1, none⟩ (.pointer q1)).setCell ⟨w.heap.size + 3, 0, none⟩ (.int .i64 y2)).setCell ⟨w.heap.size + 3, 1, none⟩ (.pointer q2) = WW := ⟨_, rfl⟩
      rw [hWW]
      obtain ⟨z1, z2, z3, z4, z5⟩ := ret_box2 k2 k3 (by omega) hv hv' SS (by omega) (by omega) hWW
      rw [← HE.out.1, ← HE.out.2] at z5
      have HZ := Lib.hid (retInt2_drew z5)
      clear c0 c1 f0 f1 c2 c3 f2 f3 k2 k3 hWW z5 SS
      go_wp2_with fail
      exact bodyPost_ret (v := .tuple #[.agg #[.int .i64 y1, .pointer q1], .agg #[.int .i64 y2, .pointer q2]]) (by simp [results, Tryz.results128, go_sem, z1, z2, z3, z4]) rfl HZ.out
  · by_cases hn : 0 ≤ n
    · have hny : ∀ w', Below w.heap.size w w' → Calls Tryz.prog 112 #[.agg #[.int .i64 y, .pointer q]] w' (RetBool w' false) := fun w' hb => by
        have := negative_any (HVY.out.below hb)
        rwa [decide_eq_false (by have := HM.out.1; omega)] at this
      have hnx : ∀ w', Below w.heap.size w w' → Calls Tryz.prog 112 #[.agg #[.int .i64 x, .pointer p]] w' (RetBool w' false) := fun w' hb => by
        have := negative_any (HVX.out.below hb)
        rwa [decide_eq_false (by omega)] at this
      have HE := Lib.hid (ediv_same HM.out.1 (.inr (by omega)))
      have hz : (Int.sign (n.tmod m) != 0) = true := by rw [bne_iff_ne]; intro h; exact hr (Int.sign_eq_zero_iff_zero.1 h)
      obtain ⟨sg, hsg⟩ : ∃ sg, Int.sign (n.tmod m) = sg := ⟨_, rfl⟩
      rw [hsg] at hz HS
      have HNX := Lib.hid hnx
      have HNY := Lib.hid hny
      clear hr hsg hnx hny
      obtain ⟨kx, ky, k2, k3⟩ := HK2.out
      have kx := kx.below HBW.out
      have ky := ky.below HBW.out
      have s1 : W.drew.cell? ⟨w2.heap.size + 1, 0, none⟩ = some (.int .i64 y2) := f1
      have s2 : W.drew.cell? ⟨w2.heap.size + 1, 1, none⟩ = some (.pointer q2) := f2
      have s3 : W.drew.cell? ⟨w.heap.size, 0, none⟩ = some (.int .i64 x) := kx.c0
      have s4 : W.drew.cell? ⟨w.heap.size, 1, none⟩ = some (.pointer p) := kx.c1
      have s5 : W.drew.cell? ⟨w.heap.size + 1, 0, none⟩ = some (.int .i64 y) := ky.c0
      have s6 : W.drew.cell? ⟨w.heap.size + 1, 1, none⟩ = some (.pointer q) := ky.c1
      have s7 : Below w.heap.size w W.drew := (HB2.out.trans (HBW.out.mono HB2.out.size)).drew
      clear kx ky k2 k3 f1 f2
      go_region_held3 (fun w' => w'.cell? ⟨w2.heap.size + 1, 0, none⟩ = some (.int .i64 y2) ∧ w'.cell? ⟨w2.heap.size + 1, 1, none⟩ = some (.pointer q2) ∧ w'.cell? ⟨w.heap.size, 0, none⟩ = some (.int .i64 x) ∧ w'.cell? ⟨w.heap.size, 1, none⟩ = some (.pointer p) ∧ w'.cell? ⟨w.heap.size + 1, 0, none⟩ = some (.int .i64 y) ∧ w'.cell? ⟨w.heap.size + 1, 1, none⟩ = some (.pointer q) ∧ Below w.heap.size w w') (first | (with_reducible exact ⟨s1, s2, s3, s4, s5, s6, s7⟩) | fail) (first | (go_at_call 65; (with_reducible refine HS.out.mono ?_); rintro e w3 ⟨rfl, hb3⟩; obtain ⟨s1, s2, s3, s4, s5, s6, s7⟩ := s_step6 s1 s2 s3 s4 s5 s6 s7 hb3) | (go_at_call 112; (with_reducible refine (HNX.out _ s7).mono ?_); rintro e w4 ⟨rfl, hb4⟩; obtain ⟨s1, s2, s3, s4, s5, s6, s7⟩ := s_step6 s1 s2 s3 s4 s5 s6 s7 hb4) | (go_at_call 112; (with_reducible refine (HNY.out _ s7).mono ?_); rintro e w5 ⟨rfl, hb5⟩; obtain ⟨s1, s2, s3, s4, s5, s6, s7⟩ := s_step6 s1 s2 s3 s4 s5 s6 s7 hb5) | fail)
      clear s1 s2 s3 s4 s5 s6 s7
      obtain ⟨kx, ky, k2, k3⟩ := HK2.out
      have hge : w.heap.size + 3 < w2.heap.size := Bx.lt k3
      obtain ⟨j1, j2⟩ := HJ.out
      have hbb := ((((Below.refl W.heap.size W).drew).trans hb3).trans (hb4.mono (((Below.refl W.heap.size W).drew).trans hb3).size)).trans (hb5.mono ((((Below.refl W.heap.size W).drew).trans hb3).trans (hb4.mono (((Below.refl W.heap.size W).drew).trans hb3).size)).size)
      have hs := HB2.out.trans ((HBW.out.trans (hbb.mono HBW.out.size)).mono HB2.out.size)
      have ky := (ky.below HBW.out).below hbb
      have k2 := (k2.below HBW.out).below hbb
      have k3 := (k3.below HBW.out).below hbb
      have j1 := j1.below hbb
      have j2 := j2.below hbb
      have hv := (HV.out.1.below HBW.out).below hbb
      have hv' := (HV.out.2.below HBW.out).below hbb
      clear kx hbb
      clear hb3 hb4 hb5 ky
      go_wp2_with fail
      have t1 := j1.c0
      have t2 := j1.c1
      have t3 := j2.c0
      have t4 := j2.c1
      have t5 := hs
      have c0 := k2.c0
      have c1 := k2.c1
      have f0 := k2.f 0
      have f1 := k2.f 1
      have c2 := k3.c0
      have c3 := k3.c1
      have f2 := k3.f 0
      have f3 := k3.f 1
      obtain ⟨s1, s2, s3, s4, s5⟩ := s_drew4 t1 t2 t3 t4 hs
      go_region_held3 (fun w' => w'.cell? ⟨w2.heap.size, 0, none⟩ = some (.int .i64 y1) ∧ w'.cell? ⟨w2.heap.size, 1, none⟩ = some (.pointer q1) ∧ w'.cell? ⟨w2.heap.size + 1, 0, none⟩ = some (.int .i64 y2) ∧ w'.cell? ⟨w2.heap.size + 1, 1, none⟩ = some (.pointer q2) ∧ Below w.heap.size w w') (first | (with_reducible exact ⟨s1, s2, s3, s4, s5⟩) | ((with_reducible refine s_chain2d t1 t2 t3 t4 t5 ?_ ?_ ?_) <;> omega) | ((with_reducible refine s_chain4d t1 t2 t3 t4 t5 ?_ ?_ ?_ ?_ ?_ ?_) <;> omega) | fail) (fail)
      have SS := hs
      clear s1 s2 s3 s4 s5 t1 t2 t3 t4 t5
      obtain ⟨WW, hWW⟩ : ∃ WW, (((w5.setCell ⟨w.heap.size + 2, 0, none⟩ (.int .i64 y1)).setCell ⟨w.heap.size + 2, 1, none⟩ (.pointer q1)).setCell ⟨w.heap.size + 3, 0, none⟩ (.int .i64 y2)).setCell ⟨w.heap.size + 3, 1, none⟩ (.pointer q2) = WW := ⟨_, rfl⟩
      rw [hWW]
      obtain ⟨z1, z2, z3, z4, z5⟩ := ret_box2 k2 k3 (by omega) hv hv' SS (by omega) (by omega) hWW
      rw [← HE.out.1, ← HE.out.2] at z5
      have HZ := Lib.hid (retInt2_drew z5)
      clear c0 c1 f0 f1 c2 c3 f2 f3 k2 k3 hWW z5 SS
      go_wp2_with fail
      exact bodyPost_ret (v := .tuple #[.agg #[.int .i64 y1, .pointer q1], .agg #[.int .i64 y2, .pointer q2]]) (by simp [results, Tryz.results128, go_sem, z1, z2, z3, z4]) rfl HZ.out
    · have hny : ∀ w', Below w.heap.size w w' → Calls Tryz.prog 112 #[.agg #[.int .i64 y, .pointer q]] w' (RetBool w' false) := fun w' hb => by
        have := negative_any (HVY.out.below hb)
        rwa [decide_eq_false (by have := HM.out.1; omega)] at this
      have hnx : ∀ w', Below w.heap.size w w' → Calls Tryz.prog 112 #[.agg #[.int .i64 x, .pointer p]] w' (RetBool w' true) := fun w' hb => by
        have := negative_any (HVX.out.below hb)
        rwa [decide_eq_true (by omega)] at this
      have HE := Lib.hid (ediv_less HM.out.1 hr (by omega))
      have HQ := Lib.hid (show (n.tdiv m).natAbs < B64 ^ K ∧ (1 : Int).natAbs < B64 ^ K ∧ (n.tmod m).natAbs < B64 ^ K ∧ m.natAbs < B64 ^ K from
        ⟨Nat.lt_of_le_of_lt (by rw [Int.natAbs_tdiv]; exact Nat.div_le_self _ _) HM.out.2.1, by have := HM.out.1; have := HM.out.2.2; omega, Nat.lt_of_le_of_lt (by rw [Int.natAbs_tmod]; exact Nat.mod_le _ _) HM.out.2.1, HM.out.2.2⟩)
      have hz : (Int.sign (n.tmod m) != 0) = true := by rw [bne_iff_ne]; intro h; exact hr (Int.sign_eq_zero_iff_zero.1 h)
      obtain ⟨sg, hsg⟩ : ∃ sg, Int.sign (n.tmod m) = sg := ⟨_, rfl⟩
      rw [hsg] at hz HS
      have HNX := Lib.hid hnx
      have HNY := Lib.hid hny
      clear hr hsg hnx hny
      obtain ⟨kx, ky, k2, k3⟩ := HK2.out
      have kx := kx.below HBW.out
      have ky := ky.below HBW.out
      have s1 : W.drew.cell? ⟨w2.heap.size + 1, 0, none⟩ = some (.int .i64 y2) := f1
      have s2 : W.drew.cell? ⟨w2.heap.size + 1, 1, none⟩ = some (.pointer q2) := f2
      have s3 : W.drew.cell? ⟨w.heap.size, 0, none⟩ = some (.int .i64 x) := kx.c0
      have s4 : W.drew.cell? ⟨w.heap.size, 1, none⟩ = some (.pointer p) := kx.c1
      have s5 : W.drew.cell? ⟨w.heap.size + 1, 0, none⟩ = some (.int .i64 y) := ky.c0
      have s6 : W.drew.cell? ⟨w.heap.size + 1, 1, none⟩ = some (.pointer q) := ky.c1
      have s7 : Below w.heap.size w W.drew := (HB2.out.trans (HBW.out.mono HB2.out.size)).drew
      clear kx ky k2 k3 f1 f2
      go_region_held3 (fun w' => w'.cell? ⟨w2.heap.size + 1, 0, none⟩ = some (.int .i64 y2) ∧ w'.cell? ⟨w2.heap.size + 1, 1, none⟩ = some (.pointer q2) ∧ w'.cell? ⟨w.heap.size, 0, none⟩ = some (.int .i64 x) ∧ w'.cell? ⟨w.heap.size, 1, none⟩ = some (.pointer p) ∧ w'.cell? ⟨w.heap.size + 1, 0, none⟩ = some (.int .i64 y) ∧ w'.cell? ⟨w.heap.size + 1, 1, none⟩ = some (.pointer q) ∧ Below w.heap.size w w') (first | (with_reducible exact ⟨s1, s2, s3, s4, s5, s6, s7⟩) | fail) (first | (go_at_call 65; (with_reducible refine HS.out.mono ?_); rintro e w3 ⟨rfl, hb3⟩; obtain ⟨s1, s2, s3, s4, s5, s6, s7⟩ := s_step6 s1 s2 s3 s4 s5 s6 s7 hb3) | (go_at_call 112; (with_reducible refine (HNX.out _ s7).mono ?_); rintro e w4 ⟨rfl, hb4⟩; obtain ⟨s1, s2, s3, s4, s5, s6, s7⟩ := s_step6 s1 s2 s3 s4 s5 s6 s7 hb4) | (go_at_call 112; (with_reducible refine (HNY.out _ s7).mono ?_); rintro e w5 ⟨rfl, hb5⟩; obtain ⟨s1, s2, s3, s4, s5, s6, s7⟩ := s_step6 s1 s2 s3 s4 s5 s6 s7 hb5) | fail)
      clear s1 s2 s3 s4 s5 s6 s7
      obtain ⟨kx, ky, k2, k3⟩ := HK2.out
      have hge : w.heap.size + 3 < w2.heap.size := Bx.lt k3
      obtain ⟨j1, j2⟩ := HJ.out
      have hbb := ((((Below.refl W.heap.size W).drew).trans hb3).trans (hb4.mono (((Below.refl W.heap.size W).drew).trans hb3).size)).trans (hb5.mono ((((Below.refl W.heap.size W).drew).trans hb3).trans (hb4.mono (((Below.refl W.heap.size W).drew).trans hb3).size)).size)
      have hs := HB2.out.trans ((HBW.out.trans (hbb.mono HBW.out.size)).mono HB2.out.size)
      have ky := (ky.below HBW.out).below hbb
      have k2 := (k2.below HBW.out).below hbb
      have k3 := (k3.below HBW.out).below hbb
      have j1 := j1.below hbb
      have j2 := j2.below hbb
      have hv := (HV.out.1.below HBW.out).below hbb
      have hv' := (HV.out.2.below HBW.out).below hbb
      clear kx hbb
      clear hb3 hb4 hb5
      go_wp2_with fail
      have s1 : w5.drew.cell? ⟨w2.heap.size, 0, none⟩ = some (.int .i64 y1) := j1.c0
      have s2 : w5.drew.cell? ⟨w2.heap.size, 1, none⟩ = some (.pointer q1) := j1.c1
      have s3 : w5.drew.cell? ⟨w2.heap.size + 1, 0, none⟩ = some (.int .i64 y2) := j2.c0
      have s4 : w5.drew.cell? ⟨w2.heap.size + 1, 1, none⟩ = some (.pointer q2) := j2.c1
      have s5 : w5.drew.cell? ⟨w.heap.size + 1, 0, none⟩ = some (.int .i64 y) := ky.c0
      have s6 : w5.drew.cell? ⟨w.heap.size + 1, 1, none⟩ = some (.pointer q) := ky.c1
      have s7 : Below w.heap.size w w5.drew := hs.drew
      have k2 : K2 (w.heap.size + 2) 0 none w5.drew := k2
      have k3 : K2 (w.heap.size + 3) 0 none w5.drew := k3
      have hv := hv.below (Below.refl w5.heap.size w5).drew
      have hv' := hv'.below (Below.refl w5.heap.size w5).drew
      clear j1 j2 ky hs
      go_region_held3 (fun w' => w'.cell? ⟨w2.heap.size, 0, none⟩ = some (.int .i64 y1) ∧ w'.cell? ⟨w2.heap.size, 1, none⟩ = some (.pointer q1) ∧ w'.cell? ⟨w2.heap.size + 1, 0, none⟩ = some (.int .i64 y2) ∧ w'.cell? ⟨w2.heap.size + 1, 1, none⟩ = some (.pointer q2) ∧ w'.cell? ⟨w.heap.size + 1, 0, none⟩ = some (.int .i64 y) ∧ w'.cell? ⟨w.heap.size + 1, 1, none⟩ = some (.pointer q) ∧ Below w.heap.size w w') (first | (with_reducible exact ⟨s1, s2, s3, s4, s5, s6, s7⟩) | ((with_reducible refine s_chain6 s1 s2 s3 s4 s5 s6 s7 ?_ ?_ ?_ ?_) <;> omega) | ((with_reducible refine s_chain8 ?_ ?_ ?_ ?_ ?_ ?_ ?_ ?_ s1 s2 s3 s4 s5 s6 s7) <;> omega) | fail) (first | (go_at_call 59; (with_reducible refine (fromInt64_any isS_one _).mono ?_); rintro e w6 ⟨v6, rfl, hv6, hb6⟩; obtain ⟨s1, s2, s3, s4, s5, s6, s7⟩ := s_step6 s1 s2 s3 s4 s5 s6 s7 hb6; have k2 := k2.below hb6; have k3 := k3.below hb6; have hv := hv.below hb6; have hv' := hv'.below hb6) | (go_at_call 161; (with_reducible refine (subI_any (K := K) hv hv6 (by omega) HQ.out.1 HQ.out.2.1).mono ?_); rintro e w7 ⟨v7, rfl, hv7, hb7⟩; obtain ⟨s1, s2, s3, s4, s5, s6, s7⟩ := s_step6 s1 s2 s3 s4 s5 s6 s7 hb7; have k2 := k2.below hb7; have k3 := k3.below hb7; have hv' := hv'.below hb7) | (go_at_call 123; (with_reducible refine (addI_any (K := K) hv' (HVY.out.below s7) (by omega) HQ.out.2.2.1 HQ.out.2.2.2).mono ?_); rintro e w8 ⟨v8, rfl, hv8, hb8⟩; obtain ⟨s1, s2, s3, s4, s5, s6, s7⟩ := s_step6 s1 s2 s3 s4 s5 s6 s7 hb8; have k2 := k2.below hb8; have k3 := k3.below hb8; have hv7 := hv7.below hb8; obtain ⟨y', q', rfl⟩ := hv7.two; obtain ⟨y'', q'', rfl⟩ := hv8.two; have c0 := k2.c0; have c1 := k2.c1; have f0 := k2.f 0; have f1 := k2.f 1; have c2 := k3.c0; have c3 := k3.c1; have f2 := k3.f 0; have f3 := k3.f 1) | fail)
      have SS := s7
      clear s1 s2 s3 s4 s5 s6 s7 hb6 hb7 hb8 hv hv' hv6
      obtain ⟨WW, hWW⟩ : ∃ WW, (((w8.setCell ⟨w.heap.size + 2, 0, none⟩ (.int .i64 y')).setCell ⟨w.heap.size + 2, 1, none⟩ (.pointer q')).setCell ⟨w.heap.size + 3, 0, none⟩ (.int .i64 y'')).setCell ⟨w.heap.size + 3, 1, none⟩ (.pointer q'') = WW := ⟨_, rfl⟩
      rw [hWW]
      obtain ⟨z1, z2, z3, z4, z5⟩ := ret_box2 k2 k3 (by omega) hv7 hv8 SS (by omega) (by omega) hWW
      rw [← HE.out.1, ← HE.out.2] at z5
      have HZ := Lib.hid z5
      clear c0 c1 f0 f1 c2 c3 f2 f3 k2 k3 hWW z5 SS
      go_wp2_with fail
      exact bodyPost_ret (v := .tuple #[.agg #[.int .i64 y', .pointer q'], .agg #[.int .i64 y'', .pointer q'']]) (by simp [results, Tryz.results128, go_sem, z1, z2, z3, z4]) rfl HZ.out
theorem divI_any {vx vy : Value} {n m : Int} {K : Nat} {w : World} (hx : IntV w vx n) (hy : IntV w vy m) (hm0 : 0 < m) (hK : K < 239) (hn : n.natAbs < B64 ^ K) (hm : m.natAbs < B64 ^ K) :
    Calls Tryz.prog 128 #[vx, vy] w (RetInt2 w (n / m) (n % m)) := by
  obtain ⟨x, p, rfl⟩ := hx.two
  obtain ⟨y, q, rfl⟩ := hy.two
  exact div_pos hx hy hm0 hK hn hm
end Go.Proofs.YtekghemhccfhkaaGreatDoor
namespace Go.Big
open Go Go.RowKit
theorem signed_pow (n : Int) (e : Nat) (b : Bool) (hb : b = (decide (n < 0) && ((e : Int) % 2 == 1))) : signed b (n.natAbs ^ e) = n ^ e := by
  subst hb
  by_cases h : n < 0
  · rw [decide_eq_true h, Bool.true_and]
    obtain ⟨m, rfl⟩ : ∃ m : Nat, n = -(m : Int) := ⟨n.natAbs, by omega⟩
    rw [Int.natAbs_neg, Int.natAbs_natCast]
    by_cases he : e % 2 = 1
    · have : ((e : Int) % 2 == 1) = true := by rw [beq_iff_eq]; omega
      rw [this]
      show -((m ^ e : Nat) : Int) = (-(m : Int)) ^ e
      obtain ⟨k, rfl⟩ : ∃ k, e = 2 * k + 1 := ⟨e / 2, by omega⟩
      rw [Int.pow_succ, Int.pow_mul, Int.natCast_pow, Int.pow_succ, Int.pow_mul]
      have e2 : (-(m : Int)) ^ 2 = (m : Int) ^ 2 := by grind
      rw [e2]; grind
    · have : ((e : Int) % 2 == 1) = false := by rw [beq_eq_false_iff_ne]; omega
      rw [this]
      show ((m ^ e : Nat) : Int) = (-(m : Int)) ^ e
      obtain ⟨k, rfl⟩ : ∃ k, e = 2 * k := ⟨e / 2, by omega⟩
      rw [Int.pow_mul, Int.natCast_pow, Int.pow_mul]
      have e2 : (-(m : Int)) ^ 2 = (m : Int) ^ 2 := by grind
      rw [e2]
  · rw [decide_eq_false h, Bool.false_and]
    show ((n.natAbs ^ e : Nat) : Int) = n ^ e
    rw [Int.natCast_pow, show (n.natAbs : Int) = n by omega]
end Go.Big
namespace Go.Proofs.YtekghemhccfhkaaGreatDoor
open Go.RowKit Go.Big
end Go.Proofs.YtekghemhccfhkaaGreatDoor
namespace Go.Big
open Go Go.RowKit
/-- The value v is the fraction q: the numerator's two cells, the denominator's two. -/
def FracV (w : World) (v : Value) (q : Rat) : Prop := ∃ a p b r, v = .agg #[.int .i64 a, .pointer p, .int .i64 b, .pointer r] ∧ IntV w (.agg #[.int .i64 a, .pointer p]) q.num ∧ IntV w (.agg #[.int .i64 b, .pointer r]) (q.den : Int)
theorem FracV.below {w w' : World} {v : Value} {q : Rat} (h : FracV w v q) (hb : Below w.heap.size w w') : FracV w' v q := by
  obtain ⟨a, p, b, r, e, h1, h2⟩ := h
  exact ⟨a, p, b, r, e, h1.below hb, h2.below hb⟩
theorem ip4 (x : Int) (p : Option Addr) (y : Int) (q : Option Addr) : ∀ c ∈ #[Value.int .i64 x, .pointer p, .int .i64 y, .pointer q], IP c := by
  intro c hc; simp at hc; rcases hc with rfl | rfl | rfl | rfl
  · exact IP.int _
  · exact IP.ptr _
  · exact IP.int _
  · exact IP.ptr _
/-- A box of a fraction. -/
def K4 (g : Nat) (x : Int) (p : Option Addr) (y : Int) (q : Option Addr) (w : World) : Prop := Bx w g #[.int .i64 x, .pointer p, .int .i64 y, .pointer q] 65
section
variable {g : Nat} {x y : Int} {p q : Option Addr} {w w' : World}
theorem K4.below (h : K4 g x p y q w) (hb : Below w.heap.size w w') : K4 g x p y q w' := Bx.below h hb
theorem K4.drew (h : K4 g x p y q w) : K4 g x p y q w.drew := h
theorem K2.drew' {g : Nat} {x : Int} {p : Option Addr} {w : World} (h : K2 g x p w) : K2 g x p w.drew := h
theorem K4.c0 (h : K4 g x p y q w) : w.cell? ⟨g, 0, none⟩ = some (.int .i64 x) := by rw [Bx.cell h]; rfl
theorem K4.c1 (h : K4 g x p y q w) : w.cell? ⟨g, 1, none⟩ = some (.pointer p) := by rw [Bx.cell h]; rfl
theorem K4.c2 (h : K4 g x p y q w) : w.cell? ⟨g, 2, none⟩ = some (.int .i64 y) := by rw [Bx.cell h]; rfl
theorem K4.c3 (h : K4 g x p y q w) : w.cell? ⟨g, 3, none⟩ = some (.pointer q) := by rw [Bx.cell h]; rfl
theorem K4.f (h : K4 g x p y q w) (i : Nat) : w.frozen? ⟨g, i, none⟩ = false := Bx.frozen h i
end
/-- Storing a fraction into a box. -/
abbrev st4 (w : World) (g : Nat) (x : Int) (p : Option Addr) (y : Int) (q : Option Addr) : World :=
  (((w.setCell ⟨g, 0, none⟩ (.int .i64 x)).setCell ⟨g, 1, none⟩ (.pointer p)).setCell ⟨g, 2, none⟩ (.int .i64 y)).setCell ⟨g, 3, none⟩ (.pointer q)
abbrev st2 (w : World) (g : Nat) (x : Int) (p : Option Addr) : World := (w.setCell ⟨g, 0, none⟩ (.int .i64 x)).setCell ⟨g, 1, none⟩ (.pointer p)
theorem K4.st {g : Nat} {x y : Int} {p q : Option Addr} {w : World} (h : K4 g x p y q w) (x' : Int) (p' : Option Addr) (y' : Int) (q' : Option Addr) : K4 g x' p' y' q' (st4 w g x' p' y' q') :=
  (((Bx.set h 0 (IP.int x')).set 1 (IP.ptr p')).set 2 (IP.int y')).set 3 (IP.ptr q')
theorem Bx.st_other {g g' : Nat} {cs : Array Value} {t : TypeId} {w : World} (h : Bx w g cs t) (hne : g ≠ g') (x : Int) (p : Option Addr) (y : Int) (q : Option Addr) : Bx (st4 w g' x p y q) g cs t :=
  (((h.other hne _ _).other hne _ _).other hne _ _).other hne _ _
theorem IntV.st {g : Nat} {x y : Int} {p q : Option Addr} {w : World} {v : Value} {n : Int} (k : K4 g x p y q w) (h : IntV w v n) (x' : Int) (p' : Option Addr) (y' : Int) (q' : Option Addr) : IntV (st4 w g x' p' y' q') v n :=
  (((h.setIP k).setIP (Bx.set k 0 (IP.int x'))).setIP ((Bx.set k 0 (IP.int x')).set 1 (IP.ptr p'))).setIP (((Bx.set k 0 (IP.int x')).set 1 (IP.ptr p')).set 2 (IP.int y'))
theorem below_st4 {B : Nat} {a w : World} (h : Below B a w) {g : Nat} (hg : B ≤ g) (x : Int) (p : Option Addr) (y : Int) (q : Option Addr) : Below B a (st4 w g x p y q) :=
  (((h.setCell hg _).setCell hg _).setCell hg _).setCell hg _
theorem K4.o4 {g g' : Nat} {x y : Int} {p q : Option Addr} {w : World} (h : K4 g x p y q w) (hne : g ≠ g') (a : Int) (b : Option Addr) (c : Int) (d : Option Addr) : K4 g x p y q (st4 w g' a b c d) := Bx.st_other h hne a b c d
theorem K2.o4 {g g' : Nat} {x : Int} {p : Option Addr} {w : World} (h : K2 g x p w) (hne : g ≠ g') (a : Int) (b : Option Addr) (c : Int) (d : Option Addr) : K2 g x p (st4 w g' a b c d) := Bx.st_other h hne a b c d
theorem K4.o2 {g g' : Nat} {x y : Int} {p q : Option Addr} {w : World} (h : K4 g x p y q w) (hne : g ≠ g') (a : Int) (b : Option Addr) : K4 g x p y q (st2 w g' a b) := (Bx.other h hne _ _).other hne _ _
theorem K2.o2 {g g' : Nat} {x : Int} {p : Option Addr} {w : World} (h : K2 g x p w) (hne : g ≠ g') (a : Int) (b : Option Addr) : K2 g x p (st2 w g' a b) := (Bx.other h hne _ _).other hne _ _
theorem _root_.Go.RowKit.Below.st4 {B : Nat} {a w : World} (h : Below B a w) {g : Nat} (hg : B ≤ g) (x : Int) (p : Option Addr) (y : Int) (q : Option Addr) : Below B a (Go.Big.st4 w g x p y q) := below_st4 h hg x p y q
theorem _root_.Go.RowKit.Below.st2 {B : Nat} {a w : World} (h : Below B a w) {g : Nat} (hg : B ≤ g) (x : Int) (p : Option Addr) : Below B a (Go.Big.st2 w g x p) := (h.setCell hg _).setCell hg _
theorem boxes2 (w : World) (c1 : Array Value) (t1 : TypeId) (c2 : Array Value) (t2 : TypeId) (h1 : ∀ c ∈ c1, IP c) (h2 : ∀ c ∈ c2, IP c) : ∃ w0, (w.alloc (.cells c1 t1)).alloc (.cells c2 t2) = w0 ∧ Below w.heap.size w w0 ∧ Bx w0 w.heap.size c1 t1 ∧ Bx w0 (w.heap.size + 1) c2 t2 ∧ w0.heap.size = w.heap.size + 2 := by
  obtain ⟨w1, e1, b1, x1, z1⟩ := box1 w c1 t1 h1
  obtain ⟨w2, e2, b2, x2, z2⟩ := box1 w1 c2 t2 h2
  rw [z1] at x2
  exact ⟨w2, by rw [e1, e2], b1.trans (b2.mono b1.size), x1.below b2, x2, by omega⟩
theorem boxes3 (w : World) (c1 : Array Value) (t1 : TypeId) (c2 : Array Value) (t2 : TypeId) (c3 : Array Value) (t3 : TypeId) (h1 : ∀ c ∈ c1, IP c) (h2 : ∀ c ∈ c2, IP c) (h3 : ∀ c ∈ c3, IP c) : ∃ w0, ((w.alloc (.cells c1 t1)).alloc (.cells c2 t2)).alloc (.cells c3 t3) = w0 ∧ Below w.heap.size w w0 ∧ Bx w0 w.heap.size c1 t1 ∧ Bx w0 (w.heap.size + 1) c2 t2 ∧ Bx w0 (w.heap.size + 2) c3 t3 ∧ w0.heap.size = w.heap.size + 3 := by
  obtain ⟨w2, e2, b2, x1, x2, z2⟩ := boxes2 w c1 t1 c2 t2 h1 h2
  obtain ⟨w3, e3, b3, x3, z3⟩ := box1 w2 c3 t3 h3
  rw [z2] at x3
  exact ⟨w3, by rw [e2, e3], b2.trans (b3.mono b2.size), x1.below b3, x2.below b3, x3, by omega⟩
end Go.Big
namespace Go.Proofs.YtekghemhccfhkaaGreatDoor
open Go.RowKit Go.Big
def RetF (w : World) (q : Rat) (e : Ending) (w' : World) : Prop := ∃ v, e = .returned v ∧ FracV w' v q ∧ Below w.heap.size w w'
/-- What a call that ends with a fraction in its result's box leaves. -/
theorem ret_box4 {w w3 : World} {g : Nat} {x0 y0 x y : Int} {p0 q0 p q : Option Addr} {r : Rat} (k : K4 g x0 p0 y0 q0 w3) (h1 : IntV w3 (.agg #[.int .i64 x, .pointer p]) r.num) (h2 : IntV w3 (.agg #[.int .i64 y, .pointer q]) (r.den : Int)) (s3 : Below w.heap.size w w3) (hg : w.heap.size ≤ g)
    {W : World} (hW : (((w3.setCell ⟨g, 0, none⟩ (.int .i64 x)).setCell ⟨g, 1, none⟩ (.pointer p)).setCell ⟨g, 2, none⟩ (.int .i64 y)).setCell ⟨g, 3, none⟩ (.pointer q) = W) :
    W.cell? ⟨g, 0, none⟩ = some (.int .i64 x) ∧ W.cell? ⟨g, 1, none⟩ = some (.pointer p) ∧ W.cell? ⟨g, 2, none⟩ = some (.int .i64 y) ∧ W.cell? ⟨g, 3, none⟩ = some (.pointer q) ∧ RetF w r (.returned (.agg #[.int .i64 x, .pointer p, .int .i64 y, .pointer q])) W := by
  have hW : st4 w3 g x p y q = W := hW
  subst hW
  have k' := k.st x p y q
  exact ⟨k'.c0, k'.c1, k'.c2, k'.c3, _, rfl, ⟨x, p, y, q, rfl, h1.st k x p y q, h2.st k x p y q⟩, below_st4 s3 hg x p y q⟩
end Go.Proofs.YtekghemhccfhkaaGreatDoor
namespace Go.Proofs.YtekghemhccfhkaaGreatDoor
open Go.RowKit Go.Big
theorem inv_neg_parts {q : Rat} (h : q.num < 0) : (q⁻¹).num = -(q.den : Int) ∧ ((q⁻¹).den : Int) = -q.num := by
  have hq : q ≠ 0 := fun e => by rw [e] at h; exact absurd h (by decide)
  have := rat_inv q hq
  rw [if_pos h] at this
  exact ⟨this.1, by rw [this.2]; omega⟩
theorem inv_pos_parts {q : Rat} (h : 0 < q.num) : (q⁻¹).num = (q.den : Int) ∧ ((q⁻¹).den : Int) = q.num := by
  have hq : q ≠ 0 := fun e => by rw [e] at h; exact absurd h (by decide)
  have := rat_inv q hq
  rw [if_neg (by omega)] at this
  exact ⟨this.1, by rw [this.2]; omega⟩
theorem sign_at {v : Value} {n s : Int} {w : World} (h : IntV w v n) (hs : Int.sign n = s) : Calls Tryz.prog 65 #[v] w (RetI w s) := by rw [← hs]; exact sign_any h
set_option maxRecDepth 100000 in
set_option maxHeartbeats 4000000 in
theorem whole_any {v : Value} {n : Int} {w : World} (h : IntV w v n) : Calls Tryz.prog 98 #[v] w (RetF w (n : Rat)) := by
  obtain ⟨x, p, rfl⟩ := h.two
  obtain ⟨w0, hw0, hs, k0, k1, hz⟩ := boxes2 w #[.int .i64 x, .pointer p] 63 #[.int .i64 0, .pointer none, .int .i64 0, .pointer none] 65 (ip2 _ _) (ip4 _ _ _ _)
  have k0 : K2 (w.heap.size) x p w0 := k0
  have k1 : K4 (w.heap.size + 1) 0 none 0 none w0 := k1
  have HV := Lib.hid h
  clear h hz
  have ek00 := k0.c0
  have ek01 := k0.c1
  have k0 : K2 (w.heap.size) x p w0.drew := k0
  have k1 : K4 (w.heap.size + 1) 0 none 0 none w0.drew := k1
  have hs : Below w.heap.size w w0.drew := hs.drew
  have n_k0 : w.heap.size ≠ w.heap.size + 1 := by omega
  have hg : w.heap.size ≤ w.heap.size + 1 := by omega
  go_enter Tryz.func98, Tryz.ntmps98
  go_wp2_with fail
  go_region_held3 (fun w' => w'.cell? ⟨w.heap.size, 0, none⟩ = some (.int .i64 x) ∧ w'.cell? ⟨w.heap.size, 1, none⟩ = some (.pointer p) ∧ Below w.heap.size w w') (first | (with_reducible exact ⟨k0.c0, k0.c1, hs⟩) | (with_reducible exact ⟨(k0.o4 n_k0 _ _ _ _).c0, (k0.o4 n_k0 _ _ _ _).c1, hs.st4 hg _ _ _ _⟩) | fail) (first | (go_at_call 59; (with_reducible refine (fromInt64_any isS_one _).mono ?_); rintro e w1 ⟨v1, rfl, hv1, hb1⟩; have k0 := k0.below hb1; have k1 := k1.below hb1; have hs := hs.trans (hb1.mono hs.size); obtain ⟨y', q', rfl⟩ := hv1.two; have c0 := k1.c0; have c1 := k1.c1; have c2 := k1.c2; have c3 := k1.c3; have f0 := k1.f 0; have f1 := k1.f 1; have f2 := k1.f 2; have f3 := k1.f 3) | fail)
  obtain ⟨W, hW⟩ : ∃ W, (((w1.setCell ⟨w.heap.size + 1, 0, none⟩ (.int .i64 x)).setCell ⟨w.heap.size + 1, 1, none⟩ (.pointer p)).setCell ⟨w.heap.size + 1, 2, none⟩ (.int .i64 y')).setCell ⟨w.heap.size + 1, 3, none⟩ (.pointer q') = W := ⟨_, rfl⟩
  rw [hW]
  obtain ⟨z0, z1, z2, z3, z4⟩ := ret_box4 (r := (n : Rat)) k1 (by rw [Rat.num_intCast]; exact HV.out.below hs) (by rw [Rat.den_intCast]; exact hv1) hs hg hW
  have HZ := Lib.hid z4
  clear k0 k1 hs hb1 hv1 c0 c1 c2 c3 f0 f1 f2 f3 hW z4
  go_wp2_with fail
  exact bodyPost_ret (v := .agg #[.int .i64 x, .pointer p, .int .i64 y', .pointer q']) (by simp [results, Tryz.results98, go_sem, z0, z1, z2, z3]) rfl HZ.out
set_option maxRecDepth 100000 in
set_option maxHeartbeats 4000000 in
theorem inverse_neg {v : Value} {q : Rat} {w : World} (h : FracV w v q) (hn : q.num < 0) : Calls Tryz.prog 82 #[v] w (RetF w q⁻¹) := by
  have HI := Lib.hid (inv_neg_parts hn)
  have HSG := Lib.hid (Int.sign_eq_neg_one_of_neg hn)
  clear hn
  obtain ⟨a, p, b, r, rfl, ha, hb⟩ := h
  obtain ⟨w0, hw0, hs, k0, k1, hz⟩ := boxes2 w #[.int .i64 a, .pointer p, .int .i64 b, .pointer r] 65 #[.int .i64 0, .pointer none, .int .i64 0, .pointer none] 65 (ip4 _ _ _ _) (ip4 _ _ _ _)
  have k0 : K4 (w.heap.size) a p b r w0 := k0
  have k1 : K4 (w.heap.size + 1) 0 none 0 none w0 := k1
  have HA := Lib.hid ha
  have HD := Lib.hid hb
  clear ha hb hz
  have ek00 := k0.c0
  have ek01 := k0.c1
  have ek02 := k0.c2
  have ek03 := k0.c3
  go_enter Tryz.func82, Tryz.ntmps82
  go_wp2_with fail
  refine (sign_at (HA.out.below hs) HSG.out).mono ?_
  rintro e w1 ⟨rfl, hb1⟩
  have k0 := k0.below hb1
  have k1 := k1.below hb1
  have hs := hs.trans (hb1.mono hs.size)
  clear ek00 ek01 ek02 ek03
  have ek00 := k0.c0
  have ek01 := k0.c1
  have ek02 := k0.c2
  have ek03 := k0.c3
  go_wp2_with fail
  have k0 : K4 (w.heap.size) a p b r w1.drew := k0
  have k1 : K4 (w.heap.size + 1) 0 none 0 none w1.drew := k1
  have hs : Below w.heap.size w w1.drew := hs.drew
  have n_k0 : w.heap.size ≠ w.heap.size + 1 := by omega
  have hg : w.heap.size ≤ w.heap.size + 1 := by omega
  go_region_held3 (fun w' => w'.cell? ⟨w.heap.size, 0, none⟩ = some (.int .i64 a) ∧ w'.cell? ⟨w.heap.size, 1, none⟩ = some (.pointer p) ∧ w'.cell? ⟨w.heap.size, 2, none⟩ = some (.int .i64 b) ∧ w'.cell? ⟨w.heap.size, 3, none⟩ = some (.pointer r) ∧ Below w.heap.size w w') (first | (with_reducible exact ⟨k0.c0, k0.c1, k0.c2, k0.c3, hs⟩) | (with_reducible exact ⟨(k0.o4 n_k0 _ _ _ _).c0, (k0.o4 n_k0 _ _ _ _).c1, (k0.o4 n_k0 _ _ _ _).c2, (k0.o4 n_k0 _ _ _ _).c3, hs.st4 hg _ _ _ _⟩) | fail) (first | (go_at_call 66; (with_reducible refine (negI_any (HD.out.below hs)).mono ?_); rintro e w2 ⟨v2, rfl, hv2, hb2⟩; have k0 := k0.below hb2; have k1 := k1.below hb2; have hs := hs.trans (hb2.mono hs.size)) | (go_at_call 66; (with_reducible refine (negI_any (HA.out.below hs)).mono ?_); rintro e w3 ⟨v3, rfl, hv3, hb3⟩; have k0 := k0.below hb3; have k1 := k1.below hb3; have hs := hs.trans (hb3.mono hs.size); have hv2 := hv2.below hb3; obtain ⟨y2, q2, rfl⟩ := hv2.two; obtain ⟨y3, q3, rfl⟩ := hv3.two; have c0 := k1.c0; have c1 := k1.c1; have c2 := k1.c2; have c3 := k1.c3; have f0 := k1.f 0; have f1 := k1.f 1; have f2 := k1.f 2; have f3 := k1.f 3) | fail)
  obtain ⟨W, hW⟩ : ∃ W, (((w3.setCell ⟨w.heap.size + 1, 0, none⟩ (.int .i64 y2)).setCell ⟨w.heap.size + 1, 1, none⟩ (.pointer q2)).setCell ⟨w.heap.size + 1, 2, none⟩ (.int .i64 y3)).setCell ⟨w.heap.size + 1, 3, none⟩ (.pointer q3) = W := ⟨_, rfl⟩
  rw [hW]
  obtain ⟨z0, z1, z2, z3, z4⟩ := ret_box4 (r := q⁻¹) k1 (by rw [HI.out.1]; exact hv2) (by rw [HI.out.2]; exact hv3) hs hg hW
  have HZ := Lib.hid z4
  clear hs c0 c1 c2 c3 f0 f1 f2 f3 hW z4 k0 k1 hb1 hb2 hb3 hv2 hv3
  go_wp2_with fail
  exact bodyPost_ret (v := .agg #[.int .i64 y2, .pointer q2, .int .i64 y3, .pointer q3]) (by simp [results, Tryz.results82, go_sem, z0, z1, z2, z3]) rfl HZ.out
set_option maxRecDepth 100000 in
set_option maxHeartbeats 4000000 in
theorem inverse_pos {v : Value} {q : Rat} {w : World} (h : FracV w v q) (hn : 0 < q.num) : Calls Tryz.prog 82 #[v] w (RetF w q⁻¹) := by
  have HI := Lib.hid (inv_pos_parts hn)
  have HSG := Lib.hid (Int.sign_eq_one_of_pos hn)
  clear hn
  obtain ⟨a, p, b, r, rfl, ha, hb⟩ := h
  obtain ⟨w0, hw0, hs, k0, k1, hz⟩ := boxes2 w #[.int .i64 a, .pointer p, .int .i64 b, .pointer r] 65 #[.int .i64 0, .pointer none, .int .i64 0, .pointer none] 65 (ip4 _ _ _ _) (ip4 _ _ _ _)
  have k0 : K4 (w.heap.size) a p b r w0 := k0
  have k1 : K4 (w.heap.size + 1) 0 none 0 none w0 := k1
  have HA := Lib.hid ha
  have HD := Lib.hid hb
  clear ha hb hz
  have ek00 := k0.c0
  have ek01 := k0.c1
  have ek02 := k0.c2
  have ek03 := k0.c3
  go_enter Tryz.func82, Tryz.ntmps82
  go_wp2_with fail
  refine (sign_at (HA.out.below hs) HSG.out).mono ?_
  rintro e w1 ⟨rfl, hb1⟩
  have k0 := k0.below hb1
  have k1 := k1.below hb1
  have hs := hs.trans (hb1.mono hs.size)
  clear ek00 ek01 ek02 ek03
  have ek00 := k0.c0
  have ek01 := k0.c1
  have ek02 := k0.c2
  have ek03 := k0.c3
  have n_k0 : w.heap.size ≠ w.heap.size + 1 := by omega
  have hg : w.heap.size ≤ w.heap.size + 1 := by omega
  have c0 := k1.c0
  have c1 := k1.c1
  have c2 := k1.c2
  have c3 := k1.c3
  have f0 := k1.f 0
  have f1 := k1.f 1
  have f2 := k1.f 2
  have f3 := k1.f 3
  obtain ⟨W, hW⟩ : ∃ W, (((w1.setCell ⟨w.heap.size + 1, 0, none⟩ (.int .i64 b)).setCell ⟨w.heap.size + 1, 1, none⟩ (.pointer r)).setCell ⟨w.heap.size + 1, 2, none⟩ (.int .i64 a)).setCell ⟨w.heap.size + 1, 3, none⟩ (.pointer p) = W := ⟨_, rfl⟩
  obtain ⟨z0, z1, z2, z3, z4⟩ := ret_box4 (r := q⁻¹) k1 (by rw [HI.out.1]; exact HD.out.below hs) (by rw [HI.out.2]; exact HA.out.below hs) hs hg hW
  have HZ := Lib.hid z4
  clear hs z4 k0 k1 hb1
  go_wp2_with fail
  exact bodyPost_ret (v := .agg #[.int .i64 b, .pointer r, .int .i64 a, .pointer p]) (by simp [results, Tryz.results82, go_sem, z0, z1, z2, z3]) rfl HZ.out
theorem inverse_any {v : Value} {q : Rat} {w : World} (h : FracV w v q) (hq : q ≠ 0) : Calls Tryz.prog 82 #[v] w (RetF w q⁻¹) := by
  have hn : q.num ≠ 0 := fun e => hq (Rat.num_eq_zero.1 e)
  rcases Int.lt_trichotomy q.num 0 with h1 | h1 | h1
  · exact inverse_neg h h1
  · exact absurd h1 hn
  · exact inverse_pos h h1
set_option maxRecDepth 100000 in
set_option maxHeartbeats 4000000 in
theorem compareF_any {v v' : Value} {q1 q2 : Rat} {K : Nat} {w : World} (h : FracV w v q1) (h' : FracV w v' q2) (hK : K < 100) (s1 : Sz K q1) (s2 : Sz K q2) : Calls Tryz.prog 78 #[v, v'] w (RetI w (cmpInt (q1.num * q2.den) (q2.num * q1.den))) := by
  obtain ⟨a, p, b, r, rfl, ha, hb⟩ := h
  obtain ⟨c, s, d, t, rfl, hc, hd⟩ := h'
  obtain ⟨w0, hw0, hs, k0, k1, hz⟩ := boxes2 w #[.int .i64 a, .pointer p, .int .i64 b, .pointer r] 65 #[.int .i64 c, .pointer s, .int .i64 d, .pointer t] 65 (ip4 _ _ _ _) (ip4 _ _ _ _)
  have k0 : K4 (w.heap.size) a p b r w0 := k0
  have k1 : K4 (w.heap.size + 1) c s d t w0 := k1
  have HA := Lib.hid ha
  have HB := Lib.hid hb
  have HC := Lib.hid hc
  have HD := Lib.hid hd
  have HK := Lib.hid (And.intro (And.intro s1.1 (by rw [Int.natAbs_natCast]; exact s1.2 : (q1.den : Int).natAbs < _)) (And.intro s2.1 (by rw [Int.natAbs_natCast]; exact s2.2 : (q2.den : Int).natAbs < _)))
  clear ha hb hc hd hz
  have ek00 := k0.c0
  have ek01 := k0.c1
  have ek02 := k0.c2
  have ek03 := k0.c3
  have ek10 := k1.c0
  have ek11 := k1.c1
  have ek12 := k1.c2
  have ek13 := k1.c3
  have k0 : K4 (w.heap.size) a p b r w0.drew := k0
  have k1 : K4 (w.heap.size + 1) c s d t w0.drew := k1
  have hs : Below w.heap.size w w0.drew := hs.drew
  go_enter Tryz.func78, Tryz.ntmps78
  go_wp2_with fail
  go_region_held3 (fun w' => w'.cell? ⟨w.heap.size, 0, none⟩ = some (.int .i64 a) ∧ w'.cell? ⟨w.heap.size, 1, none⟩ = some (.pointer p) ∧ w'.cell? ⟨w.heap.size, 2, none⟩ = some (.int .i64 b) ∧ w'.cell? ⟨w.heap.size, 3, none⟩ = some (.pointer r) ∧ w'.cell? ⟨w.heap.size + 1, 0, none⟩ = some (.int .i64 c) ∧ w'.cell? ⟨w.heap.size + 1, 1, none⟩ = some (.pointer s) ∧ w'.cell? ⟨w.heap.size + 1, 2, none⟩ = some (.int .i64 d) ∧ w'.cell? ⟨w.heap.size + 1, 3, none⟩ = some (.pointer t) ∧ Below w.heap.size w w') (first | (with_reducible exact ⟨k0.c0, k0.c1, k0.c2, k0.c3, k1.c0, k1.c1, k1.c2, k1.c3, hs⟩) | fail) (first | (go_at_call 121; (with_reducible refine (mulI_any (HA.out.below hs) (HD.out.below hs) hK HK.out.1.1 HK.out.2.2).mono ?_); rintro e w1 ⟨v1, rfl, hv1, hb1⟩; have k0 := k0.below hb1; have k1 := k1.below hb1; have hs := hs.trans (hb1.mono hs.size)) | (go_at_call 121; (with_reducible refine (mulI_any (HC.out.below hs) (HB.out.below hs) hK HK.out.2.1 HK.out.1.2).mono ?_); rintro e w2 ⟨v2, rfl, hv2, hb2⟩; have k0 := k0.below hb2; have k1 := k1.below hb2; have hs := hs.trans (hb2.mono hs.size); have hv1 := hv1.below hb2) | (go_at_call 122; (with_reducible refine (compareI_any hv1 hv2).mono ?_); rintro e w3 ⟨rfl, hb3⟩; have k0 := k0.below hb3; have k1 := k1.below hb3; have hs := hs.trans (hb3.mono hs.size)) | fail)
  have HS := Lib.hid hs
  clear k0 k1 hs hb1 hb2 hb3 hv1 hv2
  go_wp2_with fail
  go_ret
  exact ⟨rfl, HS.out⟩
end Go.Proofs.YtekghemhccfhkaaGreatDoor
namespace Go.Big
open Go Go.RowKit
end Go.Big
namespace Go.Proofs.YtekghemhccfhkaaGreatDoor
open Go.RowKit Go.Big
set_option maxRecDepth 100000 in
set_option maxHeartbeats 4000000 in
theorem cancel_any {vx vy : Value} {n : Int} {c K : Nat} {w : World} (hx : IntV w vx n) (hy : IntV w vy (c : Int)) (hc0 : 0 < c) (hK : K < 239) (hn : n.natAbs < B64 ^ K) (hc : c < B64 ^ K) : Calls Tryz.prog 115 #[vx, vy] w (RetInt w (n / (c : Int))) := by
  obtain ⟨x, p, rfl⟩ := hx.two
  obtain ⟨y, q, rfl⟩ := hy.two
  obtain ⟨w0, hw0, hs, k0, k1, k2, hz⟩ := boxes3 w #[.int .i64 x, .pointer p] 63 #[.int .i64 y, .pointer q] 63 #[.int .i64 0, .pointer none] 63 (ip2 _ _) (ip2 _ _) (ip2 _ _)
  have k0 : K2 (w.heap.size) x p w0 := k0
  have k1 : K2 (w.heap.size + 1) y q w0 := k1
  have k2 : K2 (w.heap.size + 2) 0 none w0 := k2
  have HX := Lib.hid hx
  have HY := Lib.hid hy
  have HK := Lib.hid (And.intro hn hc)
  have HC := Lib.hid hc0
  have hg : w.heap.size ≤ w.heap.size + 2 := by omega
  clear hx hy hz hn hc hc0
  by_cases h1 : c = 1
  · have H1 := Lib.hid h1
    clear h1
    have ek00 := k0.c0
    have ek01 := k0.c1
    have ek10 := k1.c0
    have ek11 := k1.c1
    go_enter Tryz.func115, Tryz.ntmps115
    go_wp2_with fail
    refine (isOne_at (HY.out.below hs) (b := true) (by rw [H1.out]; rfl)).mono ?_
    rintro e w1 ⟨rfl, hb1⟩
    have k0 := k0.below hb1
    have k1 := k1.below hb1
    have k2 := k2.below hb1
    have hs := hs.trans (hb1.mono hs.size)
    clear ek00 ek01 ek10 ek11
    have ek00 := k0.c0
    have ek01 := k0.c1
    have ek10 := k1.c0
    have ek11 := k1.c1
    have c0 := k2.c0
    have c1 := k2.c1
    have f0 := k2.f 0
    have f1 := k2.f 1
    have hv := HX.out.below hs
    obtain ⟨z1, z2, z3⟩ := ret_box (w := w) k2 hv hs hg
    rw [show n = n / ((c : Nat) : Int) by rw [H1.out]; simp] at z3
    have HZ := Lib.hid z3
    clear k0 k1 k2 hs hb1 hv z3
    go_wp2_with fail
    exact bodyPost_ret (v := .agg #[.int .i64 x, .pointer p]) (by simp [results, Tryz.results115, go_sem, z1, z2]) rfl HZ.out
  · have H1 := Lib.hid h1
    clear h1
    have ek00 := k0.c0
    have ek01 := k0.c1
    have ek10 := k1.c0
    have ek11 := k1.c1
    go_enter Tryz.func115, Tryz.ntmps115
    go_wp2_with fail
    refine (isOne_at (HY.out.below hs) (b := false) (by rw [decide_eq_false_iff_not]; intro h; apply H1.out; omega)).mono ?_
    rintro e w1 ⟨rfl, hb1⟩
    have k0 := k0.below hb1
    have k1 := k1.below hb1
    have k2 := k2.below hb1
    have hs := hs.trans (hb1.mono hs.size)
    clear ek00 ek01 ek10 ek11
    have ek00 := k0.c0
    have ek01 := k0.c1
    have ek10 := k1.c0
    have ek11 := k1.c1
    have HD := Lib.hid (divI_any (HX.out.below hs) (HY.out.below hs) (by have := HC.out; omega) hK HK.out.1 (by rw [Int.natAbs_natCast]; exact HK.out.2))
    go_wp2_with fail
    refine HD.out.mono ?_
    rintro e w2 ⟨v2, v3, rfl, hv2, hv3, hb2⟩
    have k2 := k2.below hb2
    have hs := hs.trans (hb2.mono hs.size)
    obtain ⟨y2, q2, rfl⟩ := hv2.two
    obtain ⟨y3, q3, rfl⟩ := hv3.two
    obtain ⟨W3, hW3, hb3, j1, j2, hz3⟩ := pair_boxes w2 y2 q2 y3 q3
    have hv2 := hv2.below hb3
    have k2 := k2.below hb3
    have hs := hs.trans (hb3.mono hs.size)
    have d0 := j1.c0
    have d1 := j1.c1
    have c0 := k2.c0
    have c1 := k2.c1
    have f0 := k2.f 0
    have f1 := k2.f 1
    obtain ⟨z1, z2, z3⟩ := ret_box (w := w) k2 hv2 hs hg
    have HZ := Lib.hid z3
    clear k0 k1 k2 hs hb1 hb2 hb3 hv2 hv3 j1 j2 hz3 z3 ek00 ek01 ek10 ek11 HD
    go_wp2_with fail
    exact bodyPost_ret (v := .agg #[.int .i64 y2, .pointer q2]) (by simp [results, Tryz.results115, go_sem, z1, z2]) rfl HZ.out
set_option maxRecDepth 100000 in
set_option maxHeartbeats 4000000 in
theorem reduced_any {vx vy : Value} {n : Int} {d K : Nat} {qq : Rat} {w : World} (hx : IntV w vx n) (hy : IntV w vy (d : Int)) (hd0 : 0 < d) (hT : Tabs w) (hK : K < 239) (hn : n.natAbs < B64 ^ K) (hd : d < B64 ^ K) (hq : qq.num * d = n * qq.den) : Calls Tryz.prog 67 #[vx, vy] w (RetF w qq) := by
  obtain ⟨x, p, rfl⟩ := hx.two
  obtain ⟨y, q, rfl⟩ := hy.two
  obtain ⟨w0, hw0, hs, k0, k1, k2, hz⟩ := boxes3 w #[.int .i64 x, .pointer p] 63 #[.int .i64 y, .pointer q] 63 #[.int .i64 0, .pointer none, .int .i64 0, .pointer none] 65 (ip2 _ _) (ip2 _ _) (ip4 _ _ _ _)
  have k0 : K2 (w.heap.size) x p w0 := k0
  have k1 : K2 (w.heap.size + 1) y q w0 := k1
  have k2 : K4 (w.heap.size + 2) 0 none 0 none w0 := k2
  have HX := Lib.hid hx
  have HY := Lib.hid hy
  obtain ⟨G, hG⟩ : ∃ G, Nat.gcd n.natAbs d = G := ⟨_, rfl⟩
  have hG0 : 0 < G := by rw [← hG]; exact Nat.gcd_pos_of_pos_right _ hd0
  have hGd : G ≤ d := by rw [← hG]; exact Nat.gcd_le_right _ hd0
  have HR := Lib.hid (rat_reduce hd0 hq)
  rw [hG] at HR
  have HG := Lib.hid (by have := gcdI_any (HX.out.below hs) (HY.out.below hs) (tabs_below hT hs) hK hn (by rw [Int.natAbs_natCast]; exact hd); rw [Int.natAbs_natCast, hG] at this; exact this)
  have HK := Lib.hid (And.intro hn (And.intro hd (Nat.lt_of_le_of_lt hGd hd)))
  have HG0 := Lib.hid hG0
  have hg : w.heap.size ≤ w.heap.size + 2 := by omega
  clear hx hy hz hn hd hd0 hq hT hG hG0 hGd
  have ek00 := k0.c0
  have ek01 := k0.c1
  have ek10 := k1.c0
  have ek11 := k1.c1
  go_enter Tryz.func67, Tryz.ntmps67
  go_wp2_with fail
  refine HG.out.mono ?_
  rintro e w1 ⟨v1, rfl, hv1, hb1⟩
  obtain ⟨y1, q1, rfl⟩ := hv1.two
  have k0 := k0.below hb1
  have k1 := k1.below hb1
  have k2 := k2.below hb1
  have hs := hs.trans (hb1.mono hs.size)
  obtain ⟨W, hW, hbW, j0, hzW⟩ := box1 w1 #[.int .i64 y1, .pointer q1] 63 (ip2 _ _)
  have j0 : K2 (w1.heap.size) y1 q1 W := j0
  have hv1 := hv1.below hbW
  have hlt := Bx.lt k2
  have k0 := k0.below hbW
  have k1 := k1.below hbW
  have k2 := k2.below hbW
  have hs := hs.trans (hbW.mono hs.size)
  have hv1 := hv1.below (Below.refl W.heap.size W).drew
  clear ek00 ek01 ek10 ek11 hb1 hbW hzW HG
  go_wp2_with fail
  have k0 : K2 (w.heap.size) x p W.drew := k0
  have k1 : K2 (w.heap.size + 1) y q W.drew := k1
  have j0 : K2 (w1.heap.size) y1 q1 W.drew := j0
  have k2 : K4 (w.heap.size + 2) 0 none 0 none W.drew := k2
  have hs : Below w.heap.size w W.drew := hs.drew
  have n_k0 : w.heap.size ≠ w.heap.size + 2 := by omega
  have n_k1 : w.heap.size + 1 ≠ w.heap.size + 2 := by omega
  have n_j0 : w1.heap.size ≠ w.heap.size + 2 := by omega
  go_region_held3 (fun w' => w'.cell? ⟨w.heap.size, 0, none⟩ = some (.int .i64 x) ∧ w'.cell? ⟨w.heap.size, 1, none⟩ = some (.pointer p) ∧ w'.cell? ⟨w.heap.size + 1, 0, none⟩ = some (.int .i64 y) ∧ w'.cell? ⟨w.heap.size + 1, 1, none⟩ = some (.pointer q) ∧ w'.cell? ⟨w1.heap.size, 0, none⟩ = some (.int .i64 y1) ∧ w'.cell? ⟨w1.heap.size, 1, none⟩ = some (.pointer q1) ∧ Below w.heap.size w w') (first | (with_reducible exact ⟨k0.c0, k0.c1, k1.c0, k1.c1, j0.c0, j0.c1, hs⟩) | (with_reducible exact ⟨(k0.o4 n_k0 _ _ _ _).c0, (k0.o4 n_k0 _ _ _ _).c1, (k1.o4 n_k1 _ _ _ _).c0, (k1.o4 n_k1 _ _ _ _).c1, (j0.o4 n_j0 _ _ _ _).c0, (j0.o4 n_j0 _ _ _ _).c1, hs.st4 hg _ _ _ _⟩) | fail) (first | (go_at_call 115; (with_reducible refine (cancel_any (HX.out.below hs) hv1 HG0.out hK HK.out.1 HK.out.2.2).mono ?_); rintro e w2 ⟨v2, rfl, hv2, hb2⟩; have k0 := k0.below hb2; have k1 := k1.below hb2; have j0 := j0.below hb2; have k2 := k2.below hb2; have hs := hs.trans (hb2.mono hs.size); have hv1 := hv1.below hb2) | (go_at_call 115; (with_reducible refine (cancel_any (HY.out.below hs) hv1 HG0.out hK (by rw [Int.natAbs_natCast]; exact HK.out.2.1) HK.out.2.2).mono ?_); rintro e w3 ⟨v3, rfl, hv3, hb3⟩; have k0 := k0.below hb3; have k1 := k1.below hb3; have j0 := j0.below hb3; have k2 := k2.below hb3; have hs := hs.trans (hb3.mono hs.size); have hv2 := hv2.below hb3; obtain ⟨y2, q2, rfl⟩ := hv2.two; obtain ⟨y3, q3, rfl⟩ := hv3.two; have c0 := k2.c0; have c1 := k2.c1; have c2 := k2.c2; have c3 := k2.c3; have f0 := k2.f 0; have f1 := k2.f 1; have f2 := k2.f 2; have f3 := k2.f 3) | fail)
  obtain ⟨WW, hWW⟩ : ∃ WW, (((w3.setCell ⟨w.heap.size + 2, 0, none⟩ (.int .i64 y2)).setCell ⟨w.heap.size + 2, 1, none⟩ (.pointer q2)).setCell ⟨w.heap.size + 2, 2, none⟩ (.int .i64 y3)).setCell ⟨w.heap.size + 2, 3, none⟩ (.pointer q3) = WW := ⟨_, rfl⟩
  rw [hWW]
  obtain ⟨z0, z1, z2, z3, z4⟩ := ret_box4 (r := qq) k2 (by rw [HR.out.1]; exact hv2) (by rw [HR.out.2, Int.natCast_ediv]; exact hv3) hs hg hWW
  have HZ := Lib.hid z4
  clear hs c0 c1 c2 c3 f0 f1 f2 f3 hWW hW z4 k0 k1 k2 j0 hb2 hb3 hv1 hv2 hv3
  go_wp2_with fail
  exact bodyPost_ret (v := .agg #[.int .i64 y2, .pointer q2, .int .i64 y3, .pointer q3]) (by simp [results, Tryz.results67, go_sem, z0, z1, z2, z3]) rfl HZ.out
end Go.Proofs.YtekghemhccfhkaaGreatDoor
namespace Go.Proofs.YtekghemhccfhkaaGreatDoor
open Go.RowKit Go.Big
theorem one_den {q : Rat} : decide ((q.den : Int) = 1) = decide (q.den = 1) := by
  by_cases h : q.den = 1
  · rw [decide_eq_true h, decide_eq_true (by omega)]
  · rw [decide_eq_false h, decide_eq_false (by omega)]
theorem gcdI_at {vx vy : Value} {n m : Int} {K G : Nat} {w : World} (hx : IntV w vx n) (hy : IntV w vy m) (hT : Tabs w) (hK : K < 239) (hn : n.natAbs < B64 ^ K) (hm : m.natAbs < B64 ^ K) (hG : Nat.gcd n.natAbs m.natAbs = G) :
    Calls Tryz.prog 99 #[vx, vy] w (RetInt w (G : Nat)) := by rw [← hG]; exact gcdI_any hx hy hT hK hn hm
theorem cancel_nat {vx vy : Value} {n c K : Nat} {w : World} (hx : IntV w vx (n : Int)) (hy : IntV w vy (c : Int)) (hc0 : 0 < c) (hK : K < 239) (hn : n < B64 ^ K) (hc : c < B64 ^ K) : Calls Tryz.prog 115 #[vx, vy] w (RetInt w ((n / c : Nat) : Int)) := by
  rw [Int.natCast_ediv]; exact cancel_any hx hy hc0 hK (by rw [Int.natAbs_natCast]; exact hn) hc
theorem mul_nat {vx vy : Value} {n m K : Nat} {w : World} (hx : IntV w vx (n : Int)) (hy : IntV w vy (m : Int)) (hK : K < 100) (hn : n < B64 ^ K) (hm : m < B64 ^ K) : Calls Tryz.prog 121 #[vx, vy] w (RetInt w ((n * m : Nat) : Int)) := by
  rw [Int.natCast_mul]; exact mulI_any hx hy hK (by rw [Int.natAbs_natCast]; exact hn) (by rw [Int.natAbs_natCast]; exact hm)
theorem string_at {v : Value} {n : Int} {l : List UInt8} {w : World} (h : IntV w v n) (hT : TabsA w) (hn : n.natAbs < B64 ^ 31) (hl : itext n = l) : Calls Tryz.prog 60 #[v] w (RetStr w l) := by rw [← hl]; exact string_any h hT hn
theorem b31 : B64 ^ 31 ≤ 10 ^ 598 := Nat.le_of_ble_eq_true (by kernel_rfl)
theorem itext_len {n : Int} (h : n.natAbs < B64 ^ 31) : (itext n).length ≤ 700 := by
  have := dd_len (k := 598) (by decide) (Nat.lt_of_lt_of_le h b31)
  unfold itext
  split
  · rw [List.length_cons]; omega
  · omega
set_option maxRecDepth 100000 in
set_option maxHeartbeats 4000000 in
theorem textF_any {v : Value} {q : Rat} {w : World} (h : FracV w v q) (hT : TabsA w) (sq : Sz 31 q) : Calls Tryz.prog 68 #[v] w (RetStr w (rtext q)) := by
  obtain ⟨a, p, b, r, rfl, ha, hb⟩ := h
  obtain ⟨w0, hw0, hs, k0, hz⟩ := box1 w #[.int .i64 a, .pointer p, .int .i64 b, .pointer r] 65 (ip4 _ _ _ _)
  have k0 : K4 (w.heap.size) a p b r w0 := k0
  have HA := Lib.hid ha
  have HB := Lib.hid hb
  have HS := Lib.hid (And.intro (show q.num.natAbs < B64 ^ 31 ∧ q.den < B64 ^ 31 from sq) hT)
  clear ha hb hz sq hT
  have ek00 := k0.c0
  have ek01 := k0.c1
  have ek02 := k0.c2
  have ek03 := k0.c3
  by_cases hd : q.den = 1
  · have HD := Lib.hid hd
    clear hd
    go_enter Tryz.func68, Tryz.ntmps68
    go_wp2_with fail
    refine (isOne_at (HB.out.below hs) (b := true) (by rw [one_den]; exact decide_eq_true HD.out)).mono ?_
    rintro e w1 ⟨rfl, hb1⟩
    have k0 := k0.below hb1
    have hs := hs.trans (hb1.mono hs.size)
    clear ek00 ek01 ek02 ek03
    have ek00 := k0.c0
    have ek01 := k0.c1
    have ek02 := k0.c2
    have ek03 := k0.c3
    go_wp2_with fail
    refine (string_any (HA.out.below hs) (HS.out.2.below hs) HS.out.1.1).mono ?_
    rintro e w2 ⟨rfl, hb2⟩
    have k0 := k0.below hb2
    have hs := hs.trans (hb2.mono hs.size)
    have HF := Lib.hid hs
    clear k0 hs hb1 hb2 ek00 ek01 ek02 ek03
    go_wp2_with fail
    go_ret
    exact ⟨by unfold rtext; rw [if_pos HD.out, List.append_nil]; rfl, HF.out⟩
  · have HD := Lib.hid hd
    clear hd
    go_enter Tryz.func68, Tryz.ntmps68
    go_wp2_with fail
    refine (isOne_at (HB.out.below hs) (b := false) (by rw [one_den]; exact decide_eq_false HD.out)).mono ?_
    rintro e w1 ⟨rfl, hb1⟩
    have k0 := k0.below hb1
    have hs := hs.trans (hb1.mono hs.size)
    clear ek00 ek01 ek02 ek03
    have ek00 := k0.c0
    have ek01 := k0.c1
    have ek02 := k0.c2
    have ek03 := k0.c3
    go_wp2_with fail
    have k0 : K4 (w.heap.size) a p b r w1.drew := k0
    have hs : Below w.heap.size w w1.drew := hs.drew
    obtain ⟨tn, htn⟩ : ∃ tn, itext q.num = tn := ⟨_, rfl⟩
    obtain ⟨td, htd⟩ : ∃ td, itext (q.den : Int) = td := ⟨_, rfl⟩
    have HTN := Lib.hid htn
    have HTD := Lib.hid htd
    have hln : tn.length ≤ 700 := by rw [← htn]; exact itext_len HS.out.1.1
    have hld : td.length ≤ 700 := by rw [← htd]; exact itext_len (by rw [Int.natAbs_natCast]; exact HS.out.1.2)
    have hc1 : ¬ (9223372036854775807 < tn.length + 1) := by omega
    have hc2 : ¬ (9223372036854775807 < tn.length + 1 + td.length) := by omega
    clear htn htd
    go_region_held3 (fun w' => w'.cell? ⟨w.heap.size, 0, none⟩ = some (.int .i64 a) ∧ w'.cell? ⟨w.heap.size, 1, none⟩ = some (.pointer p) ∧ w'.cell? ⟨w.heap.size, 2, none⟩ = some (.int .i64 b) ∧ w'.cell? ⟨w.heap.size, 3, none⟩ = some (.pointer r) ∧ Below w.heap.size w w') (first | (with_reducible exact ⟨k0.c0, k0.c1, k0.c2, k0.c3, hs⟩) | fail) (first | (go_at_call 60; (with_reducible refine (string_at (HA.out.below hs) (HS.out.2.below hs) HS.out.1.1 HTN.out).mono ?_); rintro e w2 ⟨rfl, hb2⟩; have k0 := k0.below hb2; have hs := hs.trans (hb2.mono hs.size)) | (go_at_call 60; (with_reducible refine (string_at (HB.out.below hs) (HS.out.2.below hs) (by rw [Int.natAbs_natCast]; exact HS.out.1.2) HTD.out).mono ?_); rintro e w3 ⟨rfl, hb3⟩; have k0 := k0.below hb3; have hs := hs.trans (hb3.mono hs.size)) | fail)
    have HF := Lib.hid hs
    clear k0 hs hb1 hb2 hb3 ek00 ek01 ek02 ek03
    go_wp2_with fail
    go_ret
    refine ⟨?_, HF.out⟩
    have e : rtext q = tn ++ 47 :: td := by unfold rtext; rw [if_neg HD.out, HTN.out, ← HTD.out]; congr 1
    rw [e]
    exact congrArg (fun t => Ending.returned (.string t)) (ByteArray.ext (by simp))
end Go.Proofs.YtekghemhccfhkaaGreatDoor
namespace Go.Big
open Go Go.RowKit
end Go.Big
namespace Go.Proofs.YtekghemhccfhkaaGreatDoor
open Go.RowKit Go.Big
theorem zero_box4 {w w3 : World} {g : Nat} {x0 y0 : Int} {p0 q0 : Option Addr} (k : K4 g x0 p0 y0 q0 w3) (s3 : Below w.heap.size w w3) (hg : w.heap.size ≤ g)
    {W : World} (hW : (((w3.setCell ⟨g, 0, none⟩ (.int .i64 0)).setCell ⟨g, 1, none⟩ (.pointer none)).setCell ⟨g, 2, none⟩ (.int .i64 0)).setCell ⟨g, 3, none⟩ (.pointer none) = W) :
    W.cell? ⟨g, 0, none⟩ = some (.int .i64 0) ∧ W.cell? ⟨g, 1, none⟩ = some (.pointer none) ∧ W.cell? ⟨g, 2, none⟩ = some (.int .i64 0) ∧ W.cell? ⟨g, 3, none⟩ = some (.pointer none) ∧ Below w.heap.size w W := by
  have hW : st4 w3 g 0 none 0 none = W := hW
  subst hW
  have k' := k.st 0 none 0 none
  exact ⟨k'.c0, k'.c1, k'.c2, k'.c3, below_st4 s3 hg 0 none 0 none⟩
end Go.Proofs.YtekghemhccfhkaaGreatDoor
namespace Go.Proofs.YtekghemhccfhkaaGreatDoor
open Go.RowKit Go.Big
set_option linter.unusedSimpArgs false in
set_option maxRecDepth 100000 in
set_option maxHeartbeats 2000000 in
theorem powI_pos {v : Value} {n : Int} {t K : Nat} {w : World} (h : IntV w v n) (ht : t < 18446744073709551616) (hK : K < 100) (hK0 : 0 < K) (hp : n.natAbs ^ t < B64 ^ K) (hb : decide (n < 0) = false) : Calls Tryz.prog 124 #[v, .int .u64 t] w (RetInt w (n ^ t)) := by
  obtain ⟨x, p, rfl⟩ := h.two
  have htm : (t : Int).tmod 2 = (t : Int) % 2 := Int.tmod_eq_emod_of_nonneg (by omega)
  have hnx : ∀ w', Below w.heap.size w w' → Calls Tryz.prog 112 #[.agg #[.int .i64 x, .pointer p]] w' (RetBool w' false) := fun w' hb' => by rw [← hb]; exact negative_any (h.below hb')
  have HNX := Lib.hid hnx
  have HP := Lib.hid (And.intro ht (And.intro hK (And.intro hK0 hp)))
  have HE := Lib.hid (show signed false (n.natAbs ^ t) = n ^ t from signed_pow n t _ (by rw [hb]; simp))
  clear htm
  obtain ⟨w0, hw0, hb0, k0, k1, hsz⟩ := two_boxes w x p
  have HV := Lib.hid h
  have e1 := k0.c0
  have e2 := k0.c1
  have s1 : w0.drew.cell? ⟨w.heap.size, 0, none⟩ = some (.int .i64 x) := k0.c0
  have s2 : w0.drew.cell? ⟨w.heap.size, 1, none⟩ = some (.pointer p) := k0.c1
  have s3 := hb0.drew
  have k1 : K2 (w.heap.size + 1) 0 none w0.drew := k1
  have HSZ := Lib.hid hsz
  clear k0 hb0 h hsz
  clear ht hp hK hK0 hnx hb
  go_enter Tryz.func124, Tryz.ntmps124
  go_wp2_with fail
  refine wp_region_held_drew (S := (fun w' => w'.cell? ⟨w.heap.size, 0, none⟩ = some (.int .i64 x) ∧ w'.cell? ⟨w.heap.size, 1, none⟩ = some (.pointer p) ∧ Below w.heap.size w w')) (by kernel_rfl) ?_ (fun hHeld => ?_)
  · (try dsimp only); exact ⟨s1, s2, s3⟩
  refine wpAnyH_take (i := 0) (v := ?_) rfl (by kernel_rfl) (by kernel_rfl) (by kernel_rfl) (fun _ _ _ h => h) (Or.inl ⟨by rfl, ?_⟩) (by assumption) ?_
  rotate_left
  · intro w hSw; (try dsimp only at hSw); go_simp; (try with_reducible rfl)
  try simp only [Act.put, List.setIfInBounds_toArray, List.set_cons_zero, List.set_cons_succ, List.getElem_toArray, List.getElem_cons_zero, List.getElem_cons_succ]
  refine wpAnyH_take (i := 7) (v := ?_) rfl (by kernel_rfl) (by kernel_rfl) (by kernel_rfl) (fun _ _ _ h => h) (Or.inl ⟨by rfl, ?_⟩) (by assumption) ?_
  rotate_left
  · intro w hSw; (try dsimp only at hSw); go_simp; (try with_reducible rfl)
  try simp only [Act.put, List.setIfInBounds_toArray, List.set_cons_zero, List.set_cons_succ, List.getElem_toArray, List.getElem_cons_zero, List.getElem_cons_succ]
  refine wpAnyH_take (i := 9) (v := ?_) rfl (by kernel_rfl) (by kernel_rfl) (by kernel_rfl) (fun _ _ _ h => h) (Or.inl ⟨by rfl, ?_⟩) (by assumption) ?_
  rotate_left
  · intro w hSw; (try dsimp only at hSw); go_simp; (try with_reducible rfl)
  try simp only [Act.put, List.setIfInBounds_toArray, List.set_cons_zero, List.set_cons_succ, List.getElem_toArray, List.getElem_cons_zero, List.getElem_cons_succ]
  refine wpAnyH_ready (rs := [1]) (by kernel_rfl) (by simp) ?_
  refine AllReadyH.cons rfl (fun K hK => ?_) AllReadyH.nil
  go_simp
  refine (HNX.out _ s3).mono ?_
  rintro e w1 ⟨rfl, hb1⟩
  obtain ⟨s1, s2, s3, k1⟩ := s_step s1 s2 s3 k1 hb1
  go_wp2_with fail
  refine hK.out _ _ ?_ (fun hHeld => ?_)
  · (try dsimp only); (first | (with_reducible exact ⟨s1, s2, s3⟩) | ((with_reducible refine s_store s1 s2 s3 ?_ ?_) <;> omega))
  clear hK K
  try simp only [Act.put, List.setIfInBounds_toArray, List.set_cons_zero, List.set_cons_succ, List.getElem_toArray, List.getElem_cons_zero, List.getElem_cons_succ]
  refine wpAnyH_take (i := 2) (v := ?_) rfl (by kernel_rfl) (by kernel_rfl) (by kernel_rfl) (fun _ _ _ h => h) (Or.inl ⟨by rfl, ?_⟩) (by assumption) ?_
  rotate_left
  · intro w hSw; (try dsimp only at hSw); go_simp; (try with_reducible rfl)
  try simp only [Act.put, List.setIfInBounds_toArray, List.set_cons_zero, List.set_cons_succ, List.getElem_toArray, List.getElem_cons_zero, List.getElem_cons_succ]
  refine wpAnyH_take (i := 3) (v := undef) rfl (by kernel_rfl) (by kernel_rfl) (by kernel_rfl) (fun _ _ _ h => h) (Or.inr ⟨by rfl, rfl⟩) (by assumption) ?_
  try simp only [Act.put, List.setIfInBounds_toArray, List.set_cons_zero, List.set_cons_succ, List.getElem_toArray, List.getElem_cons_zero, List.getElem_cons_succ]
  refine wpAnyH_take (i := 4) (v := undef) rfl (by kernel_rfl) (by kernel_rfl) (by kernel_rfl) (fun _ _ _ h => h) (Or.inr ⟨by rfl, rfl⟩) (by assumption) ?_
  try simp only [Act.put, List.setIfInBounds_toArray, List.set_cons_zero, List.set_cons_succ, List.getElem_toArray, List.getElem_cons_zero, List.getElem_cons_succ]
  refine wpAnyH_take (i := 5) (v := undef) rfl (by kernel_rfl) (by kernel_rfl) (by kernel_rfl) (fun _ _ _ h => h) (Or.inr ⟨by rfl, rfl⟩) (by assumption) ?_
  try simp only [Act.put, List.setIfInBounds_toArray, List.set_cons_zero, List.set_cons_succ, List.getElem_toArray, List.getElem_cons_zero, List.getElem_cons_succ]
  refine wpAnyH_take (i := 6) (v := ?_) rfl (by kernel_rfl) (by kernel_rfl) (by kernel_rfl) (fun _ _ _ h => h) (Or.inl ⟨by rfl, ?_⟩) (by assumption) ?_
  rotate_left
  · intro w hSw; (try dsimp only at hSw); go_simp; (try with_reducible rfl)
  try simp only [Act.put, List.setIfInBounds_toArray, List.set_cons_zero, List.set_cons_succ, List.getElem_toArray, List.getElem_cons_zero, List.getElem_cons_succ]
  refine wpAnyH_ready (rs := [8]) (by kernel_rfl) (by simp) ?_
  refine AllReadyH.cons rfl (fun K hK => ?_) AllReadyH.nil
  go_simp
  refine (natural_any (HV.out.below s3)).mono ?_
  rintro e w2 ⟨v2, rfl, hv2, hb2⟩
  obtain ⟨s1, s2, s3, k1⟩ := s_step s1 s2 s3 k1 hb2
  go_wp2_with fail
  refine hK.out _ _ ?_ (fun hHeld => ?_)
  · (try dsimp only); (first | (with_reducible exact ⟨s1, s2, s3⟩) | ((with_reducible refine s_store s1 s2 s3 ?_ ?_) <;> omega))
  clear hK K
  try simp only [Act.put, List.setIfInBounds_toArray, List.set_cons_zero, List.set_cons_succ, List.getElem_toArray, List.getElem_cons_zero, List.getElem_cons_succ]
  refine wpAnyH_ready (rs := [10]) (by kernel_rfl) (by simp) ?_
  refine AllReadyH.cons rfl (fun K hK => ?_) AllReadyH.nil
  go_simp
  refine (power_any hv2 HP.out.1 HP.out.2.1 HP.out.2.2.1 HP.out.2.2.2).mono ?_
  rintro e w3 ⟨v3, rfl, hv3, hb3⟩
  obtain ⟨s1, s2, s3, k1⟩ := s_step s1 s2 s3 k1 hb3
  go_wp2_with fail
  refine hK.out _ _ ?_ (fun hHeld => ?_)
  · (try dsimp only); (first | (with_reducible exact ⟨s1, s2, s3⟩) | ((with_reducible refine s_store s1 s2 s3 ?_ ?_) <;> omega))
  clear hK K
  try simp only [Act.put, List.setIfInBounds_toArray, List.set_cons_zero, List.set_cons_succ, List.getElem_toArray, List.getElem_cons_zero, List.getElem_cons_succ]
  refine wpAnyH_ready (rs := [11]) (by kernel_rfl) (by simp) ?_
  refine AllReadyH.cons rfl (fun K hK => ?_) AllReadyH.nil
  go_simp
  refine (signed_any _ hv3).mono ?_
  rintro e w4 ⟨v4, rfl, hv4, hb4⟩
  obtain ⟨s1, s2, s3, k1⟩ := s_step s1 s2 s3 k1 hb4
  obtain ⟨y, q, rfl⟩ := hv4.two
  have c0 := k1.c0
  have c1 := k1.c1
  have f0 := k1.f 0
  have f1 := k1.f 1
  go_wp2_with fail
  refine hK.out _ _ ?_ (fun hHeld => ?_)
  · (try dsimp only); (first | (with_reducible exact ⟨s1, s2, s3⟩) | ((with_reducible refine s_store s1 s2 s3 ?_ ?_) <;> omega))
  clear hK K
  try simp only [Act.put, List.setIfInBounds_toArray, List.set_cons_zero, List.set_cons_succ, List.getElem_toArray, List.getElem_cons_zero, List.getElem_cons_succ]
  refine wpAnyH_ready (rs := [12]) (by kernel_rfl) (by simp) ?_
  refine AllReadyH.cons rfl (fun K hK => ?_) AllReadyH.nil
  go_simp
  refine hK.out _ _ ?_ (fun hHeld => ?_)
  · (try dsimp only); (first | (with_reducible exact ⟨s1, s2, s3⟩) | ((with_reducible refine s_store s1 s2 s3 ?_ ?_) <;> omega))
  clear hK K
  try simp only [Act.put, List.setIfInBounds_toArray, List.set_cons_zero, List.set_cons_succ, List.getElem_toArray, List.getElem_cons_zero, List.getElem_cons_succ]
  refine wpAnyH_done (by kernel_rfl) ?_ _
  obtain ⟨z1, z2, z3⟩ := ret_box k1 hv4 s3 (by omega)
  rw [HE.out] at z3
  have HZ := Lib.hid z3
  clear s1 s2 s3 k1 c0 c1 f0 f1 hb1 hb2 hb3 hb4 hv2 hv3 hv4 z3
  go_wp2_with fail
  exact bodyPost_ret (v := .agg #[.int .i64 y, .pointer q]) (by simp [results, Tryz.results124, go_sem, z1, z2]) rfl HZ.out
end Go.Proofs.YtekghemhccfhkaaGreatDoor
namespace Go.Proofs.YtekghemhccfhkaaGreatDoor
open Go.RowKit Go.Big
set_option maxRecDepth 100000 in
set_option maxHeartbeats 2000000 in
theorem powI_neg {v : Value} {n : Int} {t K : Nat} {w : World} (h : IntV w v n) (ht : t < 18446744073709551616) (hK : K < 100) (hK0 : 0 < K) (hp : n.natAbs ^ t < B64 ^ K) (hb : decide (n < 0) = true) : Calls Tryz.prog 124 #[v, .int .u64 t] w (RetInt w (n ^ t)) := by
  obtain ⟨x, p, rfl⟩ := h.two
  have htm : (t : Int).tmod 2 = (t : Int) % 2 := Int.tmod_eq_emod_of_nonneg (by omega)
  have hnx : ∀ w', Below w.heap.size w w' → Calls Tryz.prog 112 #[.agg #[.int .i64 x, .pointer p]] w' (RetBool w' true) := fun w' hb' => by rw [← hb]; exact negative_any (h.below hb')
  have HNX := Lib.hid hnx
  have HP := Lib.hid (And.intro ht (And.intro hK (And.intro hK0 hp)))
  have HE := Lib.hid (show signed ((t : Int).tmod 2 == 1) (n.natAbs ^ t) = n ^ t from signed_pow n t _ (by rw [hb, htm]; simp))
  clear htm
  obtain ⟨w0, hw0, hb0, k0, k1, hsz⟩ := two_boxes w x p
  have HV := Lib.hid h
  have e1 := k0.c0
  have e2 := k0.c1
  have s1 : w0.drew.cell? ⟨w.heap.size, 0, none⟩ = some (.int .i64 x) := k0.c0
  have s2 : w0.drew.cell? ⟨w.heap.size, 1, none⟩ = some (.pointer p) := k0.c1
  have s3 := hb0.drew
  have k1 : K2 (w.heap.size + 1) 0 none w0.drew := k1
  have HSZ := Lib.hid hsz
  clear k0 hb0 h hsz
  clear ht hp hK hK0 hnx hb
  go_enter Tryz.func124, Tryz.ntmps124
  go_wp2_with fail
  go_region_held3 (fun w' => w'.cell? ⟨w.heap.size, 0, none⟩ = some (.int .i64 x) ∧ w'.cell? ⟨w.heap.size, 1, none⟩ = some (.pointer p) ∧ Below w.heap.size w w') (first | (with_reducible exact ⟨s1, s2, s3⟩) | ((with_reducible refine s_store s1 s2 s3 ?_ ?_) <;> omega) | fail) (first | (go_at_call 112; (with_reducible refine (HNX.out _ s3).mono ?_); rintro e w1 ⟨rfl, hb1⟩; obtain ⟨s1, s2, s3, k1⟩ := s_step s1 s2 s3 k1 hb1) | (go_at_call 114; (with_reducible refine (natural_any (HV.out.below s3)).mono ?_); rintro e w2 ⟨v2, rfl, hv2, hb2⟩; obtain ⟨s1, s2, s3, k1⟩ := s_step s1 s2 s3 k1 hb2) | (go_at_call 157; (with_reducible refine (power_any hv2 HP.out.1 HP.out.2.1 HP.out.2.2.1 HP.out.2.2.2).mono ?_); rintro e w3 ⟨v3, rfl, hv3, hb3⟩; obtain ⟨s1, s2, s3, k1⟩ := s_step s1 s2 s3 k1 hb3) | (go_at_call 113; (with_reducible refine (signed_any _ hv3).mono ?_); rintro e w4 ⟨v4, rfl, hv4, hb4⟩; obtain ⟨s1, s2, s3, k1⟩ := s_step s1 s2 s3 k1 hb4; obtain ⟨y, q, rfl⟩ := hv4.two; have c0 := k1.c0; have c1 := k1.c1; have f0 := k1.f 0; have f1 := k1.f 1) | fail)
  obtain ⟨z1, z2, z3⟩ := ret_box k1 hv4 s3 (by omega)
  rw [HE.out] at z3
  have HZ := Lib.hid z3
  clear s1 s2 s3 k1 c0 c1 f0 f1 hb1 hb2 hb3 hb4 hv2 hv3 hv4 z3
  go_wp2_with fail
  exact bodyPost_ret (v := .agg #[.int .i64 y, .pointer q]) (by simp [results, Tryz.results124, go_sem, z1, z2]) rfl HZ.out
end Go.Proofs.YtekghemhccfhkaaGreatDoor
namespace Go.Proofs.YtekghemhccfhkaaGreatDoor
open Go.RowKit Go.Big
theorem powI_any {v : Value} {n : Int} {t K : Nat} {w : World} (h : IntV w v n) (ht : t < 18446744073709551616) (hK : K < 100) (hK0 : 0 < K) (hp : n.natAbs ^ t < B64 ^ K) : Calls Tryz.prog 124 #[v, .int .u64 t] w (RetInt w (n ^ t)) := by
  by_cases hn : n < 0
  · exact powI_neg h ht hK hK0 hp (decide_eq_true hn)
  · exact powI_pos h ht hK hK0 hp (decide_eq_false hn)
end Go.Proofs.YtekghemhccfhkaaGreatDoor
namespace Go.Big
open Go Go.RowKit
/-- A cell of a struct's box: a bool or a slice. -/
def Cb (c : Value) : Prop := (∃ b, c = .bool b) ∨ ∃ ao n cap, c = .slice ao n cap
theorem Cb.bool (b : Bool) : Cb (.bool b) := .inl ⟨b, rfl⟩
theorem Cb.sl (ao : Option Addr) (n cap : Nat) : Cb (.slice ao n cap) := .inr ⟨ao, n, cap, rfl⟩
/-- Block g is a box of bools and slices. -/
def Bb (w : World) (g : Nat) (cs : Array Value) (t : TypeId) : Prop := w.heap[g]? = some (.cells cs t (0, 0)) ∧ ∀ c ∈ cs, Cb c
theorem Bb.below {w w' : World} {g : Nat} {cs : Array Value} {t : TypeId} (h : Bb w g cs t) (hb : Below w.heap.size w w') : Bb w' g cs t :=
  ⟨by rw [hb.block g (Array.getElem?_eq_some_iff.1 h.1).1, h.1], h.2⟩
theorem Bb.set {w : World} {g : Nat} {cs : Array Value} {t : TypeId} (h : Bb w g cs t) (i : Nat) {v : Value} (hv : Cb v) : Bb (w.setCell ⟨g, i, none⟩ v) g (cs.setIfInBounds i v) t := by
  refine ⟨row_set' h.1 i v, fun c hc => ?_⟩
  rcases Array.mem_or_eq_of_mem_setIfInBounds hc with h1 | h1
  · exact h.2 c h1
  · rw [h1]; exact hv
theorem Bb.other {w : World} {g g' : Nat} {cs : Array Value} {t : TypeId} (h : Bb w g cs t) (hn : g ≠ g') (i : Nat) (v : Value) : Bb (w.setCell ⟨g', i, none⟩ v) g cs t :=
  ⟨by rw [Below.heap_setCell _ _ _ _ hn]; exact h.1, h.2⟩
theorem Bb.cell {w : World} {g : Nat} {cs : Array Value} {t : TypeId} (h : Bb w g cs t) (i : Nat) : w.cell? ⟨g, i, none⟩ = cs[i]? := cell_rowB h.1 i
theorem Bb.frozen {w : World} {g : Nat} {cs : Array Value} {t : TypeId} (h : Bb w g cs t) (i : Nat) : w.frozen? ⟨g, i, none⟩ = false := by
  have := h.1
  simp [World.frozen?, this]
theorem Bb.cb {w : World} {g : Nat} {cs : Array Value} {t : TypeId} (h : Bb w g cs t) {i : Nat} {c : Value} (hc : w.cell? ⟨g, i, none⟩ = some c) : Cb c := by
  rw [h.cell] at hc
  exact h.2 c (Array.mem_of_getElem? hc)
theorem Bb.new (w : World) {cs : Array Value} (t : TypeId) (h : ∀ c ∈ cs, Cb c) : Bb (w.alloc (.cells cs t)) w.heap.size cs t := ⟨heap_alloc_new w _, h⟩
theorem SlA.setCb {w : World} {g i : Nat} {cs : Array Value} {t : TypeId} {c : Value} {ao : Option Addr} {cap : Nat} {l : List Nat} {k : IntKind} (hb : Bb w g cs t) (h : SlA w k ao cap l) : SlA (w.setCell ⟨g, i, none⟩ c) k ao cap l := by
  refine ⟨h.le, h.max, fun hl => ?_⟩
  obtain ⟨b, off, e, hlt, hc⟩ := h.cells hl
  have hne : b ≠ g := by
    rintro rfl
    rcases hb.cb (hc 0 (List.length_pos_iff.2 hl)) with ⟨x, e1⟩ | ⟨_, _, _, e1⟩ <;> cases e1
  exact ⟨b, off, e, by simpa using hlt, fun j hj => by rw [cell_setO hne]; exact hc j hj⟩
theorem NatV.setCb {w : World} {g i : Nat} {cs : Array Value} {t : TypeId} {c v : Value} {k : IntKind} {B n : Nat} (hb : Bb w g cs t) (h : NatV w k B v n) : NatV (w.setCell ⟨g, i, none⟩ c) k B v n := by
  obtain ⟨ao, cap, l, e, hs, r⟩ := h
  exact ⟨ao, cap, l, e, hs.setCb hb, r⟩
theorem NatV.cb {w : World} {k : IntKind} {B n : Nat} {v : Value} (h : NatV w k B v n) : Cb v := by
  obtain ⟨ao, cap, l, e, _⟩ := h
  rw [e]; exact Cb.sl _ _ _
theorem NatV.drewN {w : World} {k : IntKind} {B n : Nat} {v : Value} (h : NatV w k B v n) (d : Nat) : NatV (w.drewN d) k B v n := h.below (below_drewN (Below.refl _ _) d)
/-- Boxes of one Int and of one Rat. -/
def N2 (g : Nat) (b : Bool) (s : Value) (w : World) : Prop := Bb w g #[.bool b, s] 30
def N4 (g : Nat) (b : Bool) (s : Value) (b' : Bool) (s' : Value) (w : World) : Prop := Bb w g #[.bool b, s, .bool b', s'] 32
section
variable {g : Nat} {b b' : Bool} {s s' : Value} {w w' : World}
theorem N2.below (h : N2 g b s w) (hb : Below w.heap.size w w') : N2 g b s w' := Bb.below h hb
theorem N4.below (h : N4 g b s b' s' w) (hb : Below w.heap.size w w') : N4 g b s b' s' w' := Bb.below h hb
theorem N2.drew (h : N2 g b s w) : N2 g b s w.drew := h
theorem N4.drew (h : N4 g b s b' s' w) : N4 g b s b' s' w.drew := h
theorem N2.c0 (h : N2 g b s w) : w.cell? ⟨g, 0, none⟩ = some (.bool b) := by rw [Bb.cell h]; rfl
theorem N2.c1 (h : N2 g b s w) : w.cell? ⟨g, 1, none⟩ = some s := by rw [Bb.cell h]; rfl
theorem N2.f (h : N2 g b s w) (i : Nat) : w.frozen? ⟨g, i, none⟩ = false := Bb.frozen h i
theorem N4.c0 (h : N4 g b s b' s' w) : w.cell? ⟨g, 0, none⟩ = some (.bool b) := by rw [Bb.cell h]; rfl
theorem N4.c1 (h : N4 g b s b' s' w) : w.cell? ⟨g, 1, none⟩ = some s := by rw [Bb.cell h]; rfl
theorem N4.c2 (h : N4 g b s b' s' w) : w.cell? ⟨g, 2, none⟩ = some (.bool b') := by rw [Bb.cell h]; rfl
theorem N4.c3 (h : N4 g b s b' s' w) : w.cell? ⟨g, 3, none⟩ = some s' := by rw [Bb.cell h]; rfl
theorem N4.f (h : N4 g b s b' s' w) (i : Nat) : w.frozen? ⟨g, i, none⟩ = false := Bb.frozen h i
end
abbrev sn2 (w : World) (g : Nat) (b : Bool) (s : Value) : World := (w.setCell ⟨g, 0, none⟩ (.bool b)).setCell ⟨g, 1, none⟩ s
abbrev sn4 (w : World) (g : Nat) (b : Bool) (s : Value) (b' : Bool) (s' : Value) : World := (((w.setCell ⟨g, 0, none⟩ (.bool b)).setCell ⟨g, 1, none⟩ s).setCell ⟨g, 2, none⟩ (.bool b')).setCell ⟨g, 3, none⟩ s'
theorem N2.st {g : Nat} {b : Bool} {s : Value} {w : World} (h : N2 g b s w) (b1 : Bool) {s1 : Value} (hs : Cb s1) : N2 g b1 s1 (sn2 w g b1 s1) := Bb.set (Bb.set h 0 (Cb.bool b1)) 1 hs
theorem N4.st {g : Nat} {b b' : Bool} {s s' : Value} {w : World} (h : N4 g b s b' s' w) (b1 : Bool) {s1 : Value} (hs : Cb s1) (b2 : Bool) {s2 : Value} (hs2 : Cb s2) : N4 g b1 s1 b2 s2 (sn4 w g b1 s1 b2 s2) :=
  Bb.set (Bb.set (Bb.set (Bb.set h 0 (Cb.bool b1)) 1 hs) 2 (Cb.bool b2)) 3 hs2
theorem N2.o2 {g g' : Nat} {b : Bool} {s : Value} {w : World} (h : N2 g b s w) (hne : g ≠ g') (b1 : Bool) (s1 : Value) : N2 g b s (sn2 w g' b1 s1) := (Bb.other h hne _ _).other hne _ _
theorem N2.o4 {g g' : Nat} {b : Bool} {s : Value} {w : World} (h : N2 g b s w) (hne : g ≠ g') (b1 : Bool) (s1 : Value) (b2 : Bool) (s2 : Value) : N2 g b s (sn4 w g' b1 s1 b2 s2) := (((Bb.other h hne _ _).other hne _ _).other hne _ _).other hne _ _
theorem N4.o2 {g g' : Nat} {b b' : Bool} {s s' : Value} {w : World} (h : N4 g b s b' s' w) (hne : g ≠ g') (b1 : Bool) (s1 : Value) : N4 g b s b' s' (sn2 w g' b1 s1) := (Bb.other h hne _ _).other hne _ _
theorem N4.o4 {g g' : Nat} {b b' : Bool} {s s' : Value} {w : World} (h : N4 g b s b' s' w) (hne : g ≠ g') (b1 : Bool) (s1 : Value) (b2 : Bool) (s2 : Value) : N4 g b s b' s' (sn4 w g' b1 s1 b2 s2) := (((Bb.other h hne _ _).other hne _ _).other hne _ _).other hne _ _
theorem NatV.sn2 {g : Nat} {b b1 : Bool} {s s1 v : Value} {w : World} {B n : Nat} {k : IntKind} (hk : N2 g b s w) (_hs : Cb s1) (h : NatV w k B v n) : NatV (Go.Big.sn2 w g b1 s1) k B v n := (h.setCb hk).setCb (Bb.set hk 0 (Cb.bool b1))
theorem NatV.sn4 {g : Nat} {b b' b1 b2 : Bool} {s s' s1 s2 v : Value} {w : World} {B n : Nat} {k : IntKind} (hk : N4 g b s b' s' w) (hs : Cb s1) (h : NatV w k B v n) : NatV (Go.Big.sn4 w g b1 s1 b2 s2) k B v n :=
  (((h.setCb hk).setCb (Bb.set hk 0 (Cb.bool b1))).setCb (Bb.set (Bb.set hk 0 (Cb.bool b1)) 1 hs)).setCb (Bb.set (Bb.set (Bb.set hk 0 (Cb.bool b1)) 1 hs) 2 (Cb.bool b2))
theorem _root_.Go.RowKit.Below.sn2 {B : Nat} {a w : World} (h : Below B a w) {g : Nat} (hg : B ≤ g) (b : Bool) (s : Value) : Below B a (Go.Big.sn2 w g b s) := (h.setCell hg _).setCell hg _
theorem _root_.Go.RowKit.Below.sn4 {B : Nat} {a w : World} (h : Below B a w) {g : Nat} (hg : B ≤ g) (b : Bool) (s : Value) (b' : Bool) (s' : Value) : Below B a (Go.Big.sn4 w g b s b' s') := (((h.setCell hg _).setCell hg _).setCell hg _).setCell hg _
/-- The value v is the integer n of the references. -/
def NumV (w : World) (v : Value) (n : Int) : Prop := ∃ s, v = .agg #[.bool (decide (n < 0)), s] ∧ NatV w .u32 B32 s n.natAbs
theorem NumV.below {w w' : World} {v : Value} {n : Int} (h : NumV w v n) (hb : Below w.heap.size w w') : NumV w' v n := by
  obtain ⟨s, e, h⟩ := h
  exact ⟨s, e, h.below hb⟩
theorem NumV.cells {w : World} {v : Value} {n : Int} (h : NumV w v n) : ∃ b s, v = .agg #[.bool b, s] ∧ b = decide (n < 0) ∧ NatV w .u32 B32 s n.natAbs ∧ Cb s := by
  obtain ⟨s, e, h⟩ := h
  exact ⟨_, s, e, rfl, h, h.cb⟩
theorem cb2 (b : Bool) {s : Value} (h : Cb s) : ∀ c ∈ #[Value.bool b, s], Cb c := by
  intro c hc; simp at hc; rcases hc with rfl | rfl
  · exact Cb.bool _
  · exact h
theorem cb4 (b : Bool) {s : Value} (h : Cb s) (b' : Bool) {s' : Value} (h' : Cb s') : ∀ c ∈ #[Value.bool b, s, .bool b', s'], Cb c := by
  intro c hc; simp at hc; rcases hc with rfl | rfl | rfl | rfl
  · exact Cb.bool _
  · exact h
  · exact Cb.bool _
  · exact h'
theorem nbox1 (w : World) (cs : Array Value) (t : TypeId) (h : ∀ c ∈ cs, Cb c) : ∃ w0, w.alloc (.cells cs t) = w0 ∧ Below w.heap.size w w0 ∧ Bb w0 w.heap.size cs t ∧ w0.heap.size = w.heap.size + 1 :=
  ⟨_, rfl, (Below.refl _ _).alloc (Nat.le_refl _) _, Bb.new w t h, by simp⟩
theorem nboxes2 (w : World) (c1 : Array Value) (t1 : TypeId) (c2 : Array Value) (t2 : TypeId) (h1 : ∀ c ∈ c1, Cb c) (h2 : ∀ c ∈ c2, Cb c) :
    ∃ w0, (w.alloc (.cells c1 t1)).alloc (.cells c2 t2) = w0 ∧ Below w.heap.size w w0 ∧ Bb w0 w.heap.size c1 t1 ∧ Bb w0 (w.heap.size + 1) c2 t2 ∧ w0.heap.size = w.heap.size + 2 := by
  obtain ⟨w1, e1, b1, x1, s1⟩ := nbox1 w c1 t1 h1
  obtain ⟨w2, e2, b2, x2, s2⟩ := nbox1 w1 c2 t2 h2
  rw [s1] at x2
  exact ⟨w2, by rw [e1, e2], b1.trans (b2.mono b1.size), x1.below b2, x2, by omega⟩
theorem nboxes3 (w : World) (c1 : Array Value) (t1 : TypeId) (c2 : Array Value) (t2 : TypeId) (c3 : Array Value) (t3 : TypeId) (h1 : ∀ c ∈ c1, Cb c) (h2 : ∀ c ∈ c2, Cb c) (h3 : ∀ c ∈ c3, Cb c) :
    ∃ w0, ((w.alloc (.cells c1 t1)).alloc (.cells c2 t2)).alloc (.cells c3 t3) = w0 ∧ Below w.heap.size w w0 ∧ Bb w0 w.heap.size c1 t1 ∧ Bb w0 (w.heap.size + 1) c2 t2 ∧ Bb w0 (w.heap.size + 2) c3 t3 ∧ w0.heap.size = w.heap.size + 3 := by
  obtain ⟨w1, e1, b1, x1, y1, s1⟩ := nboxes2 w c1 t1 c2 t2 h1 h2
  obtain ⟨w2, e2, b2, x2, s2⟩ := nbox1 w1 c3 t3 h3
  rw [s1] at x2
  exact ⟨w2, by rw [e1, e2], b1.trans (b2.mono b1.size), x1.below b2, y1.below b2, x2, by omega⟩
theorem cb_nil : Cb (.slice none 0 0) := Cb.sl _ _ _
end Go.Big
namespace Go.Proofs.YtekghemhccfhkaaGreatDoor
open Go.RowKit Go.Big
/-- An integer of the references comes back. -/
def RetNum (w : World) (n : Int) (e : Ending) (w' : World) : Prop := ∃ v, e = .returned v ∧ NumV w' v n ∧ Below w.heap.size w w'
/-- A result's box is read at the end. -/
theorem ret_num {w w3 : World} {g : Nat} {b0 b : Bool} {s0 s : Value} {n : Int} (k : N2 g b0 s0 w3) (hb : b = decide (n < 0)) (h : NatV w3 .u32 B32 s n.natAbs) (s3 : Below w.heap.size w w3) (hg : w.heap.size ≤ g)
    {W : World} (hW : (w3.setCell ⟨g, 0, none⟩ (.bool b)).setCell ⟨g, 1, none⟩ s = W) :
    W.cell? ⟨g, 0, none⟩ = some (.bool b) ∧ W.cell? ⟨g, 1, none⟩ = some s ∧ RetNum w n (.returned (.agg #[.bool b, s])) W := by
  have hW : sn2 w3 g b s = W := hW
  subst hW
  have k' := k.st b h.cb
  exact ⟨k'.c0, k'.c1, _, rfl, ⟨s, by rw [hb], h.sn2 k h.cb⟩, s3.sn2 hg b s⟩
end Go.Proofs.YtekghemhccfhkaaGreatDoor
namespace Go.Proofs.YtekghemhccfhkaaGreatDoor
open Go.RowKit Go.Big
theorem _root_.Go.Big.NumV.op {w : World} {v : Value} {n : Int} (h : NumV w v n) : ∃ b ao k cap, v = .agg #[.bool b, .slice ao k cap] ∧ b = decide (n < 0) ∧ NatV w .u32 B32 (.slice ao k cap) n.natAbs := by
  obtain ⟨s, e, ao, cap, l, rfl, h⟩ := h
  exact ⟨_, ao, l.length, cap, e, rfl, ao, cap, l, rfl, h⟩
theorem signed_lt (ng : Bool) (m : Nat) : decide (signed ng m < 0) = (ng && decide (0 < m)) := by
  unfold signed
  cases ng
  · simp
  · simp
set_option maxRecDepth 100000 in
set_option maxHeartbeats 1000000 in
/-- make1 -/
theorem make1_any (ng : Bool) {s : Value} {m : Nat} {w : World} (h : NatV w .u32 B32 s m) : Calls Tryz.prog 100 #[.bool ng, s] w (RetNum w (signed ng m)) := by
  obtain ⟨w0, hw0, hb0, k0, hz0⟩ := nbox1 w #[.bool false, .slice none 0 0] 30 (cb2 false cb_nil)
  have k0 : N2 w.heap.size false (.slice none 0 0) w0 := k0
  have hm : (signed ng m).natAbs = m := Go.Big.signed_natAbs ng m
  have hn := h.below hb0
  obtain ⟨ao, cap, l, rfl, hs, hw, hz, hv⟩ := id h
  have hl := hs.len_le
  obtain ⟨b, hb⟩ : ∃ b, decide (signed ng m < 0) = b := ⟨_, rfl⟩
  have hbl : (ng && decide (0 < m)) = b := by rw [← signed_lt, hb]
  have hlm : decide (0 < l.length) = decide (0 < m) := by
    rw [← hv]
    rcases Nat.eq_zero_or_pos l.length with h0 | h0
    · have : l = [] := List.eq_nil_of_length_eq_zero h0
      subst this
      rfl
    · rw [decide_eq_true h0, decide_eq_true]
      rcases Nat.eq_zero_or_pos (val B32 l) with h1 | h1
      · rw [(val_zero_iff (B := B32) (by decide) hz).1 h1] at h0; simp at h0
      · exact h1
  obtain ⟨WW, hWW⟩ : ∃ WW, (w0.setCell ⟨w.heap.size, 0, none⟩ (.bool b)).setCell ⟨w.heap.size, 1, none⟩ (.slice ao l.length cap) = WW := ⟨_, rfl⟩
  obtain ⟨z0, z1, z2⟩ := ret_num (n := signed ng m) (b := b) k0 hb.symm (by rw [hm]; exact hn) hb0 (Nat.le_refl _) hWW
  obtain ⟨o, ho⟩ : ∃ o, decide (0 < m) = o := ⟨_, rfl⟩
  rw [ho] at hbl hlm
  have c0 := k0.c0
  have c1 := k0.c1
  have f0 := k0.f 0
  have f1 := k0.f 1
  have HZ := Lib.hid z2
  clear z2 h hs hw hz hv hm hn hb ho k0 hb0
  cases ng <;> cases o <;> simp only [Bool.true_and, Bool.false_and] at hbl <;> subst hbl
  all_goals
    go_enter Tryz.func100, Tryz.ntmps100
    go_wp2_with fail
    exact bodyPost_ret (v := .agg #[.bool _, .slice ao l.length cap]) (by simp [results, Tryz.results100, go_sem, z0, z1]) rfl HZ.out
end Go.Proofs.YtekghemhccfhkaaGreatDoor
