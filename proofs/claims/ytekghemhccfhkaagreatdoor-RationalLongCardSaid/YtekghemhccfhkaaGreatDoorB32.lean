/-
  Walks of the program's functions: IntI.
-/
import Derived.Test.YtekghemhccfhkaaGreatDoorB31
namespace Go.Big
open Go Go.RowKit
theorem four_boxes (w : World) (x : Int) (p : Option Addr) (y : Int) (q : Option Addr) : ∃ w0, (((w.alloc (.cells #[.int .i64 x, .pointer p] 63)).alloc (.cells #[.int .i64 y, .pointer q] 63)).alloc (.cells #[.int .i64 0, .pointer none] 63)).alloc (.cells #[.int .i64 0, .pointer none] 63) = w0 ∧
    Below w.heap.size w w0 ∧ K2 w.heap.size x p w0 ∧ K2 (w.heap.size + 1) y q w0 ∧ K2 (w.heap.size + 2) 0 none w0 ∧ K2 (w.heap.size + 3) 0 none w0 ∧ w0.heap.size = w.heap.size + 4 := by
  obtain ⟨w3, e3, b3, kx, ky, k2, z3⟩ := three_boxes w x p y q
  obtain ⟨w4, e4, b4, x4, z4⟩ := box1 w3 #[.int .i64 0, .pointer none] 63 (ip2 0 none)
  rw [z3] at x4
  exact ⟨w4, by rw [e3, e4], b3.trans (b4.mono b3.size), kx.below b4, ky.below b4, k2.below b4, x4, by omega⟩
theorem s_chain2 {w w3 : World} {g0 g1 g2 i j : Nat} {x y : Int} {p q : Option Addr} {c d : Value} (s1 : w3.cell? ⟨g0, 0, none⟩ = some (.int .i64 x)) (s2 : w3.cell? ⟨g0, 1, none⟩ = some (.pointer p))
    (s3 : w3.cell? ⟨g1, 0, none⟩ = some (.int .i64 y)) (s4 : w3.cell? ⟨g1, 1, none⟩ = some (.pointer q)) (s5 : Below w.heap.size w w3) (h0 : g0 ≠ g2) (h1 : g1 ≠ g2) (hg : w.heap.size ≤ g2) :
    ((w3.setCell ⟨g2, i, none⟩ c).setCell ⟨g2, j, none⟩ d).cell? ⟨g0, 0, none⟩ = some (.int .i64 x) ∧ ((w3.setCell ⟨g2, i, none⟩ c).setCell ⟨g2, j, none⟩ d).cell? ⟨g0, 1, none⟩ = some (.pointer p) ∧
      ((w3.setCell ⟨g2, i, none⟩ c).setCell ⟨g2, j, none⟩ d).cell? ⟨g1, 0, none⟩ = some (.int .i64 y) ∧ ((w3.setCell ⟨g2, i, none⟩ c).setCell ⟨g2, j, none⟩ d).cell? ⟨g1, 1, none⟩ = some (.pointer q) ∧
      Below w.heap.size w ((w3.setCell ⟨g2, i, none⟩ c).setCell ⟨g2, j, none⟩ d) :=
  ⟨by rw [cell_setO h0, cell_setO h0]; exact s1, by rw [cell_setO h0, cell_setO h0]; exact s2, by rw [cell_setO h1, cell_setO h1]; exact s3, by rw [cell_setO h1, cell_setO h1]; exact s4, (s5.setCell hg _).setCell hg _⟩
theorem s_chain4 {w w3 : World} {g0 g1 g2 g3 i j k l : Nat} {x y : Int} {p q : Option Addr} {c d e f : Value} (s1 : w3.cell? ⟨g0, 0, none⟩ = some (.int .i64 x)) (s2 : w3.cell? ⟨g0, 1, none⟩ = some (.pointer p))
    (s3 : w3.cell? ⟨g1, 0, none⟩ = some (.int .i64 y)) (s4 : w3.cell? ⟨g1, 1, none⟩ = some (.pointer q)) (s5 : Below w.heap.size w w3) (h0 : g0 ≠ g2) (h1 : g1 ≠ g2) (hg : w.heap.size ≤ g2) (h3 : g0 ≠ g3) (h4 : g1 ≠ g3) (hg3 : w.heap.size ≤ g3) :
    ((((w3.setCell ⟨g2, i, none⟩ c).setCell ⟨g2, j, none⟩ d).setCell ⟨g3, k, none⟩ e).setCell ⟨g3, l, none⟩ f).cell? ⟨g0, 0, none⟩ = some (.int .i64 x) ∧ ((((w3.setCell ⟨g2, i, none⟩ c).setCell ⟨g2, j, none⟩ d).setCell ⟨g3, k, none⟩ e).setCell ⟨g3, l, none⟩ f).cell? ⟨g0, 1, none⟩ = some (.pointer p) ∧
      ((((w3.setCell ⟨g2, i, none⟩ c).setCell ⟨g2, j, none⟩ d).setCell ⟨g3, k, none⟩ e).setCell ⟨g3, l, none⟩ f).cell? ⟨g1, 0, none⟩ = some (.int .i64 y) ∧ ((((w3.setCell ⟨g2, i, none⟩ c).setCell ⟨g2, j, none⟩ d).setCell ⟨g3, k, none⟩ e).setCell ⟨g3, l, none⟩ f).cell? ⟨g1, 1, none⟩ = some (.pointer q) ∧
      Below w.heap.size w ((((w3.setCell ⟨g2, i, none⟩ c).setCell ⟨g2, j, none⟩ d).setCell ⟨g3, k, none⟩ e).setCell ⟨g3, l, none⟩ f) := by
  obtain ⟨t1, t2, t3, t4, t5⟩ := s_chain2 (i := i) (j := j) (c := c) (d := d) s1 s2 s3 s4 s5 h0 h1 hg
  exact s_chain2 t1 t2 t3 t4 t5 h3 h4 hg3
theorem isS_tmod {x y : Int} (h : IsS x) : IsS (x.tmod y) := by
  have h1 : (x.tmod y).natAbs ≤ x.natAbs := by rw [Int.natAbs_tmod]; exact Nat.mod_le _ _
  have h2 : 0 ≤ x ∧ 0 ≤ x.tmod y ∨ x ≤ 0 ∧ x.tmod y ≤ 0 := by
    rcases Int.le_total 0 x with h | h
    · exact .inl ⟨h, Int.tmod_nonneg y h⟩
    · have := Int.tmod_nonneg (a := -x) y (by omega)
      rw [Int.neg_tmod] at this
      exact .inr ⟨h, by omega⟩
  obtain ⟨t, ht⟩ : ∃ t, x.tmod y = t := ⟨_, rfl⟩
  rw [ht] at h1 h2 ⊢
  unfold IsS at *
  omega
theorem run_remS {x y : Int} (h : ¬ y = 0) : Op.intDiv .rem .i64 x y = pure (.int .i64 (x.tmod y)) := by
  unfold Op.intDiv
  rw [if_neg h]
attribute [go_sem ↓] run_remS
theorem signed_div (n m : Int) : signed (!(decide (n < 0) == decide (m < 0))) (n.natAbs / m.natAbs) = n.tdiv m := by
  rcases Int.lt_or_le n 0 with h1 | h1 <;> rcases Int.lt_or_le m 0 with h2 | h2
  · rw [decide_eq_true h1, decide_eq_true h2]
    show ((n.natAbs / m.natAbs : Nat) : Int) = n.tdiv m
    rw [← Int.neg_tdiv_neg, Int.natCast_ediv, Int.tdiv_eq_ediv_of_nonneg (by omega)]
    rw [show (n.natAbs : Int) = -n by omega, show (m.natAbs : Int) = -m by omega]
  · rw [decide_eq_true h1, decide_eq_false (by omega)]
    show -((n.natAbs / m.natAbs : Nat) : Int) = n.tdiv m
    have e : n.tdiv m = -((-n).tdiv m) := by rw [Int.neg_tdiv]; omega
    rw [e, Int.natCast_ediv, Int.tdiv_eq_ediv_of_nonneg (by omega), show (n.natAbs : Int) = -n by omega, show (m.natAbs : Int) = m by omega]
  · rw [decide_eq_true h2, decide_eq_false (by omega)]
    show -((n.natAbs / m.natAbs : Nat) : Int) = n.tdiv m
    have e : n.tdiv m = -(n.tdiv (-m)) := by rw [Int.tdiv_neg]; omega
    rw [e, Int.natCast_ediv, Int.tdiv_eq_ediv_of_nonneg (by omega), show (n.natAbs : Int) = n by omega, show (m.natAbs : Int) = -m by omega]
  · rw [decide_eq_false (p := n < 0) (by omega), decide_eq_false (by omega)]
    show ((n.natAbs / m.natAbs : Nat) : Int) = n.tdiv m
    rw [Int.natCast_ediv, Int.tdiv_eq_ediv_of_nonneg (by omega), show (n.natAbs : Int) = n by omega, show (m.natAbs : Int) = m by omega]
theorem signed_mod (n m : Int) : signed (decide (n < 0)) (n.natAbs % m.natAbs) = n.tmod m := by
  have e : (n.tmod m).natAbs = n.natAbs % m.natAbs := Int.natAbs_tmod ..
  rcases Int.lt_or_le n 0 with h1 | h1
  · rw [decide_eq_true h1]
    show -((n.natAbs % m.natAbs : Nat) : Int) = n.tmod m
    have := Int.tmod_nonneg (a := -n) m (by omega)
    rw [Int.neg_tmod] at this
    omega
  · rw [decide_eq_false (by omega)]
    show ((n.natAbs % m.natAbs : Nat) : Int) = n.tmod m
    have := Int.tmod_nonneg (a := n) m h1
    omega
end Go.Big
namespace Go.Proofs.YtekghemhccfhkaaGreatDoor
open Go.RowKit Go.Big
def RetInt2 (w : World) (a b : Int) (e : Ending) (w' : World) : Prop := ∃ v v', e = .returned (.tuple #[v, v']) ∧ IntV w' v a ∧ IntV w' v' b ∧ Below w.heap.size w w'
/-- What a call that ends with two Ints in its results' boxes leaves. -/
theorem ret_box2 {w w3 : World} {g1 g2 : Nat} {x0 x1 y y2 : Int} {p0 p1 q q2 : Option Addr} {n m : Int} (k : K2 g1 x0 p0 w3) (k' : K2 g2 x1 p1 w3) (hne : g1 ≠ g2) (hv : IntV w3 (.agg #[.int .i64 y, .pointer q]) n) (hv2 : IntV w3 (.agg #[.int .i64 y2, .pointer q2]) m)
    (s3 : Below w.heap.size w w3) (hg : w.heap.size ≤ g1) (hg2 : w.heap.size ≤ g2) {W : World} (hW : (((w3.setCell ⟨g1, 0, none⟩ (.int .i64 y)).setCell ⟨g1, 1, none⟩ (.pointer q)).setCell ⟨g2, 0, none⟩ (.int .i64 y2)).setCell ⟨g2, 1, none⟩ (.pointer q2) = W) :
    W.cell? ⟨g1, 0, none⟩ = some (.int .i64 y) ∧ W.cell? ⟨g1, 1, none⟩ = some (.pointer q) ∧ W.cell? ⟨g2, 0, none⟩ = some (.int .i64 y2) ∧ W.cell? ⟨g2, 1, none⟩ = some (.pointer q2) ∧
      RetInt2 w n m (.returned (.tuple #[.agg #[.int .i64 y, .pointer q], .agg #[.int .i64 y2, .pointer q2]])) W := by
  subst hW
  have h1 := ((Bx.set k 0 (IP.int y)).set 1 (IP.ptr q))
  have h2 := (Bx.other (Bx.other k' (Ne.symm hne) 0 (.int .i64 y)) (Ne.symm hne) 1 (.pointer q))
  have h3 := (h2.set 0 (IP.int y2)).set 1 (IP.ptr q2)
  have h4 := Bx.other (Bx.other h1 hne 0 (.int .i64 y2)) hne 1 (.pointer q2)
  refine ⟨by rw [h4.cell]; rfl, by rw [h4.cell]; rfl, by rw [h3.cell]; rfl, by rw [h3.cell]; rfl, _, _, rfl, ?_, ?_, (((s3.setCell hg _).setCell hg _).setCell hg2 _).setCell hg2 _⟩
  · exact (hv.set2 (i := 0) k).set2 (i := 0) h2
  · exact (hv2.set2 (i := 0) k).set2 (i := 0) h2
set_option maxRecDepth 100000 in
set_option maxHeartbeats 1000000 in
theorem divS_ww {x y : Int} {w : World} (hx0 : IsS x) (hy0 : IsS y) (hc : y ≠ 0) : Calls Tryz.prog 160 #[.agg #[.int .i64 x, .pointer none], .agg #[.int .i64 y, .pointer none]] w (RetInt2 w (x.tdiv y) (x.tmod y)) := by
  have hx : IntV w (.agg #[.int .i64 x, .pointer none]) x := .inl ⟨hx0, rfl⟩
  have hy : IntV w (.agg #[.int .i64 y, .pointer none]) y := .inl ⟨hy0, rfl⟩
  have hxl : x.natAbs < 18446744073709551616 := by unfold IsS at hx0; omega
  have hyl : 0 < y.natAbs := by omega
  obtain ⟨a, ha⟩ : ∃ a, x.natAbs = a := ⟨_, rfl⟩
  obtain ⟨b, hb⟩ : ∃ b, y.natAbs = b := ⟨_, rfl⟩
  have hwx : ∀ w, Calls Tryz.prog 131 #[.agg #[.int .i64 x, .pointer none]] w fun e w' => e = .returned (.int .u64 (a : Int)) ∧ Below w.heap.size w w' := fun w => by rw [← ha]; exact word_small hx0 w
  have hwy : ∀ w, Calls Tryz.prog 131 #[.agg #[.int .i64 y, .pointer none]] w fun e w' => e = .returned (.int .u64 (b : Int)) ∧ Below w.heap.size w w' := fun w => by rw [← hb]; exact word_small hy0 w
  rw [ha] at hxl
  rw [hb] at hyl
  have hql : quoW a b < 18446744073709551616 := Nat.mod_lt _ (by decide)
  have hqe : quoW a b = x.natAbs / y.natAbs := by rw [ha, hb]; exact Nat.mod_eq_of_lt (Nat.lt_of_le_of_lt (Nat.div_le_self _ _) hxl)
  have hc' : ¬ y = 0 := hc
  obtain ⟨w0, hw0, hb0, kx, ky, k2, k3, hsz⟩ := four_boxes w x none y none
  have HVX := Lib.hid hx
  have HVY := Lib.hid hy
  have e1 := kx.c0
  have e2 := kx.c1
  have e3 := ky.c0
  have e4 := ky.c1
  have s1 : w0.drew.cell? ⟨w.heap.size, 0, none⟩ = some (.int .i64 x) := kx.c0
  have s2 : w0.drew.cell? ⟨w.heap.size, 1, none⟩ = some (.pointer none) := kx.c1
  have s3 : w0.drew.cell? ⟨w.heap.size + 1, 0, none⟩ = some (.int .i64 y) := ky.c0
  have s4 : w0.drew.cell? ⟨w.heap.size + 1, 1, none⟩ = some (.pointer none) := ky.c1
  have s5 := hb0.drew
  have k2 : K2 (w.heap.size + 2) 0 none w0.drew := k2
  have k3 : K2 (w.heap.size + 3) 0 none w0.drew := k3
  have HSZ := Lib.hid hsz
  have HS := Lib.hid (isS_tmod (y := y) hx0)
  have HWX := Lib.hid hwx
  have HWY := Lib.hid hwy
  have HQ := Lib.hid (And.intro hql hqe)
  clear hx0 hy0 hxl hwx hwy hql hqe ha hb hc
  clear kx ky hb0 hx hy hsz
  go_enter Tryz.func160, Tryz.ntmps160
  go_wp2_with fail
  go_region_held3 (fun w' => w'.cell? ⟨w.heap.size, 0, none⟩ = some (.int .i64 x) ∧ w'.cell? ⟨w.heap.size, 1, none⟩ = some (.pointer none) ∧ w'.cell? ⟨w.heap.size + 1, 0, none⟩ = some (.int .i64 y) ∧ w'.cell? ⟨w.heap.size + 1, 1, none⟩ = some (.pointer none) ∧ Below w.heap.size w w') (first | exact ⟨s1, s2, s3, s4, s5⟩ | exact s_chain2 s1 s2 s3 s4 s5 (by omega) (by omega) (by omega) | exact s_chain4 s1 s2 s3 s4 s5 (by omega) (by omega) (by omega) (by omega) (by omega) (by omega) | fail) (first | (go_at_call 112; (with_reducible refine (negative_any (HVX.out.below s5)).mono ?_); rintro e w1 ⟨rfl, hb1⟩; obtain ⟨s1, s2, s3, s4, s5⟩ := s_step4 s1 s2 s3 s4 s5 hb1; have k2 := k2.below hb1; have k3 := k3.below hb1) | (go_at_call 112; (with_reducible refine (negative_any (HVY.out.below s5)).mono ?_); rintro e w2 ⟨rfl, hb2⟩; obtain ⟨s1, s2, s3, s4, s5⟩ := s_step4 s1 s2 s3 s4 s5 hb2; have k2 := k2.below hb2; have k3 := k3.below hb2) | fail)
  clear e1 e2 e3 e4
  go_wp2_with fail
  obtain ⟨s1, s2, s3, s4, s5⟩ := s_drew4 s1 s2 s3 s4 s5
  have k2 : K2 (w.heap.size + 2) 0 none w2.drew := k2
  have k3 : K2 (w.heap.size + 3) 0 none w2.drew := k3
  go_region_held3 (fun w' => w'.cell? ⟨w.heap.size, 0, none⟩ = some (.int .i64 x) ∧ w'.cell? ⟨w.heap.size, 1, none⟩ = some (.pointer none) ∧ w'.cell? ⟨w.heap.size + 1, 0, none⟩ = some (.int .i64 y) ∧ w'.cell? ⟨w.heap.size + 1, 1, none⟩ = some (.pointer none) ∧ Below w.heap.size w w') (first | exact ⟨s1, s2, s3, s4, s5⟩ | exact s_chain2 s1 s2 s3 s4 s5 (by omega) (by omega) (by omega) | exact s_chain4 s1 s2 s3 s4 s5 (by omega) (by omega) (by omega) (by omega) (by omega) (by omega) | fail) (first | (go_at_call 131; (with_reducible refine (HWX.out _).mono ?_); rintro e w3 ⟨rfl, hb3⟩; obtain ⟨s1, s2, s3, s4, s5⟩ := s_step4 s1 s2 s3 s4 s5 hb3; have k2 := k2.below hb3; have k3 := k3.below hb3) | (go_at_call 131; (with_reducible refine (HWY.out _).mono ?_); rintro e w4 ⟨rfl, hb4⟩; obtain ⟨s1, s2, s3, s4, s5⟩ := s_step4 s1 s2 s3 s4 s5 hb4; have k2 := k2.below hb4; have k3 := k3.below hb4) | (go_at_call 133; (with_reducible refine (signedWord_any _ HQ.out.1 _).mono ?_); rintro e w5 ⟨v5, rfl, hv5, hb5⟩; obtain ⟨s1, s2, s3, s4, s5⟩ := s_step4 s1 s2 s3 s4 s5 hb5; have k2 := k2.below hb5; have k3 := k3.below hb5; obtain ⟨y', q', rfl⟩ := hv5.two; have c0 := k2.c0; have c1 := k2.c1; have f0 := k2.f 0; have f1 := k2.f 1; have c2 := k3.c0; have c3 := k3.c1; have f2 := k3.f 0; have f3 := k3.f 1) | fail)
  obtain ⟨W, hW⟩ : ∃ W, (((w5.setCell ⟨w.heap.size + 2, 0, none⟩ (.int .i64 y')).setCell ⟨w.heap.size + 2, 1, none⟩ (.pointer q')).setCell ⟨w.heap.size + 3, 0, none⟩ (.int .i64 (x.tmod y))).setCell ⟨w.heap.size + 3, 1, none⟩ (.pointer none) = W := ⟨_, rfl⟩
  rw [hW]
  obtain ⟨z1, z2, z3, z4, z5⟩ := ret_box2 k2 k3 (by omega) hv5 (show IntV w5 (.agg #[.int .i64 (x.tmod y), .pointer none]) (x.tmod y) from .inl ⟨HS.out, rfl⟩) s5 (by omega) (by omega) hW
  rw [HQ.out.2, signed_div] at z5
  have HZ := Lib.hid z5
  clear s1 s2 s3 s4 s5 k2 k3 c0 c1 f0 f1 c2 c3 f2 f3 hW hv5 hb1 hb2 hb3 hb4 hb5 z5
  go_wp2_with fail
  exact bodyPost_ret (v := .tuple #[.agg #[.int .i64 y', .pointer q'], .agg #[.int .i64 (x.tmod y), .pointer none]]) (by simp [results, Tryz.results160, go_sem, z1, z2, z3, z4]) rfl HZ.out
set_option maxRecDepth 100000 in
set_option maxHeartbeats 4000000 in
theorem divS_big {x y : Int} {p q : Option Addr} {n m : Int} {w : World} (hx : IntV w (.agg #[.int .i64 x, .pointer p]) n) (hy : IntV w (.agg #[.int .i64 y, .pointer q]) m) (hc : ¬ (p = none ∧ q = none)) {K : Nat} (hm0 : m ≠ 0) (hK : K < 239) (hn : n.natAbs < B64 ^ K) (hm : m.natAbs < B64 ^ K) : Calls Tryz.prog 160 #[.agg #[.int .i64 x, .pointer p], .agg #[.int .i64 y, .pointer q]] w (RetInt2 w (n.tdiv m) (n.tmod m)) := by
  obtain ⟨w0, hw0, hb0, kx, ky, k2, k3, hsz⟩ := four_boxes w x p y q
  have HVX := Lib.hid hx
  have HVY := Lib.hid hy
  have e1 := kx.c0
  have e2 := kx.c1
  have e3 := ky.c0
  have e4 := ky.c1
  have s1 : w0.drew.cell? ⟨w.heap.size, 0, none⟩ = some (.int .i64 x) := kx.c0
  have s2 : w0.drew.cell? ⟨w.heap.size, 1, none⟩ = some (.pointer p) := kx.c1
  have s3 : w0.drew.cell? ⟨w.heap.size + 1, 0, none⟩ = some (.int .i64 y) := ky.c0
  have s4 : w0.drew.cell? ⟨w.heap.size + 1, 1, none⟩ = some (.pointer q) := ky.c1
  have s5 := hb0.drew
  have k2 : K2 (w.heap.size + 2) 0 none w0.drew := k2
  have k3 : K2 (w.heap.size + 3) 0 none w0.drew := k3
  have HSZ := Lib.hid hsz
  have HC := Lib.hid hc
  have HK := Lib.hid (And.intro hn (And.intro hm (show 0 < m.natAbs by omega)))
  clear hc hn hm hm0
  clear kx ky hb0 hx hy hsz
  cases p with
  | none =>
    cases q with
    | none => exact absurd ⟨rfl, rfl⟩ HC.out
    | some b =>
      go_enter Tryz.func160, Tryz.ntmps160
      go_wp2_with fail
      go_region_held3 (fun w' => w'.cell? ⟨w.heap.size, 0, none⟩ = some (.int .i64 x) ∧ w'.cell? ⟨w.heap.size, 1, none⟩ = some (.pointer none) ∧ w'.cell? ⟨w.heap.size + 1, 0, none⟩ = some (.int .i64 y) ∧ w'.cell? ⟨w.heap.size + 1, 1, none⟩ = some (.pointer (some b)) ∧ Below w.heap.size w w') (first | exact ⟨s1, s2, s3, s4, s5⟩ | exact s_chain2 s1 s2 s3 s4 s5 (by omega) (by omega) (by omega) | exact s_chain4 s1 s2 s3 s4 s5 (by omega) (by omega) (by omega) (by omega) (by omega) (by omega) | fail) (first | (go_at_call 112; (with_reducible refine (negative_any (HVX.out.below s5)).mono ?_); rintro e w1 ⟨rfl, hb1⟩; obtain ⟨s1, s2, s3, s4, s5⟩ := s_step4 s1 s2 s3 s4 s5 hb1; have k2 := k2.below hb1; have k3 := k3.below hb1) | (go_at_call 112; (with_reducible refine (negative_any (HVY.out.below s5)).mono ?_); rintro e w2 ⟨rfl, hb2⟩; obtain ⟨s1, s2, s3, s4, s5⟩ := s_step4 s1 s2 s3 s4 s5 hb2; have k2 := k2.below hb2; have k3 := k3.below hb2) | fail)
      clear e1 e2 e3 e4
      go_wp2_with fail
      obtain ⟨s1, s2, s3, s4, s5⟩ := s_drew4 s1 s2 s3 s4 s5
      have k2 : K2 (w.heap.size + 2) 0 none w2.drew := k2
      have k3 : K2 (w.heap.size + 3) 0 none w2.drew := k3
      go_region_held3 (fun w' => w'.cell? ⟨w.heap.size, 0, none⟩ = some (.int .i64 x) ∧ w'.cell? ⟨w.heap.size, 1, none⟩ = some (.pointer none) ∧ w'.cell? ⟨w.heap.size + 1, 0, none⟩ = some (.int .i64 y) ∧ w'.cell? ⟨w.heap.size + 1, 1, none⟩ = some (.pointer (some b)) ∧ Below w.heap.size w w') (first | exact ⟨s1, s2, s3, s4, s5⟩ | exact s_chain2 s1 s2 s3 s4 s5 (by omega) (by omega) (by omega) | exact s_chain4 s1 s2 s3 s4 s5 (by omega) (by omega) (by omega) (by omega) (by omega) (by omega) | fail) (first | (go_at_call 114; (with_reducible refine (natural_any (HVX.out.below s5)).mono ?_); rintro e w3 ⟨v3, rfl, hv3, hb3⟩; obtain ⟨s1, s2, s3, s4, s5⟩ := s_step4 s1 s2 s3 s4 s5 hb3; have k2 := k2.below hb3; have k3 := k3.below hb3) | (go_at_call 114; (with_reducible refine (natural_any (HVY.out.below s5)).mono ?_); rintro e w4 ⟨v4, rfl, hv4, hb4⟩; obtain ⟨s1, s2, s3, s4, s5⟩ := s_step4 s1 s2 s3 s4 s5 hb4; have k2 := k2.below hb4; have k3 := k3.below hb4; have hv3 := hv3.below hb4) | (go_at_call 138; (with_reducible refine (divide_any hv3 hv4 hK HK.out.1 HK.out.2.1 HK.out.2.2).mono ?_); rintro e w5 ⟨v5, v6, rfl, hv5, hv6, hb5⟩; obtain ⟨s1, s2, s3, s4, s5⟩ := s_step4 s1 s2 s3 s4 s5 hb5; have k2 := k2.below hb5; have k3 := k3.below hb5) | fail)
      go_wp2_with fail
      obtain ⟨s1, s2, s3, s4, s5⟩ := s_drew4 s1 s2 s3 s4 s5
      have k2 : K2 (w.heap.size + 2) 0 none w5.drew := k2
      have k3 : K2 (w.heap.size + 3) 0 none w5.drew := k3
      have hv5 := hv5.below (Below.refl w5.heap.size w5).drew
      have hv6 := hv6.below (Below.refl w5.heap.size w5).drew
      clear hb1 hb2 hb3 hb4 hb5 hv3 hv4
      go_region_held3 (fun w' => w'.cell? ⟨w.heap.size, 0, none⟩ = some (.int .i64 x) ∧ w'.cell? ⟨w.heap.size, 1, none⟩ = some (.pointer none) ∧ w'.cell? ⟨w.heap.size + 1, 0, none⟩ = some (.int .i64 y) ∧ w'.cell? ⟨w.heap.size + 1, 1, none⟩ = some (.pointer (some b)) ∧ Below w.heap.size w w') (first | exact ⟨s1, s2, s3, s4, s5⟩ | exact s_chain2 s1 s2 s3 s4 s5 (by omega) (by omega) (by omega) | exact s_chain4 s1 s2 s3 s4 s5 (by omega) (by omega) (by omega) (by omega) (by omega) (by omega) | fail) (first | (go_at_call 113; (with_reducible refine (signed_any _ hv5).mono ?_); rintro e w6 ⟨v7, rfl, hv7, hb6⟩; obtain ⟨s1, s2, s3, s4, s5⟩ := s_step4 s1 s2 s3 s4 s5 hb6; have k2 := k2.below hb6; have k3 := k3.below hb6; have hv6 := hv6.below hb6) | (go_at_call 112; (with_reducible refine (negative_any (HVX.out.below s5)).mono ?_); rintro e w7 ⟨rfl, hb7⟩; obtain ⟨s1, s2, s3, s4, s5⟩ := s_step4 s1 s2 s3 s4 s5 hb7; have k2 := k2.below hb7; have k3 := k3.below hb7; have hv6 := hv6.below hb7; have hv7 := hv7.below hb7) | (go_at_call 113; (with_reducible refine (signed_any _ hv6).mono ?_); rintro e w8 ⟨v8, rfl, hv8, hb8⟩; obtain ⟨s1, s2, s3, s4, s5⟩ := s_step4 s1 s2 s3 s4 s5 hb8; have k2 := k2.below hb8; have k3 := k3.below hb8; have hv7 := hv7.below hb8; obtain ⟨y', q', rfl⟩ := hv7.two; obtain ⟨y'', q'', rfl⟩ := hv8.two; have c0 := k2.c0; have c1 := k2.c1; have f0 := k2.f 0; have f1 := k2.f 1; have c2 := k3.c0; have c3 := k3.c1; have f2 := k3.f 0; have f3 := k3.f 1) | fail)
      obtain ⟨W, hW⟩ : ∃ W, (((w8.setCell ⟨w.heap.size + 2, 0, none⟩ (.int .i64 y')).setCell ⟨w.heap.size + 2, 1, none⟩ (.pointer q')).setCell ⟨w.heap.size + 3, 0, none⟩ (.int .i64 y'')).setCell ⟨w.heap.size + 3, 1, none⟩ (.pointer q'') = W := ⟨_, rfl⟩
      rw [hW]
      obtain ⟨z1, z2, z3, z4, z5⟩ := ret_box2 k2 k3 (by omega) hv7 hv8 s5 (by omega) (by omega) hW
      rw [signed_div, signed_mod] at z5
      have HZ := Lib.hid z5
      clear s1 s2 s3 s4 s5 k2 k3 c0 c1 f0 f1 c2 c3 f2 f3 hW hv5 hv6 hv7 hv8 hb6 hb7 hb8 z5
      go_wp2_with fail
      exact bodyPost_ret (v := .tuple #[.agg #[.int .i64 y', .pointer q'], .agg #[.int .i64 y'', .pointer q'']]) (by simp [results, Tryz.results160, go_sem, z1, z2, z3, z4]) rfl HZ.out
  | some a =>
      go_enter Tryz.func160, Tryz.ntmps160
      go_wp2_with fail
      go_region_held3 (fun w' => w'.cell? ⟨w.heap.size, 0, none⟩ = some (.int .i64 x) ∧ w'.cell? ⟨w.heap.size, 1, none⟩ = some (.pointer (some a)) ∧ w'.cell? ⟨w.heap.size + 1, 0, none⟩ = some (.int .i64 y) ∧ w'.cell? ⟨w.heap.size + 1, 1, none⟩ = some (.pointer q) ∧ Below w.heap.size w w') (first | exact ⟨s1, s2, s3, s4, s5⟩ | exact s_chain2 s1 s2 s3 s4 s5 (by omega) (by omega) (by omega) | exact s_chain4 s1 s2 s3 s4 s5 (by omega) (by omega) (by omega) (by omega) (by omega) (by omega) | fail) (first | (go_at_call 112; (with_reducible refine (negative_any (HVX.out.below s5)).mono ?_); rintro e w1 ⟨rfl, hb1⟩; obtain ⟨s1, s2, s3, s4, s5⟩ := s_step4 s1 s2 s3 s4 s5 hb1; have k2 := k2.below hb1; have k3 := k3.below hb1) | (go_at_call 112; (with_reducible refine (negative_any (HVY.out.below s5)).mono ?_); rintro e w2 ⟨rfl, hb2⟩; obtain ⟨s1, s2, s3, s4, s5⟩ := s_step4 s1 s2 s3 s4 s5 hb2; have k2 := k2.below hb2; have k3 := k3.below hb2) | fail)
      clear e1 e2 e3 e4
      go_wp2_with fail
      obtain ⟨s1, s2, s3, s4, s5⟩ := s_drew4 s1 s2 s3 s4 s5
      have k2 : K2 (w.heap.size + 2) 0 none w2.drew := k2
      have k3 : K2 (w.heap.size + 3) 0 none w2.drew := k3
      go_region_held3 (fun w' => w'.cell? ⟨w.heap.size, 0, none⟩ = some (.int .i64 x) ∧ w'.cell? ⟨w.heap.size, 1, none⟩ = some (.pointer (some a)) ∧ w'.cell? ⟨w.heap.size + 1, 0, none⟩ = some (.int .i64 y) ∧ w'.cell? ⟨w.heap.size + 1, 1, none⟩ = some (.pointer q) ∧ Below w.heap.size w w') (first | exact ⟨s1, s2, s3, s4, s5⟩ | exact s_chain2 s1 s2 s3 s4 s5 (by omega) (by omega) (by omega) | exact s_chain4 s1 s2 s3 s4 s5 (by omega) (by omega) (by omega) (by omega) (by omega) (by omega) | fail) (first | (go_at_call 114; (with_reducible refine (natural_any (HVX.out.below s5)).mono ?_); rintro e w3 ⟨v3, rfl, hv3, hb3⟩; obtain ⟨s1, s2, s3, s4, s5⟩ := s_step4 s1 s2 s3 s4 s5 hb3; have k2 := k2.below hb3; have k3 := k3.below hb3) | (go_at_call 114; (with_reducible refine (natural_any (HVY.out.below s5)).mono ?_); rintro e w4 ⟨v4, rfl, hv4, hb4⟩; obtain ⟨s1, s2, s3, s4, s5⟩ := s_step4 s1 s2 s3 s4 s5 hb4; have k2 := k2.below hb4; have k3 := k3.below hb4; have hv3 := hv3.below hb4) | (go_at_call 138; (with_reducible refine (divide_any hv3 hv4 hK HK.out.1 HK.out.2.1 HK.out.2.2).mono ?_); rintro e w5 ⟨v5, v6, rfl, hv5, hv6, hb5⟩; obtain ⟨s1, s2, s3, s4, s5⟩ := s_step4 s1 s2 s3 s4 s5 hb5; have k2 := k2.below hb5; have k3 := k3.below hb5) | fail)
      go_wp2_with fail
      obtain ⟨s1, s2, s3, s4, s5⟩ := s_drew4 s1 s2 s3 s4 s5
      have k2 : K2 (w.heap.size + 2) 0 none w5.drew := k2
      have k3 : K2 (w.heap.size + 3) 0 none w5.drew := k3
      have hv5 := hv5.below (Below.refl w5.heap.size w5).drew
      have hv6 := hv6.below (Below.refl w5.heap.size w5).drew
      clear hb1 hb2 hb3 hb4 hb5 hv3 hv4
      go_region_held3 (fun w' => w'.cell? ⟨w.heap.size, 0, none⟩ = some (.int .i64 x) ∧ w'.cell? ⟨w.heap.size, 1, none⟩ = some (.pointer (some a)) ∧ w'.cell? ⟨w.heap.size + 1, 0, none⟩ = some (.int .i64 y) ∧ w'.cell? ⟨w.heap.size + 1, 1, none⟩ = some (.pointer q) ∧ Below w.heap.size w w') (first | exact ⟨s1, s2, s3, s4, s5⟩ | exact s_chain2 s1 s2 s3 s4 s5 (by omega) (by omega) (by omega) | exact s_chain4 s1 s2 s3 s4 s5 (by omega) (by omega) (by omega) (by omega) (by omega) (by omega) | fail) (first | (go_at_call 113; (with_reducible refine (signed_any _ hv5).mono ?_); rintro e w6 ⟨v7, rfl, hv7, hb6⟩; obtain ⟨s1, s2, s3, s4, s5⟩ := s_step4 s1 s2 s3 s4 s5 hb6; have k2 := k2.below hb6; have k3 := k3.below hb6; have hv6 := hv6.below hb6) | (go_at_call 112; (with_reducible refine (negative_any (HVX.out.below s5)).mono ?_); rintro e w7 ⟨rfl, hb7⟩; obtain ⟨s1, s2, s3, s4, s5⟩ := s_step4 s1 s2 s3 s4 s5 hb7; have k2 := k2.below hb7; have k3 := k3.below hb7; have hv6 := hv6.below hb7; have hv7 := hv7.below hb7) | (go_at_call 113; (with_reducible refine (signed_any _ hv6).mono ?_); rintro e w8 ⟨v8, rfl, hv8, hb8⟩; obtain ⟨s1, s2, s3, s4, s5⟩ := s_step4 s1 s2 s3 s4 s5 hb8; have k2 := k2.below hb8; have k3 := k3.below hb8; have hv7 := hv7.below hb8; obtain ⟨y', q', rfl⟩ := hv7.two; obtain ⟨y'', q'', rfl⟩ := hv8.two; have c0 := k2.c0; have c1 := k2.c1; have f0 := k2.f 0; have f1 := k2.f 1; have c2 := k3.c0; have c3 := k3.c1; have f2 := k3.f 0; have f3 := k3.f 1) | fail)
      obtain ⟨W, hW⟩ : ∃ W, (((w8.setCell ⟨w.heap.size + 2, 0, none⟩ (.int .i64 y')).setCell ⟨w.heap.size + 2, 1, none⟩ (.pointer q')).setCell ⟨w.heap.size + 3, 0, none⟩ (.int .i64 y'')).setCell ⟨w.heap.size + 3, 1, none⟩ (.pointer q'') = W := ⟨_, rfl⟩
      rw [hW]
      obtain ⟨z1, z2, z3, z4, z5⟩ := ret_box2 k2 k3 (by omega) hv7 hv8 s5 (by omega) (by omega) hW
      rw [signed_div, signed_mod] at z5
      have HZ := Lib.hid z5
      clear s1 s2 s3 s4 s5 k2 k3 c0 c1 f0 f1 c2 c3 f2 f3 hW hv5 hv6 hv7 hv8 hb6 hb7 hb8 z5
      go_wp2_with fail
      exact bodyPost_ret (v := .tuple #[.agg #[.int .i64 y', .pointer q'], .agg #[.int .i64 y'', .pointer q'']]) (by simp [results, Tryz.results160, go_sem, z1, z2, z3, z4]) rfl HZ.out
set_option maxRecDepth 100000 in
set_option maxHeartbeats 1000000 in
theorem divS_any {vx vy : Value} {n m : Int} {K : Nat} {w : World} (hx : IntV w vx n) (hy : IntV w vy m) (hm0 : m ≠ 0) (hK : K < 239) (hn : n.natAbs < B64 ^ K) (hm : m.natAbs < B64 ^ K) :
    Calls Tryz.prog 160 #[vx, vy] w (RetInt2 w (n.tdiv m) (n.tmod m)) := by
  obtain ⟨x, p, rfl⟩ := hx.two
  obtain ⟨y, q, rfl⟩ := hy.two
  by_cases h3 : p = none ∧ q = none
  · obtain ⟨rfl, rfl⟩ := h3
    rcases hx.cs with ⟨sx, ex⟩ | ⟨a, ex, _⟩
    · rcases hy.cs with ⟨sy, ey⟩ | ⟨b, ey, _⟩
      · simp at ex ey
        subst ex ey
        exact divS_ww sx sy hm0
      · simp at ey
    · simp at ex
  · exact divS_big hx hy h3 hm0 hK hn hm
end Go.Proofs.YtekghemhccfhkaaGreatDoor
