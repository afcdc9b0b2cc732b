/-
  Walks of the program's functions: Box3, IntF.
-/
import Derived.Test.YtekghemhccfhkaaGreatDoorB13
import Derived.Test.YtekghemhccfhkaaGreatDoorB12
import Derived.Test.YtekghemhccfhkaaGreatDoorB08
import Derived.IntWalk
namespace Go.Big
open Go Go.RowKit
theorem three_boxes (w : World) (x : Int) (p : Option Addr) (y : Int) (q : Option Addr) : ∃ w0, ((w.alloc (.cells #[.int .i64 x, .pointer p] 63)).alloc (.cells #[.int .i64 y, .pointer q] 63)).alloc (.cells #[.int .i64 0, .pointer none] 63) = w0 ∧
    Below w.heap.size w w0 ∧ K2 w.heap.size x p w0 ∧ K2 (w.heap.size + 1) y q w0 ∧ K2 (w.heap.size + 2) 0 none w0 ∧ w0.heap.size = w.heap.size + 3 := by
  obtain ⟨w1, e1, b1, x1, z1⟩ := box1 w #[.int .i64 x, .pointer p] 63 (ip2 x p)
  obtain ⟨w2, e2, b2, x2, z2⟩ := box1 w1 #[.int .i64 y, .pointer q] 63 (ip2 y q)
  obtain ⟨w3, e3, b3, x3, z3⟩ := box1 w2 #[.int .i64 0, .pointer none] 63 (ip2 0 none)
  rw [z1] at x2
  rw [z2, z1] at x3
  refine ⟨w3, by rw [e1, e2, e3], (b1.trans (b2.mono b1.size)).trans (b3.mono (by omega)), (x1.below b2).below b3, x2.below b3, x3, by omega⟩
theorem pair_boxes (w : World) (x : Int) (p : Option Addr) (y : Int) (q : Option Addr) : ∃ w0, (w.alloc (.cells #[.int .i64 x, .pointer p] 63)).alloc (.cells #[.int .i64 y, .pointer q] 63) = w0 ∧
    Below w.heap.size w w0 ∧ K2 w.heap.size x p w0 ∧ K2 (w.heap.size + 1) y q w0 ∧ w0.heap.size = w.heap.size + 2 := by
  obtain ⟨w1, e1, b1, x1, z1⟩ := box1 w #[.int .i64 x, .pointer p] 63 (ip2 x p)
  obtain ⟨w2, e2, b2, x2, z2⟩ := box1 w1 #[.int .i64 y, .pointer q] 63 (ip2 y q)
  rw [z1] at x2
  refine ⟨w2, by rw [e1, e2], b1.trans (b2.mono b1.size), x1.below b2, x2, by omega⟩
/-- Behind a call: the cells of the two boxes, and all that was there. -/
theorem s_step4 {w w' w1 : World} {g0 g1 : Nat} {x y : Int} {p q : Option Addr} (s1 : w'.cell? ⟨g0, 0, none⟩ = some (.int .i64 x)) (s2 : w'.cell? ⟨g0, 1, none⟩ = some (.pointer p))
    (s3 : w'.cell? ⟨g1, 0, none⟩ = some (.int .i64 y)) (s4 : w'.cell? ⟨g1, 1, none⟩ = some (.pointer q)) (s5 : Below w.heap.size w w') (hb : Below w'.heap.size w' w1) :
    w1.cell? ⟨g0, 0, none⟩ = some (.int .i64 x) ∧ w1.cell? ⟨g0, 1, none⟩ = some (.pointer p) ∧ w1.cell? ⟨g1, 0, none⟩ = some (.int .i64 y) ∧ w1.cell? ⟨g1, 1, none⟩ = some (.pointer q) ∧ Below w.heap.size w w1 :=
  ⟨(hb.cell (p := ⟨g0, 0, none⟩) (World.block_lt_of_cell? w' _ s1)).trans s1, (hb.cell (p := ⟨g0, 1, none⟩) (World.block_lt_of_cell? w' _ s2)).trans s2,
    (hb.cell (p := ⟨g1, 0, none⟩) (World.block_lt_of_cell? w' _ s3)).trans s3, (hb.cell (p := ⟨g1, 1, none⟩) (World.block_lt_of_cell? w' _ s4)).trans s4, s5.trans (hb.mono s5.size)⟩
theorem s_store4 {w w3 : World} {g0 g1 g2 : Nat} {x y x2 : Int} {p q p2 : Option Addr} (s1 : w3.cell? ⟨g0, 0, none⟩ = some (.int .i64 x)) (s2 : w3.cell? ⟨g0, 1, none⟩ = some (.pointer p))
    (s3 : w3.cell? ⟨g1, 0, none⟩ = some (.int .i64 y)) (s4 : w3.cell? ⟨g1, 1, none⟩ = some (.pointer q)) (s5 : Below w.heap.size w w3) (h0 : g0 ≠ g2) (h1 : g1 ≠ g2) (hg : w.heap.size ≤ g2) :
    ((w3.setCell ⟨g2, 0, none⟩ (.int .i64 x2)).setCell ⟨g2, 1, none⟩ (.pointer p2)).cell? ⟨g0, 0, none⟩ = some (.int .i64 x) ∧ ((w3.setCell ⟨g2, 0, none⟩ (.int .i64 x2)).setCell ⟨g2, 1, none⟩ (.pointer p2)).cell? ⟨g0, 1, none⟩ = some (.pointer p) ∧
      ((w3.setCell ⟨g2, 0, none⟩ (.int .i64 x2)).setCell ⟨g2, 1, none⟩ (.pointer p2)).cell? ⟨g1, 0, none⟩ = some (.int .i64 y) ∧ ((w3.setCell ⟨g2, 0, none⟩ (.int .i64 x2)).setCell ⟨g2, 1, none⟩ (.pointer p2)).cell? ⟨g1, 1, none⟩ = some (.pointer q) ∧
      Below w.heap.size w ((w3.setCell ⟨g2, 0, none⟩ (.int .i64 x2)).setCell ⟨g2, 1, none⟩ (.pointer p2)) :=
  ⟨by rw [cell_setO h0, cell_setO h0]; exact s1, by rw [cell_setO h0, cell_setO h0]; exact s2, by rw [cell_setO h1, cell_setO h1]; exact s3, by rw [cell_setO h1, cell_setO h1]; exact s4, (s5.setCell hg _).setCell hg _⟩
end Go.Big
namespace Go.Proofs.YtekghemhccfhkaaGreatDoor
open Go.RowKit Go.Big
theorem signed_same (b : Bool) (m k : Nat) : signed b (m + k) = signed b m + signed b k := by unfold signed; split <;> omega
theorem signed_sub {a b : Bool} {m k : Nat} (h : a ≠ b) (hle : k ≤ m) : signed a (m - k) = signed a m + signed b k := by
  unfold signed; cases a <;> cases b <;> simp at h ⊢ <;> omega
set_option maxRecDepth 100000 in
set_option maxHeartbeats 1000000 in
/-- addSizes -/
theorem addSizes_any {na nb : Bool} {va vb : Value} {m k K : Nat} {w : World} (ha : NatV w .u64 B64 va m) (hb : NatV w .u64 B64 vb k) (hK : K < 1099511627776) (hm : m < B64 ^ K) (hk : k < B64 ^ K) :
    Calls Tryz.prog 156 #[.bool na, va, .bool nb, vb] w (RetInt w (signed na m + signed nb k)) := by
  obtain ⟨w0, hw0, hb0, hx0, _⟩ := box1 w #[.int .i64 0, .pointer none] 63 (ip2 _ _)
  have HX := Lib.hid hx0
  have HB0 := Lib.hid hb0
  have ha0 := ha.below hb0
  have hbb0 := hb.below hb0
  clear hb0 hx0 ha hb
  by_cases he : na = nb
  · subst he
    have HE := Lib.hid (signed_same na m k)
    have HP := Lib.hid (plus_any ha0 hbb0 hK hm hk)
    have ht : (na == na) = true := by simp
    clear ha0 hbb0 hm hk
    go_enter Tryz.func156, Tryz.ntmps156
    go_wp2_with fail
    refine HP.out.mono ?_
    rintro e w1 ⟨v1, rfl, hv1, hb1⟩
    have HS := Lib.hid (signed_any na hv1)
    have HB1 := Lib.hid hb1
    clear hv1 hb1
    go_wp2_with fail
    refine HS.out.mono ?_
    rintro e w2 ⟨v, rfl, hv, hb2⟩
    have HBB := Lib.hid (below_trans HB1.out hb2)
    clear hb2
    have k1 := HX.out.below (HBB.out)
    obtain ⟨y, q, rfl⟩ := hv.two
    obtain ⟨z1, z2, z3⟩ := ret_box (w := w) k1 hv (below_trans HB0.out HBB.out) (Nat.le_refl _)
    have c0 := K2.c0 k1
    have c1 := K2.c1 k1
    have f0 := k1.frozen 0
    have f1 := k1.frozen 1
    have HZ := Lib.hid z3
    clear hv k1 z3
    go_wp2_with fail
    exact bodyPost_ret (v := .agg #[.int .i64 y, .pointer q]) (by simp [results, Tryz.results156, go_sem, z1, z2]) rfl (by rw [← HE.out]; exact HZ.out)
  · have ht : (na == nb) = false := by simpa using he
    rcases Nat.lt_or_ge m k with hlt | hge
    · have HE := Lib.hid (show signed nb (k - m) = signed na m + signed nb k by rw [Int.add_comm]; exact signed_sub (Ne.symm he) (by omega))
      have HC := Lib.hid (compare_at ha0 hbb0 (cmpInt_lt (by omega)))
      have HM := Lib.hid (And.intro ha0 (And.intro hbb0 (Nat.le_of_lt hlt)))
      clear ha0 hbb0 hm hk he hlt
      go_enter Tryz.func156, Tryz.ntmps156
      go_wp2_with fail
      refine HC.out.mono ?_
      rintro e w1 ⟨rfl, hb1⟩
      have HP := Lib.hid (minus_any (HM.out.2.1.below hb1) (HM.out.1.below hb1) HM.out.2.2)
      have HB1 := Lib.hid hb1
      clear hb1
      go_wp2_with fail
      refine HP.out.mono ?_
      rintro e w2 ⟨v1, rfl, hv1, hb2⟩
      have HS := Lib.hid (signed_any nb hv1)
      have HB2 := Lib.hid (below_trans HB1.out hb2)
      clear hv1 hb2
      go_wp2_with fail
      refine HS.out.mono ?_
      rintro e w3 ⟨v, rfl, hv, hb3⟩
      have HBB := Lib.hid (below_trans HB2.out hb3)
      clear hb3
      have k1 := HX.out.below (HBB.out)
      obtain ⟨y, q, rfl⟩ := hv.two
      obtain ⟨z1, z2, z3⟩ := ret_box (w := w) k1 hv (below_trans HB0.out HBB.out) (Nat.le_refl _)
      have c0 := K2.c0 k1
      have c1 := K2.c1 k1
      have f0 := k1.frozen 0
      have f1 := k1.frozen 1
      have HZ := Lib.hid z3
      clear hv k1 z3
      go_wp2_with fail
      exact bodyPost_ret (v := .agg #[.int .i64 y, .pointer q]) (by simp [results, Tryz.results156, go_sem, z1, z2]) rfl (by rw [← HE.out]; exact HZ.out)
    · have HE := Lib.hid (show signed na (m - k) = signed na m + signed nb k from signed_sub he hge)
      obtain ⟨v, hv0, hv⟩ : ∃ v : Int, 0 ≤ v ∧ cmpInt m k = v := by
        refine ⟨cmpInt m k, ?_, rfl⟩
        unfold cmpInt
        rw [if_neg (by omega)]
        split <;> decide
      have HC := Lib.hid (compare_at ha0 hbb0 hv)
      have HM := Lib.hid (And.intro ha0 (And.intro hbb0 hge))
      clear ha0 hbb0 hm hk he hge hv
      go_enter Tryz.func156, Tryz.ntmps156
      go_wp2_with fail
      refine HC.out.mono ?_
      rintro e w1 ⟨rfl, hb1⟩
      have HP := Lib.hid (minus_any (HM.out.1.below hb1) (HM.out.2.1.below hb1) HM.out.2.2)
      have HB1 := Lib.hid hb1
      clear hb1
      go_wp2_with fail
      refine HP.out.mono ?_
      rintro e w2 ⟨v1, rfl, hv1, hb2⟩
      have HS := Lib.hid (signed_any na hv1)
      have HB2 := Lib.hid (below_trans HB1.out hb2)
      clear hv1 hb2
      go_wp2_with fail
      refine HS.out.mono ?_
      rintro e w3 ⟨v, rfl, hv, hb3⟩
      have HBB := Lib.hid (below_trans HB2.out hb3)
      clear hb3
      have k1 := HX.out.below (HBB.out)
      obtain ⟨y, q, rfl⟩ := hv.two
      obtain ⟨z1, z2, z3⟩ := ret_box (w := w) k1 hv (below_trans HB0.out HBB.out) (Nat.le_refl _)
      have c0 := K2.c0 k1
      have c1 := K2.c1 k1
      have f0 := k1.frozen 0
      have f1 := k1.frozen 1
      have HZ := Lib.hid z3
      clear hv k1 z3
      go_wp2_with fail
      exact bodyPost_ret (v := .agg #[.int .i64 y, .pointer q]) (by simp [results, Tryz.results156, go_sem, z1, z2]) rfl (by rw [← HE.out]; exact HZ.out)
end Go.Proofs.YtekghemhccfhkaaGreatDoor
namespace Go.Big
open Go Go.RowKit
theorem signed_nat (n : Int) : signed (decide (n < 0)) n.natAbs = n := signed_abs n
theorem add_ovf {n m : Int} (hn : IsS n) (hm : IsS m) (h : ¬ IsS (n + m)) : (decide (n < wrap64 (n + m)) == decide (0 < m)) = false := by
  unfold IsS at *
  by_cases h0 : 0 < m
  · have e : wrap64 (n + m) = n + m - 18446744073709551616 := by unfold wrap64; omega
    rw [e, decide_eq_false (by omega), decide_eq_true h0]; rfl
  · have e : wrap64 (n + m) = n + m + 18446744073709551616 := by unfold wrap64; omega
    rw [e, decide_eq_true (by omega), decide_eq_false h0]; rfl
theorem sub_ovf {n m : Int} (hn : IsS n) (hm : IsS m) (h : ¬ IsS (n - m)) : (decide (wrap64 (n - m) < n) == decide (0 < m)) = false := by
  unfold IsS at *
  by_cases h0 : 0 < m
  · have e : wrap64 (n - m) = n - m + 18446744073709551616 := by unfold wrap64; omega
    rw [e, decide_eq_false (by omega), decide_eq_true h0]; rfl
  · have e : wrap64 (n - m) = n - m - 18446744073709551616 := by unfold wrap64; omega
    rw [e, decide_eq_true (by omega), decide_eq_false h0]; rfl
end Go.Big
namespace Go.Proofs.YtekghemhccfhkaaGreatDoor
open Go.RowKit Go.Big
set_option maxRecDepth 100000 in
set_option maxHeartbeats 1000000 in
theorem add_big {x y : Int} {p q : Option Addr} {n m : Int} {K : Nat} {w : World} (hx : IntV w (.agg #[.int .i64 x, .pointer p]) n) (hy : IntV w (.agg #[.int .i64 y, .pointer q]) m) (hc : p = none → q = none → (decide (x < wrap64 (x + y)) == decide (0 < y)) = false)
    (hK : K < 1099511627776) (hn : n.natAbs < B64 ^ K) (hm : m.natAbs < B64 ^ K) : Calls Tryz.prog 123 #[.agg #[.int .i64 x, .pointer p], .agg #[.int .i64 y, .pointer q]] w (RetInt w (n + m)) := by
  obtain ⟨w0, hw0, hb0, kx, ky, k2, hsz⟩ := three_boxes w x p y q
  have HVX := Lib.hid hx
  have HVY := Lib.hid hy
  have e1 := kx.c0
  have e2 := kx.c1
  have e3 := ky.c0
  have e4 := ky.c1
  have s1 : w0.drew.cell? ⟨w.heap.size, 0, none⟩ = some (.int .i64 x) := kx.c0
  have s2 : w0.drew.cell? ⟨w.heap.size, 1, none⟩ = some (.pointer p) := kx.c1
  have s3 : w0.drew.cell? ⟨w.heap.size + 1, 0, none⟩ = some (.int .i64 y) := ky.c0
  have s4 : w0.drew.cell? ⟨w.heap.size + 1, 1, none⟩ = some (.pointer q) := ky.c1
  have s5 := hb0.drew
  have k2 : K2 (w.heap.size + 2) 0 none w0.drew := k2
  have HSZ := Lib.hid hsz
  have HC := Lib.hid hc
  have HK := Lib.hid (And.intro hn hm)
  clear hc hn hm
  clear kx ky hb0 hx hy hsz
  cases p with
  | none =>
    cases q with
    | none =>
      have ht := HC.out rfl rfl
      go_enter Tryz.func123, Tryz.ntmps123
      go_wp2_with fail
      go_region_held3 (fun w' => w'.cell? ⟨w.heap.size, 0, none⟩ = some (.int .i64 x) ∧ w'.cell? ⟨w.heap.size, 1, none⟩ = some (.pointer none) ∧ w'.cell? ⟨w.heap.size + 1, 0, none⟩ = some (.int .i64 y) ∧ w'.cell? ⟨w.heap.size + 1, 1, none⟩ = some (.pointer none) ∧ Below w.heap.size w w') (first | exact ⟨s1, s2, s3, s4, s5⟩ | exact s_store4 s1 s2 s3 s4 s5 (by omega) (by omega) (by omega) | fail) (first | (go_at_call 112; (with_reducible refine (negative_any (HVX.out.below s5)).mono ?_); rintro e w1 ⟨rfl, hb1⟩; obtain ⟨s1, s2, s3, s4, s5⟩ := s_step4 s1 s2 s3 s4 s5 hb1; have k2 := k2.below hb1) | (go_at_call 114; (with_reducible refine (natural_any (HVX.out.below s5)).mono ?_); rintro e w2 ⟨v2, rfl, hv2, hb2⟩; obtain ⟨s1, s2, s3, s4, s5⟩ := s_step4 s1 s2 s3 s4 s5 hb2; have k2 := k2.below hb2) | (go_at_call 112; (with_reducible refine (negative_any (HVY.out.below s5)).mono ?_); rintro e w3 ⟨rfl, hb3⟩; obtain ⟨s1, s2, s3, s4, s5⟩ := s_step4 s1 s2 s3 s4 s5 hb3; have k2 := k2.below hb3; have hv2 := hv2.below hb3) | (go_at_call 114; (with_reducible refine (natural_any (HVY.out.below s5)).mono ?_); rintro e w4 ⟨v4, rfl, hv4, hb4⟩; obtain ⟨s1, s2, s3, s4, s5⟩ := s_step4 s1 s2 s3 s4 s5 hb4; have k2 := k2.below hb4; have hv2 := hv2.below hb4) | (go_at_call 156; (with_reducible refine (addSizes_any hv2 hv4 hK HK.out.1 HK.out.2).mono ?_); rintro e w5 ⟨v5, rfl, hv5, hb5⟩; obtain ⟨s1, s2, s3, s4, s5⟩ := s_step4 s1 s2 s3 s4 s5 hb5; have k2 := k2.below hb5; obtain ⟨y', q', rfl⟩ := hv5.two; have c0 := k2.c0; have c1 := k2.c1; have f0 := k2.f 0; have f1 := k2.f 1) | fail)
      obtain ⟨z1, z2, z3⟩ := ret_box k2 hv5 s5 (by omega)
      rw [signed_nat, signed_nat] at z3
      have HZ := Lib.hid z3
      clear s1 s2 s3 s4 s5 k2 c0 c1 f0 f1 hv2 hv4 hv5 hb1 hb2 hb3 hb4 hb5 z3
      go_wp2_with fail
      exact bodyPost_ret (v := .agg #[.int .i64 y', .pointer q']) (by simp [results, Tryz.results123, go_sem, z1, z2]) rfl HZ.out
    | some b =>
      go_enter Tryz.func123, Tryz.ntmps123
      go_wp2_with fail
      go_region_held3 (fun w' => w'.cell? ⟨w.heap.size, 0, none⟩ = some (.int .i64 x) ∧ w'.cell? ⟨w.heap.size, 1, none⟩ = some (.pointer none) ∧ w'.cell? ⟨w.heap.size + 1, 0, none⟩ = some (.int .i64 y) ∧ w'.cell? ⟨w.heap.size + 1, 1, none⟩ = some (.pointer (some b)) ∧ Below w.heap.size w w') (first | exact ⟨s1, s2, s3, s4, s5⟩ | exact s_store4 s1 s2 s3 s4 s5 (by omega) (by omega) (by omega) | fail) (first | (go_at_call 112; (with_reducible refine (negative_any (HVX.out.below s5)).mono ?_); rintro e w1 ⟨rfl, hb1⟩; obtain ⟨s1, s2, s3, s4, s5⟩ := s_step4 s1 s2 s3 s4 s5 hb1; have k2 := k2.below hb1) | (go_at_call 114; (with_reducible refine (natural_any (HVX.out.below s5)).mono ?_); rintro e w2 ⟨v2, rfl, hv2, hb2⟩; obtain ⟨s1, s2, s3, s4, s5⟩ := s_step4 s1 s2 s3 s4 s5 hb2; have k2 := k2.below hb2) | (go_at_call 112; (with_reducible refine (negative_any (HVY.out.below s5)).mono ?_); rintro e w3 ⟨rfl, hb3⟩; obtain ⟨s1, s2, s3, s4, s5⟩ := s_step4 s1 s2 s3 s4 s5 hb3; have k2 := k2.below hb3; have hv2 := hv2.below hb3) | (go_at_call 114; (with_reducible refine (natural_any (HVY.out.below s5)).mono ?_); rintro e w4 ⟨v4, rfl, hv4, hb4⟩; obtain ⟨s1, s2, s3, s4, s5⟩ := s_step4 s1 s2 s3 s4 s5 hb4; have k2 := k2.below hb4; have hv2 := hv2.below hb4) | (go_at_call 156; (with_reducible refine (addSizes_any hv2 hv4 hK HK.out.1 HK.out.2).mono ?_); rintro e w5 ⟨v5, rfl, hv5, hb5⟩; obtain ⟨s1, s2, s3, s4, s5⟩ := s_step4 s1 s2 s3 s4 s5 hb5; have k2 := k2.below hb5; obtain ⟨y', q', rfl⟩ := hv5.two; have c0 := k2.c0; have c1 := k2.c1; have f0 := k2.f 0; have f1 := k2.f 1) | fail)
      obtain ⟨z1, z2, z3⟩ := ret_box k2 hv5 s5 (by omega)
      rw [signed_nat, signed_nat] at z3
      have HZ := Lib.hid z3
      clear s1 s2 s3 s4 s5 k2 c0 c1 f0 f1 hv2 hv4 hv5 hb1 hb2 hb3 hb4 hb5 z3
      go_wp2_with fail
      exact bodyPost_ret (v := .agg #[.int .i64 y', .pointer q']) (by simp [results, Tryz.results123, go_sem, z1, z2]) rfl HZ.out
  | some a =>
      go_enter Tryz.func123, Tryz.ntmps123
      go_wp2_with fail
      go_region_held3 (fun w' => w'.cell? ⟨w.heap.size, 0, none⟩ = some (.int .i64 x) ∧ w'.cell? ⟨w.heap.size, 1, none⟩ = some (.pointer (some a)) ∧ w'.cell? ⟨w.heap.size + 1, 0, none⟩ = some (.int .i64 y) ∧ w'.cell? ⟨w.heap.size + 1, 1, none⟩ = some (.pointer q) ∧ Below w.heap.size w w') (first | exact ⟨s1, s2, s3, s4, s5⟩ | exact s_store4 s1 s2 s3 s4 s5 (by omega) (by omega) (by omega) | fail) (first | (go_at_call 112; (with_reducible refine (negative_any (HVX.out.below s5)).mono ?_); rintro e w1 ⟨rfl, hb1⟩; obtain ⟨s1, s2, s3, s4, s5⟩ := s_step4 s1 s2 s3 s4 s5 hb1; have k2 := k2.below hb1) | (go_at_call 114; (with_reducible refine (natural_any (HVX.out.below s5)).mono ?_); rintro e w2 ⟨v2, rfl, hv2, hb2⟩; obtain ⟨s1, s2, s3, s4, s5⟩ := s_step4 s1 s2 s3 s4 s5 hb2; have k2 := k2.below hb2) | (go_at_call 112; (with_reducible refine (negative_any (HVY.out.below s5)).mono ?_); rintro e w3 ⟨rfl, hb3⟩; obtain ⟨s1, s2, s3, s4, s5⟩ := s_step4 s1 s2 s3 s4 s5 hb3; have k2 := k2.below hb3; have hv2 := hv2.below hb3) | (go_at_call 114; (with_reducible refine (natural_any (HVY.out.below s5)).mono ?_); rintro e w4 ⟨v4, rfl, hv4, hb4⟩; obtain ⟨s1, s2, s3, s4, s5⟩ := s_step4 s1 s2 s3 s4 s5 hb4; have k2 := k2.below hb4; have hv2 := hv2.below hb4) | (go_at_call 156; (with_reducible refine (addSizes_any hv2 hv4 hK HK.out.1 HK.out.2).mono ?_); rintro e w5 ⟨v5, rfl, hv5, hb5⟩; obtain ⟨s1, s2, s3, s4, s5⟩ := s_step4 s1 s2 s3 s4 s5 hb5; have k2 := k2.below hb5; obtain ⟨y', q', rfl⟩ := hv5.two; have c0 := k2.c0; have c1 := k2.c1; have f0 := k2.f 0; have f1 := k2.f 1) | fail)
      obtain ⟨z1, z2, z3⟩ := ret_box k2 hv5 s5 (by omega)
      rw [signed_nat, signed_nat] at z3
      have HZ := Lib.hid z3
      clear s1 s2 s3 s4 s5 k2 c0 c1 f0 f1 hv2 hv4 hv5 hb1 hb2 hb3 hb4 hb5 z3
      go_wp2_with fail
      exact bodyPost_ret (v := .agg #[.int .i64 y', .pointer q']) (by simp [results, Tryz.results123, go_sem, z1, z2]) rfl HZ.out
set_option maxRecDepth 100000 in
set_option maxHeartbeats 1000000 in
theorem add_small {n m : Int} (_ : IsS n) (_ : IsS m) (hr : IsS (n + m)) (w : World) : Calls Tryz.prog 123 #[.agg #[.int .i64 n, .pointer none], .agg #[.int .i64 m, .pointer none]] w (RetInt w (n + m)) := by
  have hw : wrap64 (n + m) = n + m := IntWalk.wrap64_in _ hr
  have ht : (decide (n < wrap64 (n + m)) == decide (0 < m)) = true := by rw [hw, beq_iff_eq]; rw [Bool.eq_iff_iff]; simp; omega
  have HW := Lib.hid hw
  have HR := Lib.hid hr
  clear hw hr
  go_enter Tryz.func123, Tryz.ntmps123
  go_wp2_with fail
  rw [HW.out]
  exact bodyPost_ret (v := smInt (n + m)) (by simp [results, Tryz.results123, go_sem, smInt]) rfl ⟨_, rfl, .inl ⟨HR.out, rfl⟩, below3 _ _ _ _⟩
set_option maxRecDepth 100000 in
set_option maxHeartbeats 1000000 in
theorem addI_any {vx vy : Value} {n m : Int} {K : Nat} {w : World} (hx : IntV w vx n) (hy : IntV w vy m) (hK : K < 1099511627776) (hn : n.natAbs < B64 ^ K) (hm : m.natAbs < B64 ^ K) :
    Calls Tryz.prog 123 #[vx, vy] w (RetInt w (n + m)) := by
  rcases hx.cs with ⟨sx, rfl⟩ | ⟨a, rfl, lx, nx⟩
  · rcases hy.cs with ⟨sy, rfl⟩ | ⟨b, rfl, ly, ny⟩
    · by_cases hr : IsS (n + m)
      · exact add_small sx sy hr w
      · exact add_big hx hy (fun _ _ => add_ovf sx sy hr) hK hn hm
    · exact add_big hx hy (fun _ h => by cases h) hK hn hm
  · obtain ⟨y, q, rfl⟩ := hy.two
    exact add_big hx hy (fun h _ => by cases h) hK hn hm
set_option maxRecDepth 100000 in
set_option maxHeartbeats 1000000 in
theorem sub_big {x y : Int} {p q : Option Addr} {n m : Int} {K : Nat} {w : World} (hx : IntV w (.agg #[.int .i64 x, .pointer p]) n) (hy : IntV w (.agg #[.int .i64 y, .pointer q]) m) (hc : p = none → q = none → (decide (wrap64 (x - y) < x) == decide (0 < y)) = false)
    (hK : K < 1099511627776) (hn : n.natAbs < B64 ^ K) (hm : m.natAbs < B64 ^ K) : Calls Tryz.prog 161 #[.agg #[.int .i64 x, .pointer p], .agg #[.int .i64 y, .pointer q]] w (RetInt w (n - m)) := by
  obtain ⟨w0, hw0, hb0, kx, ky, k2, hsz⟩ := three_boxes w x p y q
  have HVX := Lib.hid hx
  have HVY := Lib.hid hy
  have e1 := kx.c0
  have e2 := kx.c1
  have e3 := ky.c0
  have e4 := ky.c1
  have s1 : w0.drew.cell? ⟨w.heap.size, 0, none⟩ = some (.int .i64 x) := kx.c0
  have s2 : w0.drew.cell? ⟨w.heap.size, 1, none⟩ = some (.pointer p) := kx.c1
  have s3 : w0.drew.cell? ⟨w.heap.size + 1, 0, none⟩ = some (.int .i64 y) := ky.c0
  have s4 : w0.drew.cell? ⟨w.heap.size + 1, 1, none⟩ = some (.pointer q) := ky.c1
  have s5 := hb0.drew
  have k2 : K2 (w.heap.size + 2) 0 none w0.drew := k2
  have HSZ := Lib.hid hsz
  have HC := Lib.hid hc
  have HK := Lib.hid (And.intro hn hm)
  clear hc hn hm
  clear kx ky hb0 hx hy hsz
  cases p with
  | none =>
    cases q with
    | none =>
      have ht := HC.out rfl rfl
      go_enter Tryz.func161, Tryz.ntmps161
      go_wp2_with fail
      go_region_held3 (fun w' => w'.cell? ⟨w.heap.size, 0, none⟩ = some (.int .i64 x) ∧ w'.cell? ⟨w.heap.size, 1, none⟩ = some (.pointer none) ∧ w'.cell? ⟨w.heap.size + 1, 0, none⟩ = some (.int .i64 y) ∧ w'.cell? ⟨w.heap.size + 1, 1, none⟩ = some (.pointer none) ∧ Below w.heap.size w w') (first | exact ⟨s1, s2, s3, s4, s5⟩ | exact s_store4 s1 s2 s3 s4 s5 (by omega) (by omega) (by omega) | fail) (first | (go_at_call 112; (with_reducible refine (negative_any (HVX.out.below s5)).mono ?_); rintro e w1 ⟨rfl, hb1⟩; obtain ⟨s1, s2, s3, s4, s5⟩ := s_step4 s1 s2 s3 s4 s5 hb1; have k2 := k2.below hb1) | (go_at_call 114; (with_reducible refine (natural_any (HVX.out.below s5)).mono ?_); rintro e w2 ⟨v2, rfl, hv2, hb2⟩; obtain ⟨s1, s2, s3, s4, s5⟩ := s_step4 s1 s2 s3 s4 s5 hb2; have k2 := k2.below hb2) | (go_at_call 112; (with_reducible refine (negative_any (HVY.out.below s5)).mono ?_); rintro e w3 ⟨rfl, hb3⟩; obtain ⟨s1, s2, s3, s4, s5⟩ := s_step4 s1 s2 s3 s4 s5 hb3; have k2 := k2.below hb3; have hv2 := hv2.below hb3) | (go_at_call 114; (with_reducible refine (natural_any (HVY.out.below s5)).mono ?_); rintro e w4 ⟨v4, rfl, hv4, hb4⟩; obtain ⟨s1, s2, s3, s4, s5⟩ := s_step4 s1 s2 s3 s4 s5 hb4; have k2 := k2.below hb4; have hv2 := hv2.below hb4) | (go_at_call 156; (with_reducible refine (addSizes_any hv2 hv4 hK HK.out.1 HK.out.2).mono ?_); rintro e w5 ⟨v5, rfl, hv5, hb5⟩; obtain ⟨s1, s2, s3, s4, s5⟩ := s_step4 s1 s2 s3 s4 s5 hb5; have k2 := k2.below hb5; obtain ⟨y', q', rfl⟩ := hv5.two; have c0 := k2.c0; have c1 := k2.c1; have f0 := k2.f 0; have f1 := k2.f 1) | fail)
      obtain ⟨z1, z2, z3⟩ := ret_box k2 hv5 s5 (by omega)
      rw [signed_nat, signed_not, ← Int.sub_eq_add_neg] at z3
      have HZ := Lib.hid z3
      clear s1 s2 s3 s4 s5 k2 c0 c1 f0 f1 hv2 hv4 hv5 hb1 hb2 hb3 hb4 hb5 z3
      go_wp2_with fail
      exact bodyPost_ret (v := .agg #[.int .i64 y', .pointer q']) (by simp [results, Tryz.results161, go_sem, z1, z2]) rfl HZ.out
    | some b =>
      go_enter Tryz.func161, Tryz.ntmps161
      go_wp2_with fail
      go_region_held3 (fun w' => w'.cell? ⟨w.heap.size, 0, none⟩ = some (.int .i64 x) ∧ w'.cell? ⟨w.heap.size, 1, none⟩ = some (.pointer none) ∧ w'.cell? ⟨w.heap.size + 1, 0, none⟩ = some (.int .i64 y) ∧ w'.cell? ⟨w.heap.size + 1, 1, none⟩ = some (.pointer (some b)) ∧ Below w.heap.size w w') (first | exact ⟨s1, s2, s3, s4, s5⟩ | exact s_store4 s1 s2 s3 s4 s5 (by omega) (by omega) (by omega) | fail) (first | (go_at_call 112; (with_reducible refine (negative_any (HVX.out.below s5)).mono ?_); rintro e w1 ⟨rfl, hb1⟩; obtain ⟨s1, s2, s3, s4, s5⟩ := s_step4 s1 s2 s3 s4 s5 hb1; have k2 := k2.below hb1) | (go_at_call 114; (with_reducible refine (natural_any (HVX.out.below s5)).mono ?_); rintro e w2 ⟨v2, rfl, hv2, hb2⟩; obtain ⟨s1, s2, s3, s4, s5⟩ := s_step4 s1 s2 s3 s4 s5 hb2; have k2 := k2.below hb2) | (go_at_call 112; (with_reducible refine (negative_any (HVY.out.below s5)).mono ?_); rintro e w3 ⟨rfl, hb3⟩; obtain ⟨s1, s2, s3, s4, s5⟩ := s_step4 s1 s2 s3 s4 s5 hb3; have k2 := k2.below hb3; have hv2 := hv2.below hb3) | (go_at_call 114; (with_reducible refine (natural_any (HVY.out.below s5)).mono ?_); rintro e w4 ⟨v4, rfl, hv4, hb4⟩; obtain ⟨s1, s2, s3, s4, s5⟩ := s_step4 s1 s2 s3 s4 s5 hb4; have k2 := k2.below hb4; have hv2 := hv2.below hb4) | (go_at_call 156; (with_reducible refine (addSizes_any hv2 hv4 hK HK.out.1 HK.out.2).mono ?_); rintro e w5 ⟨v5, rfl, hv5, hb5⟩; obtain ⟨s1, s2, s3, s4, s5⟩ := s_step4 s1 s2 s3 s4 s5 hb5; have k2 := k2.below hb5; obtain ⟨y', q', rfl⟩ := hv5.two; have c0 := k2.c0; have c1 := k2.c1; have f0 := k2.f 0; have f1 := k2.f 1) | fail)
      obtain ⟨z1, z2, z3⟩ := ret_box k2 hv5 s5 (by omega)
      rw [signed_nat, signed_not, ← Int.sub_eq_add_neg] at z3
      have HZ := Lib.hid z3
      clear s1 s2 s3 s4 s5 k2 c0 c1 f0 f1 hv2 hv4 hv5 hb1 hb2 hb3 hb4 hb5 z3
      go_wp2_with fail
      exact bodyPost_ret (v := .agg #[.int .i64 y', .pointer q']) (by simp [results, Tryz.results161, go_sem, z1, z2]) rfl HZ.out
  | some a =>
      go_enter Tryz.func161, Tryz.ntmps161
      go_wp2_with fail
      go_region_held3 (fun w' => w'.cell? ⟨w.heap.size, 0, none⟩ = some (.int .i64 x) ∧ w'.cell? ⟨w.heap.size, 1, none⟩ = some (.pointer (some a)) ∧ w'.cell? ⟨w.heap.size + 1, 0, none⟩ = some (.int .i64 y) ∧ w'.cell? ⟨w.heap.size + 1, 1, none⟩ = some (.pointer q) ∧ Below w.heap.size w w') (first | exact ⟨s1, s2, s3, s4, s5⟩ | exact s_store4 s1 s2 s3 s4 s5 (by omega) (by omega) (by omega) | fail) (first | (go_at_call 112; (with_reducible refine (negative_any (HVX.out.below s5)).mono ?_); rintro e w1 ⟨rfl, hb1⟩; obtain ⟨s1, s2, s3, s4, s5⟩ := s_step4 s1 s2 s3 s4 s5 hb1; have k2 := k2.below hb1) | (go_at_call 114; (with_reducible refine (natural_any (HVX.out.below s5)).mono ?_); rintro e w2 ⟨v2, rfl, hv2, hb2⟩; obtain ⟨s1, s2, s3, s4, s5⟩ := s_step4 s1 s2 s3 s4 s5 hb2; have k2 := k2.below hb2) | (go_at_call 112; (with_reducible refine (negative_any (HVY.out.below s5)).mono ?_); rintro e w3 ⟨rfl, hb3⟩; obtain ⟨s1, s2, s3, s4, s5⟩ := s_step4 s1 s2 s3 s4 s5 hb3; have k2 := k2.below hb3; have hv2 := hv2.below hb3) | (go_at_call 114; (with_reducible refine (natural_any (HVY.out.below s5)).mono ?_); rintro e w4 ⟨v4, rfl, hv4, hb4⟩; obtain ⟨s1, s2, s3, s4, s5⟩ := s_step4 s1 s2 s3 s4 s5 hb4; have k2 := k2.below hb4; have hv2 := hv2.below hb4) | (go_at_call 156; (with_reducible refine (addSizes_any hv2 hv4 hK HK.out.1 HK.out.2).mono ?_); rintro e w5 ⟨v5, rfl, hv5, hb5⟩; obtain ⟨s1, s2, s3, s4, s5⟩ := s_step4 s1 s2 s3 s4 s5 hb5; have k2 := k2.below hb5; obtain ⟨y', q', rfl⟩ := hv5.two; have c0 := k2.c0; have c1 := k2.c1; have f0 := k2.f 0; have f1 := k2.f 1) | fail)
      obtain ⟨z1, z2, z3⟩ := ret_box k2 hv5 s5 (by omega)
      rw [signed_nat, signed_not, ← Int.sub_eq_add_neg] at z3
      have HZ := Lib.hid z3
      clear s1 s2 s3 s4 s5 k2 c0 c1 f0 f1 hv2 hv4 hv5 hb1 hb2 hb3 hb4 hb5 z3
      go_wp2_with fail
      exact bodyPost_ret (v := .agg #[.int .i64 y', .pointer q']) (by simp [results, Tryz.results161, go_sem, z1, z2]) rfl HZ.out
set_option maxRecDepth 100000 in
set_option maxHeartbeats 1000000 in
theorem sub_small {n m : Int} (_ : IsS n) (_ : IsS m) (hr : IsS (n - m)) (w : World) : Calls Tryz.prog 161 #[.agg #[.int .i64 n, .pointer none], .agg #[.int .i64 m, .pointer none]] w (RetInt w (n - m)) := by
  have hw : wrap64 (n - m) = n - m := IntWalk.wrap64_in _ hr
  have ht : (decide (wrap64 (n - m) < n) == decide (0 < m)) = true := by rw [hw, beq_iff_eq]; rw [Bool.eq_iff_iff]; simp; omega
  have HW := Lib.hid hw
  have HR := Lib.hid hr
  clear hw hr
  go_enter Tryz.func161, Tryz.ntmps161
  go_wp2_with fail
  rw [HW.out]
  exact bodyPost_ret (v := smInt (n - m)) (by simp [results, Tryz.results161, go_sem, smInt]) rfl ⟨_, rfl, .inl ⟨HR.out, rfl⟩, below3 _ _ _ _⟩
set_option maxRecDepth 100000 in
set_option maxHeartbeats 1000000 in
theorem subI_any {vx vy : Value} {n m : Int} {K : Nat} {w : World} (hx : IntV w vx n) (hy : IntV w vy m) (hK : K < 1099511627776) (hn : n.natAbs < B64 ^ K) (hm : m.natAbs < B64 ^ K) :
    Calls Tryz.prog 161 #[vx, vy] w (RetInt w (n - m)) := by
  rcases hx.cs with ⟨sx, rfl⟩ | ⟨a, rfl, lx, nx⟩
  · rcases hy.cs with ⟨sy, rfl⟩ | ⟨b, rfl, ly, ny⟩
    · by_cases hr : IsS (n - m)
      · exact sub_small sx sy hr w
      · exact sub_big hx hy (fun _ _ => sub_ovf sx sy hr) hK hn hm
    · exact sub_big hx hy (fun _ h => by cases h) hK hn hm
  · obtain ⟨y, q, rfl⟩ := hy.two
    exact sub_big hx hy (fun h _ => by cases h) hK hn hm
end Go.Proofs.YtekghemhccfhkaaGreatDoor
