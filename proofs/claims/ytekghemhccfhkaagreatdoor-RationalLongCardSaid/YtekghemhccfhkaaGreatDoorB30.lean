/-
  Walks of the program's functions: IntF, IntG.
-/
import Derived.Test.YtekghemhccfhkaaGreatDoorB29
import Derived.IntWalk
namespace Go.Big
open Go Go.RowKit
theorem signed_nat (n : Int) : signed (decide (n < 0)) n.natAbs = n := signed_abs n
theorem add_ovf {n m : Int} (hn : IsS n) (hm : IsS m) (h : ¬ IsS (n + m)) : (decide (n < wrap64 (n + m)) == decide (0 < m)) = false := by
  unfold IsS at *
  by_cases h0 : 0 < m
  · have e : wrap64 (n + m) = n + m - 18446744073709551616 := by unfold wrap64; omega
    rw [e, decide_eq_false (by omega), decide_eq_true h0]; rfl
  · have e : wrap64 (n + m) = n + m + 18446744073709551616 := by unfold wrap64; omega
    rw [e, decide_eq_true (by omega), decide_eq_false h0]; rfl
theorem sub_ovf {n m : Int} (hn : IsS n) (hm : IsS m) (h : ¬ IsS (n - m)) : (decide (wrap64 (n - m) < n) == decide (0 < m)) = false := by
  unfold IsS at *
  by_cases h0 : 0 < m
  · have e : wrap64 (n - m) = n - m + 18446744073709551616 := by unfold wrap64; omega
    rw [e, decide_eq_false (by omega), decide_eq_true h0]; rfl
  · have e : wrap64 (n - m) = n - m - 18446744073709551616 := by unfold wrap64; omega
    rw [e, decide_eq_true (by omega), decide_eq_false h0]; rfl
end Go.Big
namespace Go.Proofs.YtekghemhccfhkaaGreatDoor
open Go.RowKit Go.Big
set_option maxRecDepth 100000 in
set_option maxHeartbeats 1000000 in
theorem add_big {x y : Int} {p q : Option Addr} {n m : Int} {K : Nat} {w : World} (hx : IntV w (.agg #[.int .i64 x, .pointer p]) n) (hy : IntV w (.agg #[.int .i64 y, .pointer q]) m) (hc : p = none → q = none → (decide (x < wrap64 (x + y)) == decide (0 < y)) = false)
    (hK : K < 1099511627776) (hn : n.natAbs < B64 ^ K) (hm : m.natAbs < B64 ^ K) : Calls Tryz.prog 123 #[.agg #[.int .i64 x, .pointer p], .agg #[.int .i64 y, .pointer q]] w (RetInt w (n + m)) := by
  obtain ⟨w0, hw0, hb0, kx, ky, k2, hsz⟩ := three_boxes w x p y q
  have HVX := Lib.hid hx
  have HVY := Lib.hid hy
  have e1 := kx.c0
  have e2 := kx.c1
  have e3 := ky.c0
  have e4 := ky.c1
  have s1 : w0.drew.cell? ⟨w.heap.size, 0, none⟩ = some (.int .i64 x) := kx.c0
  have s2 : w0.drew.cell? ⟨w.heap.size, 1, none⟩ = some (.pointer p) := kx.c1
  have s3 : w0.drew.cell? ⟨w.heap.size + 1, 0, none⟩ = some (.int .i64 y) := ky.c0
  have s4 : w0.drew.cell? ⟨w.heap.size + 1, 1, none⟩ = some (.pointer q) := ky.c1
  have s5 := hb0.drew
  have k2 : K2 (w.heap.size + 2) 0 none w0.drew := k2
  have HSZ := Lib.hid hsz
  have HC := Lib.hid hc
  have HK := Lib.hid (And.intro hn hm)
  clear hc hn hm
  clear kx ky hb0 hx hy hsz
  cases p with
  | none =>
    cases q with
    | none =>
      have ht := HC.out rfl rfl
      go_enter Tryz.func123, Tryz.ntmps123
      go_wp2_with fail
      go_region_held3 (fun w' => w'.cell? ⟨w.heap.size, 0, none⟩ = some (.int .i64 x) ∧ w'.cell? ⟨w.heap.size, 1, none⟩ = some (.pointer none) ∧ w'.cell? ⟨w.heap.size + 1, 0, none⟩ = some (.int .i64 y) ∧ w'.cell? ⟨w.heap.size + 1, 1, none⟩ = some (.pointer none) ∧ Below w.heap.size w w') (first | exact ⟨s1, s2, s3, s4, s5⟩ | exact s_store4 s1 s2 s3 s4 s5 (by omega) (by omega) (by omega) | fail) (first | (go_at_call 112; (with_reducible refine (negative_any (HVX.out.below s5)).mono ?_); rintro e w1 ⟨rfl, hb1⟩; obtain ⟨s1, s2, s3, s4, s5⟩ := s_step4 s1 s2 s3 s4 s5 hb1; have k2 := k2.below hb1) | (go_at_call 114; (with_reducible refine (natural_any (HVX.out.below s5)).mono ?_); rintro e w2 ⟨v2, rfl, hv2, hb2⟩; obtain ⟨s1, s2, s3, s4, s5⟩ := s_step4 s1 s2 s3 s4 s5 hb2; have k2 := k2.below hb2) | (go_at_call 112; (with_reducible refine (negative_any (HVY.out.below s5)).mono ?_); rintro e w3 ⟨rfl, hb3⟩; obtain ⟨s1, s2, s3, s4, s5⟩ := s_step4 s1 s2 s3 s4 s5 hb3; have k2 := k2.below hb3; have hv2 := hv2.below hb3) | (go_at_call 114; (with_reducible refine (natural_any (HVY.out.below s5)).mono ?_); rintro e w4 ⟨v4, rfl, hv4, hb4⟩; obtain ⟨s1, s2, s3, s4, s5⟩ := s_step4 s1 s2 s3 s4 s5 hb4; have k2 := k2.below hb4; have hv2 := hv2.below hb4) | (go_at_call 156; (with_reducible refine (addSizes_any hv2 hv4 hK HK.out.1 HK.out.2).mono ?_); rintro e w5 ⟨v5, rfl, hv5, hb5⟩; obtain ⟨s1, s2, s3, s4, s5⟩ := s_step4 s1 s2 s3 s4 s5 hb5; have k2 := k2.below hb5; obtain ⟨y', q', rfl⟩ := hv5.two; have c0 := k2.c0; have c1 := k2.c1; have f0 := k2.f 0; have f1 := k2.f 1) | fail)
      obtain ⟨z1, z2, z3⟩ := ret_box k2 hv5 s5 (by omega)
      rw [signed_nat, signed_nat] at z3
      have HZ := Lib.hid z3
      clear s1 s2 s3 s4 s5 k2 c0 c1 f0 f1 hv2 hv4 hv5 hb1 hb2 hb3 hb4 hb5 z3
      go_wp2_with fail
      exact bodyPost_ret (v := .agg #[.int .i64 y', .pointer q']) (by simp [results, Tryz.results123, go_sem, z1, z2]) rfl HZ.out
    | some b =>
      go_enter Tryz.func123, Tryz.ntmps123
      go_wp2_with fail
      go_region_held3 (fun w' => w'.cell? ⟨w.heap.size, 0, none⟩ = some (.int .i64 x) ∧ w'.cell? ⟨w.heap.size, 1, none⟩ = some (.pointer none) ∧ w'.cell? ⟨w.heap.size + 1, 0, none⟩ = some (.int .i64 y) ∧ w'.cell? ⟨w.heap.size + 1, 1, none⟩ = some (.pointer (some b)) ∧ Below w.heap.size w w') (first | exact ⟨s1, s2, s3, s4, s5⟩ | exact s_store4 s1 s2 s3 s4 s5 (by omega) (by omega) (by omega) | fail) (first | (go_at_call 112; (with_reducible refine (negative_any (HVX.out.below s5)).mono ?_); rintro e w1 ⟨rfl, hb1⟩; obtain ⟨s1, s2, s3, s4, s5⟩ := s_step4 s1 s2 s3 s4 s5 hb1; have k2 := k2.below hb1) | (go_at_call 114; (with_reducible refine (natural_any (HVX.out.below s5)).mono ?_); rintro e w2 ⟨v2, rfl, hv2, hb2⟩; obtain ⟨s1, s2, s3, s4, s5⟩ := s_step4 s1 s2 s3 s4 s5 hb2; have k2 := k2.below hb2) | (go_at_call 112; (with_reducible refine (negative_any (HVY.out.below s5)).mono ?_); rintro e w3 ⟨rfl, hb3⟩; obtain ⟨s1, s2, s3, s4, s5⟩ := s_step4 s1 s2 s3 s4 s5 hb3; have k2 := k2.below hb3; have hv2 := hv2.below hb3) | (go_at_call 114; (with_reducible refine (natural_any (HVY.out.below s5)).mono ?_); rintro e w4 ⟨v4, rfl, hv4, hb4⟩; obtain ⟨s1, s2, s3, s4, s5⟩ := s_step4 s1 s2 s3 s4 s5 hb4; have k2 := k2.below hb4; have hv2 := hv2.below hb4) | (go_at_call 156; (with_reducible refine (addSizes_any hv2 hv4 hK HK.out.1 HK.out.2).mono ?_); rintro e w5 ⟨v5, rfl, hv5, hb5⟩; obtain ⟨s1, s2, s3, s4, s5⟩ := s_step4 s1 s2 s3 s4 s5 hb5; have k2 := k2.below hb5; obtain ⟨y', q', rfl⟩ := hv5.two; have c0 := k2.c0; have c1 := k2.c1; have f0 := k2.f 0; have f1 := k2.f 1) | fail)
      obtain ⟨z1, z2, z3⟩ := ret_box k2 hv5 s5 (by omega)
      rw [signed_nat, signed_nat] at z3
      have HZ := Lib.hid z3
      clear s1 s2 s3 s4 s5 k2 c0 c1 f0 f1 hv2 hv4 hv5 hb1 hb2 hb3 hb4 hb5 z3
      go_wp2_with fail
      exact bodyPost_ret (v := .agg #[.int .i64 y', .pointer q']) (by simp [results, Tryz.results123, go_sem, z1, z2]) rfl HZ.out
  | some a =>
      go_enter Tryz.func123, Tryz.ntmps123
      go_wp2_with fail
      go_region_held3 (fun w' => w'.cell? ⟨w.heap.size, 0, none⟩ = some (.int .i64 x) ∧ w'.cell? ⟨w.heap.size, 1, none⟩ = some (.pointer (some a)) ∧ w'.cell? ⟨w.heap.size + 1, 0, none⟩ = some (.int .i64 y) ∧ w'.cell? ⟨w.heap.size + 1, 1, none⟩ = some (.pointer q) ∧ Below w.heap.size w w') (first | exact ⟨s1, s2, s3, s4, s5⟩ | exact s_store4 s1 s2 s3 s4 s5 (by omega) (by omega) (by omega) | fail) (first | (go_at_call 112; (with_reducible refine (negative_any (HVX.out.below s5)).mono ?_); rintro e w1 ⟨rfl, hb1⟩; obtain ⟨s1, s2, s3, s4, s5⟩ := s_step4 s1 s2 s3 s4 s5 hb1; have k2 := k2.below hb1) | (go_at_call 114; (with_reducible refine (natural_any (HVX.out.below s5)).mono ?_); rintro e w2 ⟨v2, rfl, hv2, hb2⟩; obtain ⟨s1, s2, s3, s4, s5⟩ := s_step4 s1 s2 s3 s4 s5 hb2; have k2 := k2.below hb2) | (go_at_call 112; (with_reducible refine (negative_any (HVY.out.below s5)).mono ?_); rintro e w3 ⟨rfl, hb3⟩; obtain ⟨s1, s2, s3, s4, s5⟩ := s_step4 s1 s2 s3 s4 s5 hb3; have k2 := k2.below hb3; have hv2 := hv2.below hb3) | (go_at_call 114; (with_reducible refine (natural_any (HVY.out.below s5)).mono ?_); rintro e w4 ⟨v4, rfl, hv4, hb4⟩; obtain ⟨s1, s2, s3, s4, s5⟩ := s_step4 s1 s2 s3 s4 s5 hb4; have k2 := k2.below hb4; have hv2 := hv2.below hb4) | (go_at_call 156; (with_reducible refine (addSizes_any hv2 hv4 hK HK.out.1 HK.out.2).mono ?_); rintro e w5 ⟨v5, rfl, hv5, hb5⟩; obtain ⟨s1, s2, s3, s4, s5⟩ := s_step4 s1 s2 s3 s4 s5 hb5; have k2 := k2.below hb5; obtain ⟨y', q', rfl⟩ := hv5.two; have c0 := k2.c0; have c1 := k2.c1; have f0 := k2.f 0; have f1 := k2.f 1) | fail)
      obtain ⟨z1, z2, z3⟩ := ret_box k2 hv5 s5 (by omega)
      rw [signed_nat, signed_nat] at z3
      have HZ := Lib.hid z3
      clear s1 s2 s3 s4 s5 k2 c0 c1 f0 f1 hv2 hv4 hv5 hb1 hb2 hb3 hb4 hb5 z3
      go_wp2_with fail
      exact bodyPost_ret (v := .agg #[.int .i64 y', .pointer q']) (by simp [results, Tryz.results123, go_sem, z1, z2]) rfl HZ.out
set_option maxRecDepth 100000 in
set_option maxHeartbeats 1000000 in
theorem add_small {n m : Int} (_ : IsS n) (_ : IsS m) (hr : IsS (n + m)) (w : World) : Calls Tryz.prog 123 #[.agg #[.int .i64 n, .pointer none], .agg #[.int .i64 m, .pointer none]] w (RetInt w (n + m)) := by
  have hw : wrap64 (n + m) = n + m := IntWalk.wrap64_in _ hr
  have ht : (decide (n < wrap64 (n + m)) == decide (0 < m)) = true := by rw [hw, beq_iff_eq]; rw [Bool.eq_iff_iff]; simp; omega
  have HW := Lib.hid hw
  have HR := Lib.hid hr
  clear hw hr
  go_enter Tryz.func123, Tryz.ntmps123
  go_wp2_with fail
  rw [HW.out]
  exact bodyPost_ret (v := smInt (n + m)) (by simp [results, Tryz.results123, go_sem, smInt]) rfl ⟨_, rfl, .inl ⟨HR.out, rfl⟩, below3 _ _ _ _⟩
set_option maxRecDepth 100000 in
set_option maxHeartbeats 1000000 in
theorem addI_any {vx vy : Value} {n m : Int} {K : Nat} {w : World} (hx : IntV w vx n) (hy : IntV w vy m) (hK : K < 1099511627776) (hn : n.natAbs < B64 ^ K) (hm : m.natAbs < B64 ^ K) :
    Calls Tryz.prog 123 #[vx, vy] w (RetInt w (n + m)) := by
  rcases hx.cs with ⟨sx, rfl⟩ | ⟨a, rfl, lx, nx⟩
  · rcases hy.cs with ⟨sy, rfl⟩ | ⟨b, rfl, ly, ny⟩
    · by_cases hr : IsS (n + m)
      · exact add_small sx sy hr w
      · exact add_big hx hy (fun _ _ => add_ovf sx sy hr) hK hn hm
    · exact add_big hx hy (fun _ h => by cases h) hK hn hm
  · obtain ⟨y, q, rfl⟩ := hy.two
    exact add_big hx hy (fun h _ => by cases h) hK hn hm
set_option maxRecDepth 100000 in
set_option maxHeartbeats 1000000 in
theorem sub_big {x y : Int} {p q : Option Addr} {n m : Int} {K : Nat} {w : World} (hx : IntV w (.agg #[.int .i64 x, .pointer p]) n) (hy : IntV w (.agg #[.int .i64 y, .pointer q]) m) (hc : p = none → q = none → (decide (wrap64 (x - y) < x) == decide (0 < y)) = false)
    (hK : K < 1099511627776) (hn : n.natAbs < B64 ^ K) (hm : m.natAbs < B64 ^ K) : Calls Tryz.prog 161 #[.agg #[.int .i64 x, .pointer p], .agg #[.int .i64 y, .pointer q]] w (RetInt w (n - m)) := by
  obtain ⟨w0, hw0, hb0, kx, ky, k2, hsz⟩ := three_boxes w x p y q
  have HVX := Lib.hid hx
  have HVY := Lib.hid hy
  have e1 := kx.c0
  have e2 := kx.c1
  have e3 := ky.c0
  have e4 := ky.c1
  have s1 : w0.drew.cell? ⟨w.heap.size, 0, none⟩ = some (.int .i64 x) := kx.c0
  have s2 : w0.drew.cell? ⟨w.heap.size, 1, none⟩ = some (.pointer p) := kx.c1
  have s3 : w0.drew.cell? ⟨w.heap.size + 1, 0, none⟩ = some (.int .i64 y) := ky.c0
  have s4 : w0.drew.cell? ⟨w.heap.size + 1, 1, none⟩ = some (.pointer q) := ky.c1
  have s5 := hb0.drew
  have k2 : K2 (w.heap.size + 2) 0 none w0.drew := k2
  have HSZ := Lib.hid hsz
  have HC := Lib.hid hc
  have HK := Lib.hid (And.intro hn hm)
  clear hc hn hm
  clear kx ky hb0 hx hy hsz
  cases p with
  | none =>
    cases q with
    | none =>
      have ht := HC.out rfl rfl
      go_enter Tryz.func161, Tryz.ntmps161
      go_wp2_with fail
      go_region_held3 (fun w' => w'.cell? ⟨w.heap.size, 0, none⟩ = some (.int .i64 x) ∧ w'.cell? ⟨w.heap.size, 1, none⟩ = some (.pointer none) ∧ w'.cell? ⟨w.heap.size + 1, 0, none⟩ = some (.int .i64 y) ∧ w'.cell? ⟨w.heap.size + 1, 1, none⟩ = some (.pointer none) ∧ Below w.heap.size w w') (first | exact ⟨s1, s2, s3, s4, s5⟩ | exact s_store4 s1 s2 s3 s4 s5 (by omega) (by omega) (by omega) | fail) (first | (go_at_call 112; (with_reducible refine (negative_any (HVX.out.below s5)).mono ?_); rintro e w1 ⟨rfl, hb1⟩; obtain ⟨s1, s2, s3, s4, s5⟩ := s_step4 s1 s2 s3 s4 s5 hb1; have k2 := k2.below hb1) | (go_at_call 114; (with_reducible refine (natural_any (HVX.out.below s5)).mono ?_); rintro e w2 ⟨v2, rfl, hv2, hb2⟩; obtain ⟨s1, s2, s3, s4, s5⟩ := s_step4 s1 s2 s3 s4 s5 hb2; have k2 := k2.below hb2) | (go_at_call 112; (with_reducible refine (negative_any (HVY.out.below s5)).mono ?_); rintro e w3 ⟨rfl, hb3⟩; obtain ⟨s1, s2, s3, s4, s5⟩ := s_step4 s1 s2 s3 s4 s5 hb3; have k2 := k2.below hb3; have hv2 := hv2.below hb3) | (go_at_call 114; (with_reducible refine (natural_any (HVY.out.below s5)).mono ?_); rintro e w4 ⟨v4, rfl, hv4, hb4⟩; obtain ⟨s1, s2, s3, s4, s5⟩ := s_step4 s1 s2 s3 s4 s5 hb4; have k2 := k2.below hb4; have hv2 := hv2.below hb4) | (go_at_call 156; (with_reducible refine (addSizes_any hv2 hv4 hK HK.out.1 HK.out.2).mono ?_); rintro e w5 ⟨v5, rfl, hv5, hb5⟩; obtain ⟨s1, s2, s3, s4, s5⟩ := s_step4 s1 s2 s3 s4 s5 hb5; have k2 := k2.below hb5; obtain ⟨y', q', rfl⟩ := hv5.two; have c0 := k2.c0; have c1 := k2.c1; have f0 := k2.f 0; have f1 := k2.f 1) | fail)
      obtain ⟨z1, z2, z3⟩ := ret_box k2 hv5 s5 (by omega)
      rw [signed_nat, signed_not, ← Int.sub_eq_add_neg] at z3
      have HZ := Lib.hid z3
      clear s1 s2 s3 s4 s5 k2 c0 c1 f0 f1 hv2 hv4 hv5 hb1 hb2 hb3 hb4 hb5 z3
      go_wp2_with fail
      exact bodyPost_ret (v := .agg #[.int .i64 y', .pointer q']) (by simp [results, Tryz.results161, go_sem, z1, z2]) rfl HZ.out
    | some b =>
      go_enter Tryz.func161, Tryz.ntmps161
      go_wp2_with fail
      go_region_held3 (fun w' => w'.cell? ⟨w.heap.size, 0, none⟩ = some (.int .i64 x) ∧ w'.cell? ⟨w.heap.size, 1, none⟩ = some (.pointer none) ∧ w'.cell? ⟨w.heap.size + 1, 0, none⟩ = some (.int .i64 y) ∧ w'.cell? ⟨w.heap.size + 1, 1, none⟩ = some (.pointer (some b)) ∧ Below w.heap.size w w') (first | exact ⟨s1, s2, s3, s4, s5⟩ | exact s_store4 s1 s2 s3 s4 s5 (by omega) (by omega) (by omega) | fail) (first | (go_at_call 112; (with_reducible refine (negative_any (HVX.out.below s5)).mono ?_); rintro e w1 ⟨rfl, hb1⟩; obtain ⟨s1, s2, s3, s4, s5⟩ := s_step4 s1 s2 s3 s4 s5 hb1; have k2 := k2.below hb1) | (go_at_call 114; (with_reducible refine (natural_any (HVX.out.below s5)).mono ?_); rintro e w2 ⟨v2, rfl, hv2, hb2⟩; obtain ⟨s1, s2, s3, s4, s5⟩ := s_step4 s1 s2 s3 s4 s5 hb2; have k2 := k2.below hb2) | (go_at_call 112; (with_reducible refine (negative_any (HVY.out.below s5)).mono ?_); rintro e w3 ⟨rfl, hb3⟩; obtain ⟨s1, s2, s3, s4, s5⟩ := s_step4 s1 s2 s3 s4 s5 hb3; have k2 := k2.below hb3; have hv2 := hv2.below hb3) | (go_at_call 114; (with_reducible refine (natural_any (HVY.out.below s5)).mono ?_); rintro e w4 ⟨v4, rfl, hv4, hb4⟩; obtain ⟨s1, s2, s3, s4, s5⟩ := s_step4 s1 s2 s3 s4 s5 hb4; have k2 := k2.below hb4; have hv2 := hv2.below hb4) | (go_at_call 156; (with_reducible refine (addSizes_any hv2 hv4 hK HK.out.1 HK.out.2).mono ?_); rintro e w5 ⟨v5, rfl, hv5, hb5⟩; obtain ⟨s1, s2, s3, s4, s5⟩ := s_step4 s1 s2 s3 s4 s5 hb5; have k2 := k2.below hb5; obtain ⟨y', q', rfl⟩ := hv5.two; have c0 := k2.c0; have c1 := k2.c1; have f0 := k2.f 0; have f1 := k2.f 1) | fail)
      obtain ⟨z1, z2, z3⟩ := ret_box k2 hv5 s5 (by omega)
      rw [signed_nat, signed_not, ← Int.sub_eq_add_neg] at z3
      have HZ := Lib.hid z3
      clear s1 s2 s3 s4 s5 k2 c0 c1 f0 f1 hv2 hv4 hv5 hb1 hb2 hb3 hb4 hb5 z3
      go_wp2_with fail
      exact bodyPost_ret (v := .agg #[.int .i64 y', .pointer q']) (by simp [results, Tryz.results161, go_sem, z1, z2]) rfl HZ.out
  | some a =>
      go_enter Tryz.func161, Tryz.ntmps161
      go_wp2_with fail
      go_region_held3 (fun w' => w'.cell? ⟨w.heap.size, 0, none⟩ = some (.int .i64 x) ∧ w'.cell? ⟨w.heap.size, 1, none⟩ = some (.pointer (some a)) ∧ w'.cell? ⟨w.heap.size + 1, 0, none⟩ = some (.int .i64 y) ∧ w'.cell? ⟨w.heap.size + 1, 1, none⟩ = some (.pointer q) ∧ Below w.heap.size w w') (first | exact ⟨s1, s2, s3, s4, s5⟩ | exact s_store4 s1 s2 s3 s4 s5 (by omega) (by omega) (by omega) | fail) (first | (go_at_call 112; (with_reducible refine (negative_any (HVX.out.below s5)).mono ?_); rintro e w1 ⟨rfl, hb1⟩; obtain ⟨s1, s2, s3, s4, s5⟩ := s_step4 s1 s2 s3 s4 s5 hb1; have k2 := k2.below hb1) | (go_at_call 114; (with_reducible refine (natural_any (HVX.out.below s5)).mono ?_); rintro e w2 ⟨v2, rfl, hv2, hb2⟩; obtain ⟨s1, s2, s3, s4, s5⟩ := s_step4 s1 s2 s3 s4 s5 hb2; have k2 := k2.below hb2) | (go_at_call 112; (with_reducible refine (negative_any (HVY.out.below s5)).mono ?_); rintro e w3 ⟨rfl, hb3⟩; obtain ⟨s1, s2, s3, s4, s5⟩ := s_step4 s1 s2 s3 s4 s5 hb3; have k2 := k2.below hb3; have hv2 := hv2.below hb3) | (go_at_call 114; (with_reducible refine (natural_any (HVY.out.below s5)).mono ?_); rintro e w4 ⟨v4, rfl, hv4, hb4⟩; obtain ⟨s1, s2, s3, s4, s5⟩ := s_step4 s1 s2 s3 s4 s5 hb4; have k2 := k2.below hb4; have hv2 := hv2.below hb4) | (go_at_call 156; (with_reducible refine (addSizes_any hv2 hv4 hK HK.out.1 HK.out.2).mono ?_); rintro e w5 ⟨v5, rfl, hv5, hb5⟩; obtain ⟨s1, s2, s3, s4, s5⟩ := s_step4 s1 s2 s3 s4 s5 hb5; have k2 := k2.below hb5; obtain ⟨y', q', rfl⟩ := hv5.two; have c0 := k2.c0; have c1 := k2.c1; have f0 := k2.f 0; have f1 := k2.f 1) | fail)
      obtain ⟨z1, z2, z3⟩ := ret_box k2 hv5 s5 (by omega)
      rw [signed_nat, signed_not, ← Int.sub_eq_add_neg] at z3
      have HZ := Lib.hid z3
      clear s1 s2 s3 s4 s5 k2 c0 c1 f0 f1 hv2 hv4 hv5 hb1 hb2 hb3 hb4 hb5 z3
      go_wp2_with fail
      exact bodyPost_ret (v := .agg #[.int .i64 y', .pointer q']) (by simp [results, Tryz.results161, go_sem, z1, z2]) rfl HZ.out
set_option maxRecDepth 100000 in
set_option maxHeartbeats 1000000 in
theorem sub_small {n m : Int} (_ : IsS n) (_ : IsS m) (hr : IsS (n - m)) (w : World) : Calls Tryz.prog 161 #[.agg #[.int .i64 n, .pointer none], .agg #[.int .i64 m, .pointer none]] w (RetInt w (n - m)) := by
  have hw : wrap64 (n - m) = n - m := IntWalk.wrap64_in _ hr
  have ht : (decide (wrap64 (n - m) < n) == decide (0 < m)) = true := by rw [hw, beq_iff_eq]; rw [Bool.eq_iff_iff]; simp; omega
  have HW := Lib.hid hw
  have HR := Lib.hid hr
  clear hw hr
  go_enter Tryz.func161, Tryz.ntmps161
  go_wp2_with fail
  rw [HW.out]
  exact bodyPost_ret (v := smInt (n - m)) (by simp [results, Tryz.results161, go_sem, smInt]) rfl ⟨_, rfl, .inl ⟨HR.out, rfl⟩, below3 _ _ _ _⟩
set_option maxRecDepth 100000 in
set_option maxHeartbeats 1000000 in
theorem subI_any {vx vy : Value} {n m : Int} {K : Nat} {w : World} (hx : IntV w vx n) (hy : IntV w vy m) (hK : K < 1099511627776) (hn : n.natAbs < B64 ^ K) (hm : m.natAbs < B64 ^ K) :
    Calls Tryz.prog 161 #[vx, vy] w (RetInt w (n - m)) := by
  rcases hx.cs with ⟨sx, rfl⟩ | ⟨a, rfl, lx, nx⟩
  · rcases hy.cs with ⟨sy, rfl⟩ | ⟨b, rfl, ly, ny⟩
    · by_cases hr : IsS (n - m)
      · exact sub_small sx sy hr w
      · exact sub_big hx hy (fun _ _ => sub_ovf sx sy hr) hK hn hm
    · exact sub_big hx hy (fun _ h => by cases h) hK hn hm
  · obtain ⟨y, q, rfl⟩ := hy.two
    exact sub_big hx hy (fun h _ => by cases h) hK hn hm
end Go.Proofs.YtekghemhccfhkaaGreatDoor
namespace Go.Big
open Go Go.RowKit
theorem s_drew4 {w w' : World} {g0 g1 : Nat} {x y : Int} {p q : Option Addr} (s1 : w'.cell? ⟨g0, 0, none⟩ = some (.int .i64 x)) (s2 : w'.cell? ⟨g0, 1, none⟩ = some (.pointer p))
    (s3 : w'.cell? ⟨g1, 0, none⟩ = some (.int .i64 y)) (s4 : w'.cell? ⟨g1, 1, none⟩ = some (.pointer q)) (s5 : Below w.heap.size w w') :
    w'.drew.cell? ⟨g0, 0, none⟩ = some (.int .i64 x) ∧ w'.drew.cell? ⟨g0, 1, none⟩ = some (.pointer p) ∧ w'.drew.cell? ⟨g1, 0, none⟩ = some (.int .i64 y) ∧ w'.drew.cell? ⟨g1, 1, none⟩ = some (.pointer q) ∧ Below w.heap.size w w'.drew :=
  ⟨s1, s2, s3, s4, s5.drew⟩
theorem signed_mul (n m : Int) : signed (!(decide (n < 0) == decide (m < 0))) (n.natAbs * m.natAbs) = n * m := by
  rcases Int.lt_or_le n 0 with h1 | h1 <;> rcases Int.lt_or_le m 0 with h2 | h2
  · rw [decide_eq_true h1, decide_eq_true h2]
    show ((n.natAbs * m.natAbs : Nat) : Int) = n * m
    rw [Int.natCast_mul, show (n.natAbs : Int) = -n by omega, show (m.natAbs : Int) = -m by omega]; grind
  · rw [decide_eq_true h1, decide_eq_false (by omega)]
    show -((n.natAbs * m.natAbs : Nat) : Int) = n * m
    rw [Int.natCast_mul, show (n.natAbs : Int) = -n by omega, show (m.natAbs : Int) = m by omega]; grind
  · rw [decide_eq_true h2, decide_eq_false (by omega)]
    show -((n.natAbs * m.natAbs : Nat) : Int) = n * m
    rw [Int.natCast_mul, show (n.natAbs : Int) = n by omega, show (m.natAbs : Int) = -m by omega]; grind
  · rw [decide_eq_false (p := n < 0) (by omega), decide_eq_false (by omega)]
    show ((n.natAbs * m.natAbs : Nat) : Int) = n * m
    rw [Int.natCast_mul, show (n.natAbs : Int) = n by omega, show (m.natAbs : Int) = m by omega]
end Go.Big
namespace Go.Proofs.YtekghemhccfhkaaGreatDoor
open Go.RowKit Go.Big
set_option maxRecDepth 100000 in
set_option maxHeartbeats 1000000 in
theorem mul_big {x y : Int} {p q : Option Addr} {n m : Int} {K : Nat} {w : World} (hx : IntV w (.agg #[.int .i64 x, .pointer p]) n) (hy : IntV w (.agg #[.int .i64 y, .pointer q]) m) (hc : ¬ (p = none ∧ q = none))
    (hK : K < 100) (hn : n.natAbs < B64 ^ K) (hm : m.natAbs < B64 ^ K) : Calls Tryz.prog 121 #[.agg #[.int .i64 x, .pointer p], .agg #[.int .i64 y, .pointer q]] w (RetInt w (n * m)) := by
  obtain ⟨w0, hw0, hb0, kx, ky, k2, hsz⟩ := three_boxes w x p y q
  have HVX := Lib.hid hx
  have HVY := Lib.hid hy
  have e1 := kx.c0
  have e2 := kx.c1
  have e3 := ky.c0
  have e4 := ky.c1
  have s1 : w0.drew.cell? ⟨w.heap.size, 0, none⟩ = some (.int .i64 x) := kx.c0
  have s2 : w0.drew.cell? ⟨w.heap.size, 1, none⟩ = some (.pointer p) := kx.c1
  have s3 : w0.drew.cell? ⟨w.heap.size + 1, 0, none⟩ = some (.int .i64 y) := ky.c0
  have s4 : w0.drew.cell? ⟨w.heap.size + 1, 1, none⟩ = some (.pointer q) := ky.c1
  have s5 := hb0.drew
  have k2 : K2 (w.heap.size + 2) 0 none w0.drew := k2
  have HSZ := Lib.hid hsz
  have HC := Lib.hid hc
  have HK := Lib.hid (And.intro hn hm)
  clear hc hn hm
  clear kx ky hb0 hx hy hsz
  cases p with
  | none =>
    cases q with
    | none => exact absurd ⟨rfl, rfl⟩ HC.out
    | some b =>
      go_enter Tryz.func121, Tryz.ntmps121
      go_wp2_with fail
      go_region_held3 (fun w' => w'.cell? ⟨w.heap.size, 0, none⟩ = some (.int .i64 x) ∧ w'.cell? ⟨w.heap.size, 1, none⟩ = some (.pointer none) ∧ w'.cell? ⟨w.heap.size + 1, 0, none⟩ = some (.int .i64 y) ∧ w'.cell? ⟨w.heap.size + 1, 1, none⟩ = some (.pointer (some b)) ∧ Below w.heap.size w w') (first | exact ⟨s1, s2, s3, s4, s5⟩ | exact s_store4 s1 s2 s3 s4 s5 (by omega) (by omega) (by omega) | fail) (first | (go_at_call 112; (with_reducible refine (negative_any (HVX.out.below s5)).mono ?_); rintro e w1 ⟨rfl, hb1⟩; obtain ⟨s1, s2, s3, s4, s5⟩ := s_step4 s1 s2 s3 s4 s5 hb1; have k2 := k2.below hb1) | (go_at_call 112; (with_reducible refine (negative_any (HVY.out.below s5)).mono ?_); rintro e w2 ⟨rfl, hb2⟩; obtain ⟨s1, s2, s3, s4, s5⟩ := s_step4 s1 s2 s3 s4 s5 hb2; have k2 := k2.below hb2) | fail)
      clear e1 e2 e3 e4 hb1 hb2
      go_wp2_with fail
      obtain ⟨s1, s2, s3, s4, s5⟩ := s_drew4 s1 s2 s3 s4 s5
      have k2 : K2 (w.heap.size + 2) 0 none w2.drew := k2
      go_region_held3 (fun w' => w'.cell? ⟨w.heap.size, 0, none⟩ = some (.int .i64 x) ∧ w'.cell? ⟨w.heap.size, 1, none⟩ = some (.pointer none) ∧ w'.cell? ⟨w.heap.size + 1, 0, none⟩ = some (.int .i64 y) ∧ w'.cell? ⟨w.heap.size + 1, 1, none⟩ = some (.pointer (some b)) ∧ Below w.heap.size w w') (first | exact ⟨s1, s2, s3, s4, s5⟩ | exact s_store4 s1 s2 s3 s4 s5 (by omega) (by omega) (by omega) | fail) (first | (go_at_call 114; (with_reducible refine (natural_any (HVX.out.below s5)).mono ?_); rintro e w3 ⟨v3, rfl, hv3, hb3⟩; obtain ⟨s1, s2, s3, s4, s5⟩ := s_step4 s1 s2 s3 s4 s5 hb3; have k2 := k2.below hb3) | (go_at_call 114; (with_reducible refine (natural_any (HVY.out.below s5)).mono ?_); rintro e w4 ⟨v4, rfl, hv4, hb4⟩; obtain ⟨s1, s2, s3, s4, s5⟩ := s_step4 s1 s2 s3 s4 s5 hb4; have k2 := k2.below hb4; have hv3 := hv3.below hb4) | (go_at_call 139; (with_reducible refine (times_any hv3 hv4 hK HK.out.1 HK.out.2).mono ?_); rintro e w5 ⟨v5, rfl, hv5, hb5⟩; obtain ⟨s1, s2, s3, s4, s5⟩ := s_step4 s1 s2 s3 s4 s5 hb5; have k2 := k2.below hb5) | (go_at_call 113; (with_reducible refine (signed_any _ hv5).mono ?_); rintro e w6 ⟨v6, rfl, hv6, hb6⟩; obtain ⟨s1, s2, s3, s4, s5⟩ := s_step4 s1 s2 s3 s4 s5 hb6; have k2 := k2.below hb6; obtain ⟨y', q', rfl⟩ := hv6.two; have c0 := k2.c0; have c1 := k2.c1; have f0 := k2.f 0; have f1 := k2.f 1) | fail)
      obtain ⟨z1, z2, z3⟩ := ret_box k2 hv6 s5 (by omega)
      rw [signed_mul] at z3
      have HZ := Lib.hid z3
      clear s1 s2 s3 s4 s5 k2 c0 c1 f0 f1 hv3 hv4 hv5 hv6 hb3 hb4 hb5 hb6 z3
      go_wp2_with fail
      exact bodyPost_ret (v := .agg #[.int .i64 y', .pointer q']) (by simp [results, Tryz.results121, go_sem, z1, z2]) rfl HZ.out
  | some a =>
      go_enter Tryz.func121, Tryz.ntmps121
      go_wp2_with fail
      go_region_held3 (fun w' => w'.cell? ⟨w.heap.size, 0, none⟩ = some (.int .i64 x) ∧ w'.cell? ⟨w.heap.size, 1, none⟩ = some (.pointer (some a)) ∧ w'.cell? ⟨w.heap.size + 1, 0, none⟩ = some (.int .i64 y) ∧ w'.cell? ⟨w.heap.size + 1, 1, none⟩ = some (.pointer q) ∧ Below w.heap.size w w') (first | exact ⟨s1, s2, s3, s4, s5⟩ | exact s_store4 s1 s2 s3 s4 s5 (by omega) (by omega) (by omega) | fail) (first | (go_at_call 112; (with_reducible refine (negative_any (HVX.out.below s5)).mono ?_); rintro e w1 ⟨rfl, hb1⟩; obtain ⟨s1, s2, s3, s4, s5⟩ := s_step4 s1 s2 s3 s4 s5 hb1; have k2 := k2.below hb1) | (go_at_call 112; (with_reducible refine (negative_any (HVY.out.below s5)).mono ?_); rintro e w2 ⟨rfl, hb2⟩; obtain ⟨s1, s2, s3, s4, s5⟩ := s_step4 s1 s2 s3 s4 s5 hb2; have k2 := k2.below hb2) | fail)
      clear e1 e2 e3 e4 hb1 hb2
      go_wp2_with fail
      obtain ⟨s1, s2, s3, s4, s5⟩ := s_drew4 s1 s2 s3 s4 s5
      have k2 : K2 (w.heap.size + 2) 0 none w2.drew := k2
      go_region_held3 (fun w' => w'.cell? ⟨w.heap.size, 0, none⟩ = some (.int .i64 x) ∧ w'.cell? ⟨w.heap.size, 1, none⟩ = some (.pointer (some a)) ∧ w'.cell? ⟨w.heap.size + 1, 0, none⟩ = some (.int .i64 y) ∧ w'.cell? ⟨w.heap.size + 1, 1, none⟩ = some (.pointer q) ∧ Below w.heap.size w w') (first | exact ⟨s1, s2, s3, s4, s5⟩ | exact s_store4 s1 s2 s3 s4 s5 (by omega) (by omega) (by omega) | fail) (first | (go_at_call 114; (with_reducible refine (natural_any (HVX.out.below s5)).mono ?_); rintro e w3 ⟨v3, rfl, hv3, hb3⟩; obtain ⟨s1, s2, s3, s4, s5⟩ := s_step4 s1 s2 s3 s4 s5 hb3; have k2 := k2.below hb3) | (go_at_call 114; (with_reducible refine (natural_any (HVY.out.below s5)).mono ?_); rintro e w4 ⟨v4, rfl, hv4, hb4⟩; obtain ⟨s1, s2, s3, s4, s5⟩ := s_step4 s1 s2 s3 s4 s5 hb4; have k2 := k2.below hb4; have hv3 := hv3.below hb4) | (go_at_call 139; (with_reducible refine (times_any hv3 hv4 hK HK.out.1 HK.out.2).mono ?_); rintro e w5 ⟨v5, rfl, hv5, hb5⟩; obtain ⟨s1, s2, s3, s4, s5⟩ := s_step4 s1 s2 s3 s4 s5 hb5; have k2 := k2.below hb5) | (go_at_call 113; (with_reducible refine (signed_any _ hv5).mono ?_); rintro e w6 ⟨v6, rfl, hv6, hb6⟩; obtain ⟨s1, s2, s3, s4, s5⟩ := s_step4 s1 s2 s3 s4 s5 hb6; have k2 := k2.below hb6; obtain ⟨y', q', rfl⟩ := hv6.two; have c0 := k2.c0; have c1 := k2.c1; have f0 := k2.f 0; have f1 := k2.f 1) | fail)
      obtain ⟨z1, z2, z3⟩ := ret_box k2 hv6 s5 (by omega)
      rw [signed_mul] at z3
      have HZ := Lib.hid z3
      clear s1 s2 s3 s4 s5 k2 c0 c1 f0 f1 hv3 hv4 hv5 hv6 hb3 hb4 hb5 hb6 z3
      go_wp2_with fail
      exact bodyPost_ret (v := .agg #[.int .i64 y', .pointer q']) (by simp [results, Tryz.results121, go_sem, z1, z2]) rfl HZ.out
set_option maxRecDepth 100000 in
set_option maxHeartbeats 1000000 in
theorem mul_ww {x y : Int} {w : World} (hx0 : IsS x) (hy0 : IsS y) : Calls Tryz.prog 121 #[.agg #[.int .i64 x, .pointer none], .agg #[.int .i64 y, .pointer none]] w (RetInt w (x * y)) := by
  have hx : IntV w (.agg #[.int .i64 x, .pointer none]) x := .inl ⟨hx0, rfl⟩
  have hy : IntV w (.agg #[.int .i64 y, .pointer none]) y := .inl ⟨hy0, rfl⟩
  have hxl : x.natAbs < 18446744073709551616 := by unfold IsS at hx0; omega
  have hyl : y.natAbs < 18446744073709551616 := by unfold IsS at hy0; omega
  obtain ⟨hi, hhi⟩ : ∃ hi, x.natAbs * y.natAbs / 18446744073709551616 = hi := ⟨_, rfl⟩
  obtain ⟨lo, hlo⟩ : ∃ lo, x.natAbs * y.natAbs % 18446744073709551616 = lo := ⟨_, rfl⟩
  have hlol : lo < 18446744073709551616 := by rw [← hlo]; exact Nat.mod_lt _ (by decide)
  have hmul : ∀ w, Calls Tryz.prog 152 #[.int .u64 (x.natAbs : Int), .int .u64 (y.natAbs : Int)] w fun e w' => e = .returned (.tuple #[.int .u64 (hi : Int), .int .u64 (lo : Int)]) ∧ w' = w := fun w => by
    have := Proofs.Tryz.bits_Mul64 _ _ hxl hyl w
    rw [hhi, hlo] at this; exact this
  obtain ⟨w0, hw0, hb0, kx, ky, k2, hsz⟩ := three_boxes w x none y none
  have HVX := Lib.hid hx
  have HVY := Lib.hid hy
  have e1 := kx.c0
  have e2 := kx.c1
  have e3 := ky.c0
  have e4 := ky.c1
  have s1 : w0.drew.cell? ⟨w.heap.size, 0, none⟩ = some (.int .i64 x) := kx.c0
  have s2 : w0.drew.cell? ⟨w.heap.size, 1, none⟩ = some (.pointer none) := kx.c1
  have s3 : w0.drew.cell? ⟨w.heap.size + 1, 0, none⟩ = some (.int .i64 y) := ky.c0
  have s4 : w0.drew.cell? ⟨w.heap.size + 1, 1, none⟩ = some (.pointer none) := ky.c1
  have s5 := hb0.drew
  have k2 : K2 (w.heap.size + 2) 0 none w0.drew := k2
  have HSZ := Lib.hid hsz
  have HS := Lib.hid (And.intro hx0 hy0)
  have HM := Lib.hid hmul
  have HI := Lib.hid (And.intro hhi (And.intro hlo hlol))
  have HL := Lib.hid (And.intro hxl hyl)
  clear hx0 hy0 hxl hyl hhi hlo hmul
  clear kx ky hb0 hx hy hsz
  go_enter Tryz.func121, Tryz.ntmps121
  go_wp2_with fail
  go_region_held3 (fun w' => w'.cell? ⟨w.heap.size, 0, none⟩ = some (.int .i64 x) ∧ w'.cell? ⟨w.heap.size, 1, none⟩ = some (.pointer none) ∧ w'.cell? ⟨w.heap.size + 1, 0, none⟩ = some (.int .i64 y) ∧ w'.cell? ⟨w.heap.size + 1, 1, none⟩ = some (.pointer none) ∧ Below w.heap.size w w') (first | exact ⟨s1, s2, s3, s4, s5⟩ | exact s_store4 s1 s2 s3 s4 s5 (by omega) (by omega) (by omega) | fail) (first | (go_at_call 112; (with_reducible refine (negative_any (HVX.out.below s5)).mono ?_); rintro e w1 ⟨rfl, hb1⟩; obtain ⟨s1, s2, s3, s4, s5⟩ := s_step4 s1 s2 s3 s4 s5 hb1; have k2 := k2.below hb1) | (go_at_call 112; (with_reducible refine (negative_any (HVY.out.below s5)).mono ?_); rintro e w2 ⟨rfl, hb2⟩; obtain ⟨s1, s2, s3, s4, s5⟩ := s_step4 s1 s2 s3 s4 s5 hb2; have k2 := k2.below hb2) | fail)
  clear e1 e2 e3 e4 hb1 hb2
  go_wp2_with fail
  obtain ⟨s1, s2, s3, s4, s5⟩ := s_drew4 s1 s2 s3 s4 s5
  have k2 : K2 (w.heap.size + 2) 0 none w2.drew := k2
  go_region_held3 (fun w' => w'.cell? ⟨w.heap.size, 0, none⟩ = some (.int .i64 x) ∧ w'.cell? ⟨w.heap.size, 1, none⟩ = some (.pointer none) ∧ w'.cell? ⟨w.heap.size + 1, 0, none⟩ = some (.int .i64 y) ∧ w'.cell? ⟨w.heap.size + 1, 1, none⟩ = some (.pointer none) ∧ Below w.heap.size w w') (first | exact ⟨s1, s2, s3, s4, s5⟩ | exact s_store4 s1 s2 s3 s4 s5 (by omega) (by omega) (by omega) | fail) (first | (go_at_call 131; (with_reducible refine (word_small HS.out.1 _).mono ?_); rintro e w3 ⟨rfl, hb3⟩; obtain ⟨s1, s2, s3, s4, s5⟩ := s_step4 s1 s2 s3 s4 s5 hb3; have k2 := k2.below hb3) | (go_at_call 131; (with_reducible refine (word_small HS.out.2 _).mono ?_); rintro e w4 ⟨rfl, hb4⟩; obtain ⟨s1, s2, s3, s4, s5⟩ := s_step4 s1 s2 s3 s4 s5 hb4; have k2 := k2.below hb4) | (go_at_call 152; (with_reducible refine (HM.out _).mono ?_); rintro e w5 ⟨rfl, rfl⟩) | fail)
  by_cases h0 : hi = 0
  · subst h0
    have HLO := Lib.hid (show lo = x.natAbs * y.natAbs by have h1 := HI.out.1; have h2 := HI.out.2.1; omega)
    go_wp2_with fail
    refine (signedWord_any _ HI.out.2.2 _).mono ?_
    rintro e w6 ⟨v6, rfl, hv6, hb6⟩
    obtain ⟨s1, s2, s3, s4, s5⟩ := s_step4 s1 s2 s3 s4 s5 hb6
    have k2 := k2.below hb6
    obtain ⟨y', q', rfl⟩ := hv6.two
    have c0 := k2.c0
    have c1 := k2.c1
    have f0 := k2.f 0
    have f1 := k2.f 1
    obtain ⟨z1, z2, z3⟩ := ret_box k2 hv6 s5 (by omega)
    rw [HLO.out, signed_mul] at z3
    have HZ := Lib.hid z3
    clear s1 s2 s3 s4 s5 k2 hv6 hb3 hb4 hb6 z3
    go_wp2_with fail
    exact bodyPost_ret (v := .agg #[.int .i64 y', .pointer q']) (by simp [results, Tryz.results121, go_sem, z1, z2]) rfl HZ.out
  · have hz : ((hi : Int) == 0) = false := by rw [beq_eq_false_iff_ne]; omega
    go_wp2_with fail
    obtain ⟨s1, s2, s3, s4, s5⟩ := s_drew4 s1 s2 s3 s4 s5
    have k2 : K2 (w.heap.size + 2) 0 none w5.drew := k2
    go_region_held3 (fun w' => w'.cell? ⟨w.heap.size, 0, none⟩ = some (.int .i64 x) ∧ w'.cell? ⟨w.heap.size, 1, none⟩ = some (.pointer none) ∧ w'.cell? ⟨w.heap.size + 1, 0, none⟩ = some (.int .i64 y) ∧ w'.cell? ⟨w.heap.size + 1, 1, none⟩ = some (.pointer none) ∧ Below w.heap.size w w') (first | exact ⟨s1, s2, s3, s4, s5⟩ | exact s_store4 s1 s2 s3 s4 s5 (by omega) (by omega) (by omega) | fail) (first | (go_at_call 114; (with_reducible refine (natural_any (HVX.out.below s5)).mono ?_); rintro e w5 ⟨v3, rfl, hv3, hb5⟩; obtain ⟨s1, s2, s3, s4, s5⟩ := s_step4 s1 s2 s3 s4 s5 hb5; have k2 := k2.below hb5) | (go_at_call 114; (with_reducible refine (natural_any (HVY.out.below s5)).mono ?_); rintro e w6 ⟨v4, rfl, hv4, hb6⟩; obtain ⟨s1, s2, s3, s4, s5⟩ := s_step4 s1 s2 s3 s4 s5 hb6; have k2 := k2.below hb6; have hv3 := hv3.below hb6) | (go_at_call 139; (with_reducible refine (times_any (K := 1) hv3 hv4 (by decide) (by rw [Nat.pow_one]; exact HL.out.1) (by rw [Nat.pow_one]; exact HL.out.2)).mono ?_); rintro e w7 ⟨v5, rfl, hv5, hb7⟩; obtain ⟨s1, s2, s3, s4, s5⟩ := s_step4 s1 s2 s3 s4 s5 hb7; have k2 := k2.below hb7) | (go_at_call 113; (with_reducible refine (signed_any _ hv5).mono ?_); rintro e w8 ⟨v6, rfl, hv6, hb8⟩; obtain ⟨s1, s2, s3, s4, s5⟩ := s_step4 s1 s2 s3 s4 s5 hb8; have k2 := k2.below hb8; obtain ⟨y', q', rfl⟩ := hv6.two; have c0 := k2.c0; have c1 := k2.c1; have f0 := k2.f 0; have f1 := k2.f 1) | fail)
    obtain ⟨z1, z2, z3⟩ := ret_box k2 hv6 s5 (by omega)
    rw [signed_mul] at z3
    have HZ := Lib.hid z3
    clear s1 s2 s3 s4 s5 k2 c0 c1 f0 f1 hv3 hv4 hv5 hv6 hb3 hb4 hb5 hb6 hb7 hb8 z3
    go_wp2_with fail
    exact bodyPost_ret (v := .agg #[.int .i64 y', .pointer q']) (by simp [results, Tryz.results121, go_sem, z1, z2]) rfl HZ.out
set_option maxRecDepth 100000 in
set_option maxHeartbeats 1000000 in
theorem mulI_any {vx vy : Value} {n m : Int} {K : Nat} {w : World} (hx : IntV w vx n) (hy : IntV w vy m) (hK : K < 100) (hn : n.natAbs < B64 ^ K) (hm : m.natAbs < B64 ^ K) :
    Calls Tryz.prog 121 #[vx, vy] w (RetInt w (n * m)) := by
  rcases hx.cs with ⟨sx, rfl⟩ | ⟨a, rfl, lx, nx⟩
  · rcases hy.cs with ⟨sy, rfl⟩ | ⟨b, rfl, ly, ny⟩
    · exact mul_ww sx sy
    · exact mul_big hx hy (fun h => by cases h.2) hK hn hm
  · obtain ⟨y, q, rfl⟩ := hy.two
    exact mul_big hx hy (fun h => by cases h.1) hK hn hm
end Go.Proofs.YtekghemhccfhkaaGreatDoor
