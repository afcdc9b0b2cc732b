/-
  Walks of the program's functions: FracB, FracC, FracD, FracE.
-/
import Derived.Test.YtekghemhccfhkaaGreatDoorB33
namespace Go.Proofs.YtekghemhccfhkaaGreatDoor
open Go.RowKit Go.Big
theorem inv_neg_parts {q : Rat} (h : q.num < 0) : (q⁻¹).num = -(q.den : Int) ∧ ((q⁻¹).den : Int) = -q.num := by
  have hq : q ≠ 0 := fun e => by rw [e] at h; exact absurd h (by decide)
  have := rat_inv q hq
  rw [if_pos h] at this
  exact ⟨this.1, by rw [this.2]; omega⟩
theorem inv_pos_parts {q : Rat} (h : 0 < q.num) : (q⁻¹).num = (q.den : Int) ∧ ((q⁻¹).den : Int) = q.num := by
  have hq : q ≠ 0 := fun e => by rw [e] at h; exact absurd h (by decide)
  have := rat_inv q hq
  rw [if_neg (by omega)] at this
  exact ⟨this.1, by rw [this.2]; omega⟩
theorem sign_at {v : Value} {n s : Int} {w : World} (h : IntV w v n) (hs : Int.sign n = s) : Calls Tryz.prog 65 #[v] w (RetI w s) := by rw [← hs]; exact sign_any h
set_option maxRecDepth 100000 in
set_option maxHeartbeats 4000000 in
theorem whole_any {v : Value} {n : Int} {w : World} (h : IntV w v n) : Calls Tryz.prog 98 #[v] w (RetF w (n : Rat)) := by
  obtain ⟨x, p, rfl⟩ := h.two
  obtain ⟨w0, hw0, hs, k0, k1, hz⟩ := boxes2 w #[.int .i64 x, .pointer p] 63 #[.int .i64 0, .pointer none, .int .i64 0, .pointer none] 65 (ip2 _ _) (ip4 _ _ _ _)
  have k0 : K2 (w.heap.size) x p w0 := k0
  have k1 : K4 (w.heap.size + 1) 0 none 0 none w0 := k1
  have HV := Lib.hid h
  clear h hz
  have ek00 := k0.c0
  have ek01 := k0.c1
  have k0 : K2 (w.heap.size) x p w0.drew := k0
  have k1 : K4 (w.heap.size + 1) 0 none 0 none w0.drew := k1
  have hs : Below w.heap.size w w0.drew := hs.drew
  have n_k0 : w.heap.size ≠ w.heap.size + 1 := by omega
  have hg : w.heap.size ≤ w.heap.size + 1 := by omega
  go_enter Tryz.func98, Tryz.ntmps98
  go_wp2_with fail
  go_region_held3 (fun w' => w'.cell? ⟨w.heap.size, 0, none⟩ = some (.int .i64 x) ∧ w'.cell? ⟨w.heap.size, 1, none⟩ = some (.pointer p) ∧ Below w.heap.size w w') (first | (with_reducible exact ⟨k0.c0, k0.c1, hs⟩) | (with_reducible exact ⟨(k0.o4 n_k0 _ _ _ _).c0, (k0.o4 n_k0 _ _ _ _).c1, hs.st4 hg _ _ _ _⟩) | fail) (first | (go_at_call 59; (with_reducible refine (fromInt64_any isS_one _).mono ?_); rintro e w1 ⟨v1, rfl, hv1, hb1⟩; have k0 := k0.below hb1; have k1 := k1.below hb1; have hs := hs.trans (hb1.mono hs.size); obtain ⟨y', q', rfl⟩ := hv1.two; have c0 := k1.c0; have c1 := k1.c1; have c2 := k1.c2; have c3 := k1.c3; have f0 := k1.f 0; have f1 := k1.f 1; have f2 := k1.f 2; have f3 := k1.f 3) | fail)
  obtain ⟨W, hW⟩ : ∃ W, (((w1.setCell ⟨w.heap.size + 1, 0, none⟩ (.int .i64 x)).setCell ⟨w.heap.size + 1, 1, none⟩ (.pointer p)).setCell ⟨w.heap.size + 1, 2, none⟩ (.int .i64 y')).setCell ⟨w.heap.size + 1, 3, none⟩ (.pointer q') = W := ⟨_, rfl⟩
  rw [hW]
  obtain ⟨z0, z1, z2, z3, z4⟩ := ret_box4 (r := (n : Rat)) k1 (by rw [Rat.num_intCast]; exact HV.out.below hs) (by rw [Rat.den_intCast]; exact hv1) hs hg hW
  have HZ := Lib.hid z4
  clear k0 k1 hs hb1 hv1 c0 c1 c2 c3 f0 f1 f2 f3 hW z4
  go_wp2_with fail
  exact bodyPost_ret (v := .agg #[.int .i64 x, .pointer p, .int .i64 y', .pointer q']) (by simp [results, Tryz.results98, go_sem, z0, z1, z2, z3]) rfl HZ.out
set_option maxRecDepth 100000 in
set_option maxHeartbeats 4000000 in
theorem negF_any {v : Value} {q : Rat} {w : World} (h : FracV w v q) : Calls Tryz.prog 79 #[v] w (RetF w (-q)) := by
  obtain ⟨a, p, b, r, rfl, ha, hb⟩ := h
  obtain ⟨w0, hw0, hs, k0, k1, hz⟩ := boxes2 w #[.int .i64 a, .pointer p, .int .i64 b, .pointer r] 65 #[.int .i64 0, .pointer none, .int .i64 0, .pointer none] 65 (ip4 _ _ _ _) (ip4 _ _ _ _)
  have k0 : K4 (w.heap.size) a p b r w0 := k0
  have k1 : K4 (w.heap.size + 1) 0 none 0 none w0 := k1
  have HA := Lib.hid ha
  have HD := Lib.hid hb
  clear ha hb hz
  have ek00 := k0.c0
  have ek01 := k0.c1
  have ek02 := k0.c2
  have ek03 := k0.c3
  have k0 : K4 (w.heap.size) a p b r w0.drew := k0
  have k1 : K4 (w.heap.size + 1) 0 none 0 none w0.drew := k1
  have hs : Below w.heap.size w w0.drew := hs.drew
  have n_k0 : w.heap.size ≠ w.heap.size + 1 := by omega
  have hg : w.heap.size ≤ w.heap.size + 1 := by omega
  go_enter Tryz.func79, Tryz.ntmps79
  go_wp2_with fail
  go_region_held3 (fun w' => w'.cell? ⟨w.heap.size, 0, none⟩ = some (.int .i64 a) ∧ w'.cell? ⟨w.heap.size, 1, none⟩ = some (.pointer p) ∧ w'.cell? ⟨w.heap.size, 2, none⟩ = some (.int .i64 b) ∧ w'.cell? ⟨w.heap.size, 3, none⟩ = some (.pointer r) ∧ Below w.heap.size w w') (first | (with_reducible exact ⟨k0.c0, k0.c1, k0.c2, k0.c3, hs⟩) | (with_reducible exact ⟨(k0.o4 n_k0 _ _ _ _).c0, (k0.o4 n_k0 _ _ _ _).c1, (k0.o4 n_k0 _ _ _ _).c2, (k0.o4 n_k0 _ _ _ _).c3, hs.st4 hg _ _ _ _⟩) | fail) (first | (go_at_call 66; (with_reducible refine (negI_any (HA.out.below hs)).mono ?_); rintro e w1 ⟨v1, rfl, hv1, hb1⟩; have k0 := k0.below hb1; have k1 := k1.below hb1; have hs := hs.trans (hb1.mono hs.size); obtain ⟨y', q', rfl⟩ := hv1.two; have c0 := k1.c0; have c1 := k1.c1; have c2 := k1.c2; have c3 := k1.c3; have f0 := k1.f 0; have f1 := k1.f 1; have f2 := k1.f 2; have f3 := k1.f 3) | fail)
  obtain ⟨W, hW⟩ : ∃ W, (((w1.setCell ⟨w.heap.size + 1, 0, none⟩ (.int .i64 y')).setCell ⟨w.heap.size + 1, 1, none⟩ (.pointer q')).setCell ⟨w.heap.size + 1, 2, none⟩ (.int .i64 b)).setCell ⟨w.heap.size + 1, 3, none⟩ (.pointer r) = W := ⟨_, rfl⟩
  rw [hW]
  obtain ⟨z0, z1, z2, z3, z4⟩ := ret_box4 (r := -q) k1 (by rw [Rat.neg_num]; exact hv1) (by rw [Rat.neg_den]; exact HD.out.below hs) hs hg hW
  have HZ := Lib.hid z4
  clear hs c0 c1 c2 c3 f0 f1 f2 f3 hW z4 k0 k1 hb1 hv1
  go_wp2_with fail
  exact bodyPost_ret (v := .agg #[.int .i64 y', .pointer q', .int .i64 b, .pointer r]) (by simp [results, Tryz.results79, go_sem, z0, z1, z2, z3]) rfl HZ.out
set_option maxRecDepth 100000 in
set_option maxHeartbeats 4000000 in
theorem inverse_neg {v : Value} {q : Rat} {w : World} (h : FracV w v q) (hn : q.num < 0) : Calls Tryz.prog 82 #[v] w (RetF w q⁻¹) := by
  have HI := Lib.hid (inv_neg_parts hn)
  have HSG := Lib.hid (Int.sign_eq_neg_one_of_neg hn)
  clear hn
  obtain ⟨a, p, b, r, rfl, ha, hb⟩ := h
  obtain ⟨w0, hw0, hs, k0, k1, hz⟩ := boxes2 w #[.int .i64 a, .pointer p, .int .i64 b, .pointer r] 65 #[.int .i64 0, .pointer none, .int .i64 0, .pointer none] 65 (ip4 _ _ _ _) (ip4 _ _ _ _)
  have k0 : K4 (w.heap.size) a p b r w0 := k0
  have k1 : K4 (w.heap.size + 1) 0 none 0 none w0 := k1
  have HA := Lib.hid ha
  have HD := Lib.hid hb
  clear ha hb hz
  have ek00 := k0.c0
  have ek01 := k0.c1
  have ek02 := k0.c2
  have ek03 := k0.c3
  go_enter Tryz.func82, Tryz.ntmps82
  go_wp2_with fail
  refine (sign_at (HA.out.below hs) HSG.out).mono ?_
  rintro e w1 ⟨rfl, hb1⟩
  have k0 := k0.below hb1
  have k1 := k1.below hb1
  have hs := hs.trans (hb1.mono hs.size)
  clear ek00 ek01 ek02 ek03
  have ek00 := k0.c0
  have ek01 := k0.c1
  have ek02 := k0.c2
  have ek03 := k0.c3
  go_wp2_with fail
  have k0 : K4 (w.heap.size) a p b r w1.drew := k0
  have k1 : K4 (w.heap.size + 1) 0 none 0 none w1.drew := k1
  have hs : Below w.heap.size w w1.drew := hs.drew
  have n_k0 : w.heap.size ≠ w.heap.size + 1 := by omega
  have hg : w.heap.size ≤ w.heap.size + 1 := by omega
  go_region_held3 (fun w' => w'.cell? ⟨w.heap.size, 0, none⟩ = some (.int .i64 a) ∧ w'.cell? ⟨w.heap.size, 1, none⟩ = some (.pointer p) ∧ w'.cell? ⟨w.heap.size, 2, none⟩ = some (.int .i64 b) ∧ w'.cell? ⟨w.heap.size, 3, none⟩ = some (.pointer r) ∧ Below w.heap.size w w') (first | (with_reducible exact ⟨k0.c0, k0.c1, k0.c2, k0.c3, hs⟩) | (with_reducible exact ⟨(k0.o4 n_k0 _ _ _ _).c0, (k0.o4 n_k0 _ _ _ _).c1, (k0.o4 n_k0 _ _ _ _).c2, (k0.o4 n_k0 _ _ _ _).c3, hs.st4 hg _ _ _ _⟩) | fail) (first | (go_at_call 66; (with_reducible refine (negI_any (HD.out.below hs)).mono ?_); rintro e w2 ⟨v2, rfl, hv2, hb2⟩; have k0 := k0.below hb2; have k1 := k1.below hb2; have hs := hs.trans (hb2.mono hs.size)) | (go_at_call 66; (with_reducible refine (negI_any (HA.out.below hs)).mono ?_); rintro e w3 ⟨v3, rfl, hv3, hb3⟩; have k0 := k0.below hb3; have k1 := k1.below hb3; have hs := hs.trans (hb3.mono hs.size); have hv2 := hv2.below hb3; obtain ⟨y2, q2, rfl⟩ := hv2.two; obtain ⟨y3, q3, rfl⟩ := hv3.two; have c0 := k1.c0; have c1 := k1.c1; have c2 := k1.c2; have c3 := k1.c3; have f0 := k1.f 0; have f1 := k1.f 1; have f2 := k1.f 2; have f3 := k1.f 3) | fail)
  obtain ⟨W, hW⟩ : ∃ W, (((w3.setCell ⟨w.heap.size + 1, 0, none⟩ (.int .i64 y2)).setCell ⟨w.heap.size + 1, 1, none⟩ (.pointer q2)).setCell ⟨w.heap.size + 1, 2, none⟩ (.int .i64 y3)).setCell ⟨w.heap.size + 1, 3, none⟩ (.pointer q3) = W := ⟨_, rfl⟩
  rw [hW]
  obtain ⟨z0, z1, z2, z3, z4⟩ := ret_box4 (r := q⁻¹) k1 (by rw [HI.out.1]; exact hv2) (by rw [HI.out.2]; exact hv3) hs hg hW
  have HZ := Lib.hid z4
  clear hs c0 c1 c2 c3 f0 f1 f2 f3 hW z4 k0 k1 hb1 hb2 hb3 hv2 hv3
  go_wp2_with fail
  exact bodyPost_ret (v := .agg #[.int .i64 y2, .pointer q2, .int .i64 y3, .pointer q3]) (by simp [results, Tryz.results82, go_sem, z0, z1, z2, z3]) rfl HZ.out
set_option maxRecDepth 100000 in
set_option maxHeartbeats 4000000 in
theorem inverse_pos {v : Value} {q : Rat} {w : World} (h : FracV w v q) (hn : 0 < q.num) : Calls Tryz.prog 82 #[v] w (RetF w q⁻¹) := by
  have HI := Lib.hid (inv_pos_parts hn)
  have HSG := Lib.hid (Int.sign_eq_one_of_pos hn)
  clear hn
  obtain ⟨a, p, b, r, rfl, ha, hb⟩ := h
  obtain ⟨w0, hw0, hs, k0, k1, hz⟩ := boxes2 w #[.int .i64 a, .pointer p, .int .i64 b, .pointer r] 65 #[.int .i64 0, .pointer none, .int .i64 0, .pointer none] 65 (ip4 _ _ _ _) (ip4 _ _ _ _)
  have k0 : K4 (w.heap.size) a p b r w0 := k0
  have k1 : K4 (w.heap.size + 1) 0 none 0 none w0 := k1
  have HA := Lib.hid ha
  have HD := Lib.hid hb
  clear ha hb hz
  have ek00 := k0.c0
  have ek01 := k0.c1
  have ek02 := k0.c2
  have ek03 := k0.c3
  go_enter Tryz.func82, Tryz.ntmps82
  go_wp2_with fail
  refine (sign_at (HA.out.below hs) HSG.out).mono ?_
  rintro e w1 ⟨rfl, hb1⟩
  have k0 := k0.below hb1
  have k1 := k1.below hb1
  have hs := hs.trans (hb1.mono hs.size)
  clear ek00 ek01 ek02 ek03
  have ek00 := k0.c0
  have ek01 := k0.c1
  have ek02 := k0.c2
  have ek03 := k0.c3
  have n_k0 : w.heap.size ≠ w.heap.size + 1 := by omega
  have hg : w.heap.size ≤ w.heap.size + 1 := by omega
  have c0 := k1.c0
  have c1 := k1.c1
  have c2 := k1.c2
  have c3 := k1.c3
  have f0 := k1.f 0
  have f1 := k1.f 1
  have f2 := k1.f 2
  have f3 := k1.f 3
  obtain ⟨W, hW⟩ : ∃ W, (((w1.setCell ⟨w.heap.size + 1, 0, none⟩ (.int .i64 b)).setCell ⟨w.heap.size + 1, 1, none⟩ (.pointer r)).setCell ⟨w.heap.size + 1, 2, none⟩ (.int .i64 a)).setCell ⟨w.heap.size + 1, 3, none⟩ (.pointer p) = W := ⟨_, rfl⟩
  obtain ⟨z0, z1, z2, z3, z4⟩ := ret_box4 (r := q⁻¹) k1 (by rw [HI.out.1]; exact HD.out.below hs) (by rw [HI.out.2]; exact HA.out.below hs) hs hg hW
  have HZ := Lib.hid z4
  clear hs z4 k0 k1 hb1
  go_wp2_with fail
  exact bodyPost_ret (v := .agg #[.int .i64 b, .pointer r, .int .i64 a, .pointer p]) (by simp [results, Tryz.results82, go_sem, z0, z1, z2, z3]) rfl HZ.out
theorem inverse_any {v : Value} {q : Rat} {w : World} (h : FracV w v q) (hq : q ≠ 0) : Calls Tryz.prog 82 #[v] w (RetF w q⁻¹) := by
  have hn : q.num ≠ 0 := fun e => hq (Rat.num_eq_zero.1 e)
  rcases Int.lt_trichotomy q.num 0 with h1 | h1 | h1
  · exact inverse_neg h h1
  · exact absurd h1 hn
  · exact inverse_pos h h1
set_option maxRecDepth 100000 in
set_option maxHeartbeats 4000000 in
theorem compareF_any {v v' : Value} {q1 q2 : Rat} {K : Nat} {w : World} (h : FracV w v q1) (h' : FracV w v' q2) (hK : K < 100) (s1 : Sz K q1) (s2 : Sz K q2) : Calls Tryz.prog 78 #[v, v'] w (RetI w (cmpInt (q1.num * q2.den) (q2.num * q1.den))) := by
  obtain ⟨a, p, b, r, rfl, ha, hb⟩ := h
  obtain ⟨c, s, d, t, rfl, hc, hd⟩ := h'
  obtain ⟨w0, hw0, hs, k0, k1, hz⟩ := boxes2 w #[.int .i64 a, .pointer p, .int .i64 b, .pointer r] 65 #[.int .i64 c, .pointer s, .int .i64 d, .pointer t] 65 (ip4 _ _ _ _) (ip4 _ _ _ _)
  have k0 : K4 (w.heap.size) a p b r w0 := k0
  have k1 : K4 (w.heap.size + 1) c s d t w0 := k1
  have HA := Lib.hid ha
  have HB := Lib.hid hb
  have HC := Lib.hid hc
  have HD := Lib.hid hd
  have HK := Lib.hid (And.intro (And.intro s1.1 (by rw [Int.natAbs_natCast]; exact s1.2 : (q1.den : Int).natAbs < _)) (And.intro s2.1 (by rw [Int.natAbs_natCast]; exact s2.2 : (q2.den : Int).natAbs < _)))
  clear ha hb hc hd hz
  have ek00 := k0.c0
  have ek01 := k0.c1
  have ek02 := k0.c2
  have ek03 := k0.c3
  have ek10 := k1.c0
  have ek11 := k1.c1
  have ek12 := k1.c2
  have ek13 := k1.c3
  have k0 : K4 (w.heap.size) a p b r w0.drew := k0
  have k1 : K4 (w.heap.size + 1) c s d t w0.drew := k1
  have hs : Below w.heap.size w w0.drew := hs.drew
  go_enter Tryz.func78, Tryz.ntmps78
  go_wp2_with fail
  go_region_held3 (fun w' => w'.cell? ⟨w.heap.size, 0, none⟩ = some (.int .i64 a) ∧ w'.cell? ⟨w.heap.size, 1, none⟩ = some (.pointer p) ∧ w'.cell? ⟨w.heap.size, 2, none⟩ = some (.int .i64 b) ∧ w'.cell? ⟨w.heap.size, 3, none⟩ = some (.pointer r) ∧ w'.cell? ⟨w.heap.size + 1, 0, none⟩ = some (.int .i64 c) ∧ w'.cell? ⟨w.heap.size + 1, 1, none⟩ = some (.pointer s) ∧ w'.cell? ⟨w.heap.size + 1, 2, none⟩ = some (.int .i64 d) ∧ w'.cell? ⟨w.heap.size + 1, 3, none⟩ = some (.pointer t) ∧ Below w.heap.size w w') (first | (with_reducible exact ⟨k0.c0, k0.c1, k0.c2, k0.c3, k1.c0, k1.c1, k1.c2, k1.c3, hs⟩) | fail) (first | (go_at_call 121; (with_reducible refine (mulI_any (HA.out.below hs) (HD.out.below hs) hK HK.out.1.1 HK.out.2.2).mono ?_); rintro e w1 ⟨v1, rfl, hv1, hb1⟩; have k0 := k0.below hb1; have k1 := k1.below hb1; have hs := hs.trans (hb1.mono hs.size)) | (go_at_call 121; (with_reducible refine (mulI_any (HC.out.below hs) (HB.out.below hs) hK HK.out.2.1 HK.out.1.2).mono ?_); rintro e w2 ⟨v2, rfl, hv2, hb2⟩; have k0 := k0.below hb2; have k1 := k1.below hb2; have hs := hs.trans (hb2.mono hs.size); have hv1 := hv1.below hb2) | (go_at_call 122; (with_reducible refine (compareI_any hv1 hv2).mono ?_); rintro e w3 ⟨rfl, hb3⟩; have k0 := k0.below hb3; have k1 := k1.below hb3; have hs := hs.trans (hb3.mono hs.size)) | fail)
  have HS := Lib.hid hs
  clear k0 k1 hs hb1 hb2 hb3 hv1 hv2
  go_wp2_with fail
  go_ret
  exact ⟨rfl, HS.out⟩
end Go.Proofs.YtekghemhccfhkaaGreatDoor
namespace Go.Big
open Go Go.RowKit
/-- The greatest common divisor of two rational numbers. -/
theorem rgcd_nz (a b : Rat) : a.den * (b.den / Nat.gcd a.den b.den) ≠ 0 := by
  have h1 := rat_den_pos a
  have h2 := rat_den_pos b
  have h3 : 0 < b.den / Nat.gcd a.den b.den := Nat.div_pos (Nat.le_of_dvd h2 (Nat.gcd_dvd_right _ _)) (Nat.gcd_pos_of_pos_left _ h1)
  have := Nat.mul_pos h1 h3
  omega
theorem rgcd_cop (a b : Rat) : ((Nat.gcd a.num.natAbs b.num.natAbs : Nat) : Int).natAbs.Coprime (a.den * (b.den / Nat.gcd a.den b.den)) := by
  rw [Int.natAbs_natCast]
  refine Nat.Coprime.mul_right ?_ ?_
  · exact a.reduced.coprime_dvd_left (Nat.gcd_dvd_left _ _)
  · exact (b.reduced.coprime_dvd_left (Nat.gcd_dvd_right _ _)).coprime_dvd_right (Nat.div_dvd_of_dvd (Nat.gcd_dvd_right _ _))
def rgcd (a b : Rat) : Rat := ⟨(Nat.gcd a.num.natAbs b.num.natAbs : Nat), a.den * (b.den / Nat.gcd a.den b.den), rgcd_nz a b, rgcd_cop a b⟩
theorem rgcd_num (a b : Rat) : (rgcd a b).num = (Nat.gcd a.num.natAbs b.num.natAbs : Nat) := rfl
theorem rgcd_den (a b : Rat) : (rgcd a b).den = a.den * (b.den / Nat.gcd a.den b.den) := rfl
end Go.Big
namespace Go.Proofs.YtekghemhccfhkaaGreatDoor
open Go.RowKit Go.Big
set_option maxRecDepth 100000 in
set_option maxHeartbeats 4000000 in
theorem cancel_any {vx vy : Value} {n : Int} {c K : Nat} {w : World} (hx : IntV w vx n) (hy : IntV w vy (c : Int)) (hc0 : 0 < c) (hK : K < 239) (hn : n.natAbs < B64 ^ K) (hc : c < B64 ^ K) : Calls Tryz.prog 115 #[vx, vy] w (RetInt w (n / (c : Int))) := by
  obtain ⟨x, p, rfl⟩ := hx.two
  obtain ⟨y, q, rfl⟩ := hy.two
  obtain ⟨w0, hw0, hs, k0, k1, k2, hz⟩ := boxes3 w #[.int .i64 x, .pointer p] 63 #[.int .i64 y, .pointer q] 63 #[.int .i64 0, .pointer none] 63 (ip2 _ _) (ip2 _ _) (ip2 _ _)
  have k0 : K2 (w.heap.size) x p w0 := k0
  have k1 : K2 (w.heap.size + 1) y q w0 := k1
  have k2 : K2 (w.heap.size + 2) 0 none w0 := k2
  have HX := Lib.hid hx
  have HY := Lib.hid hy
  have HK := Lib.hid (And.intro hn hc)
  have HC := Lib.hid hc0
  have hg : w.heap.size ≤ w.heap.size + 2 := by omega
  clear hx hy hz hn hc hc0
  by_cases h1 : c = 1
  · have H1 := Lib.hid h1
    clear h1
    have ek00 := k0.c0
    have ek01 := k0.c1
    have ek10 := k1.c0
    have ek11 := k1.c1
    go_enter Tryz.func115, Tryz.ntmps115
    go_wp2_with fail
    refine (isOne_at (HY.out.below hs) (b := true) (by rw [H1.out]; rfl)).mono ?_
    rintro e w1 ⟨rfl, hb1⟩
    have k0 := k0.below hb1
    have k1 := k1.below hb1
    have k2 := k2.below hb1
    have hs := hs.trans (hb1.mono hs.size)
    clear ek00 ek01 ek10 ek11
    have ek00 := k0.c0
    have ek01 := k0.c1
    have ek10 := k1.c0
    have ek11 := k1.c1
    have c0 := k2.c0
    have c1 := k2.c1
    have f0 := k2.f 0
    have f1 := k2.f 1
    have hv := HX.out.below hs
    obtain ⟨z1, z2, z3⟩ := ret_box (w := w) k2 hv hs hg
    rw [show n = n / ((c : Nat) : Int) by rw [H1.out]; simp] at z3
    have HZ := Lib.hid z3
    clear k0 k1 k2 hs hb1 hv z3
    go_wp2_with fail
    exact bodyPost_ret (v := .agg #[.int .i64 x, .pointer p]) (by simp [results, Tryz.results115, go_sem, z1, z2]) rfl HZ.out
  · have H1 := Lib.hid h1
    clear h1
    have ek00 := k0.c0
    have ek01 := k0.c1
    have ek10 := k1.c0
    have ek11 := k1.c1
    go_enter Tryz.func115, Tryz.ntmps115
    go_wp2_with fail
    refine (isOne_at (HY.out.below hs) (b := false) (by rw [decide_eq_false_iff_not]; intro h; apply H1.out; omega)).mono ?_
    rintro e w1 ⟨rfl, hb1⟩
    have k0 := k0.below hb1
    have k1 := k1.below hb1
    have k2 := k2.below hb1
    have hs := hs.trans (hb1.mono hs.size)
    clear ek00 ek01 ek10 ek11
    have ek00 := k0.c0
    have ek01 := k0.c1
    have ek10 := k1.c0
    have ek11 := k1.c1
    have HD := Lib.hid (divI_any (HX.out.below hs) (HY.out.below hs) (by have := HC.out; omega) hK HK.out.1 (by rw [Int.natAbs_natCast]; exact HK.out.2))
    go_wp2_with fail
    refine HD.out.mono ?_
    rintro e w2 ⟨v2, v3, rfl, hv2, hv3, hb2⟩
    have k2 := k2.below hb2
    have hs := hs.trans (hb2.mono hs.size)
    obtain ⟨y2, q2, rfl⟩ := hv2.two
    obtain ⟨y3, q3, rfl⟩ := hv3.two
    obtain ⟨W3, hW3, hb3, j1, j2, hz3⟩ := pair_boxes w2 y2 q2 y3 q3
    have hv2 := hv2.below hb3
    have k2 := k2.below hb3
    have hs := hs.trans (hb3.mono hs.size)
    have d0 := j1.c0
    have d1 := j1.c1
    have c0 := k2.c0
    have c1 := k2.c1
    have f0 := k2.f 0
    have f1 := k2.f 1
    obtain ⟨z1, z2, z3⟩ := ret_box (w := w) k2 hv2 hs hg
    have HZ := Lib.hid z3
    clear k0 k1 k2 hs hb1 hb2 hb3 hv2 hv3 j1 j2 hz3 z3 ek00 ek01 ek10 ek11 HD
    go_wp2_with fail
    exact bodyPost_ret (v := .agg #[.int .i64 y2, .pointer q2]) (by simp [results, Tryz.results115, go_sem, z1, z2]) rfl HZ.out
set_option maxRecDepth 100000 in
set_option maxHeartbeats 4000000 in
theorem floorF_any {v : Value} {q : Rat} {K : Nat} {w : World} (h : FracV w v q) (hK : K < 239) (sq : Sz K q) : Calls Tryz.prog 90 #[v] w (RetInt w q.floor) := by
  obtain ⟨a, p, b, r, rfl, ha, hb⟩ := h
  obtain ⟨w0, hw0, hs, k0, k1, hz⟩ := boxes2 w #[.int .i64 a, .pointer p, .int .i64 b, .pointer r] 65 #[.int .i64 0, .pointer none] 63 (ip4 _ _ _ _) (ip2 _ _)
  have k0 : K4 (w.heap.size) a p b r w0 := k0
  have k1 : K2 (w.heap.size + 1) 0 none w0 := k1
  have HA := Lib.hid ha
  have HB := Lib.hid hb
  have HQ := Lib.hid (rat_den_pos q)
  have HS := Lib.hid sq
  have hg : w.heap.size ≤ w.heap.size + 1 := by omega
  clear ha hb hz sq
  have ek00 := k0.c0
  have ek01 := k0.c1
  have ek02 := k0.c2
  have ek03 := k0.c3
  have HD := Lib.hid (divI_any (HA.out.below hs) (HB.out.below hs) (by have := HQ.out; omega) hK HS.out.1 (by rw [Int.natAbs_natCast]; exact HS.out.2))
  go_enter Tryz.func90, Tryz.ntmps90
  go_wp2_with fail
  refine HD.out.mono ?_
  rintro e w2 ⟨v2, v3, rfl, hv2, hv3, hb2⟩
  have k1 := k1.below hb2
  have hs := hs.trans (hb2.mono hs.size)
  obtain ⟨y2, q2, rfl⟩ := hv2.two
  obtain ⟨y3, q3, rfl⟩ := hv3.two
  obtain ⟨W3, hW3, hb3, j1, j2, hz3⟩ := pair_boxes w2 y2 q2 y3 q3
  have hv2 := hv2.below hb3
  have k1 := k1.below hb3
  have hs := hs.trans (hb3.mono hs.size)
  have d0 := j1.c0
  have d1 := j1.c1
  have c0 := k1.c0
  have c1 := k1.c1
  have f0 := k1.f 0
  have f1 := k1.f 1
  obtain ⟨z1, z2, z3⟩ := ret_box (w := w) k1 hv2 hs hg
  rw [← Rat.floor_def] at z3
  have HZ := Lib.hid z3
  clear k0 k1 hs hb2 hb3 hv2 hv3 j1 j2 hz3 z3 ek00 ek01 ek02 ek03 HD
  go_wp2_with fail
  exact bodyPost_ret (v := .agg #[.int .i64 y2, .pointer q2]) (by simp [results, Tryz.results90, go_sem, z1, z2]) rfl HZ.out
set_option maxRecDepth 100000 in
set_option maxHeartbeats 4000000 in
theorem reduced_any {vx vy : Value} {n : Int} {d K : Nat} {qq : Rat} {w : World} (hx : IntV w vx n) (hy : IntV w vy (d : Int)) (hd0 : 0 < d) (hT : Tabs w) (hK : K < 239) (hn : n.natAbs < B64 ^ K) (hd : d < B64 ^ K) (hq : qq.num * d = n * qq.den) : Calls Tryz.prog 67 #[vx, vy] w (RetF w qq) := by
  obtain ⟨x, p, rfl⟩ := hx.two
  obtain ⟨y, q, rfl⟩ := hy.two
  obtain ⟨w0, hw0, hs, k0, k1, k2, hz⟩ := boxes3 w #[.int .i64 x, .pointer p] 63 #[.int .i64 y, .pointer q] 63 #[.int .i64 0, .pointer none, .int .i64 0, .pointer none] 65 (ip2 _ _) (ip2 _ _) (ip4 _ _ _ _)
  have k0 : K2 (w.heap.size) x p w0 := k0
  have k1 : K2 (w.heap.size + 1) y q w0 := k1
  have k2 : K4 (w.heap.size + 2) 0 none 0 none w0 := k2
  have HX := Lib.hid hx
  have HY := Lib.hid hy
  obtain ⟨G, hG⟩ : ∃ G, Nat.gcd n.natAbs d = G := ⟨_, rfl⟩
  have hG0 : 0 < G := by rw [← hG]; exact Nat.gcd_pos_of_pos_right _ hd0
  have hGd : G ≤ d := by rw [← hG]; exact Nat.gcd_le_right _ hd0
  have HR := Lib.hid (rat_reduce hd0 hq)
  rw [hG] at HR
  have HG := Lib.hid (by have := gcdI_any (HX.out.below hs) (HY.out.below hs) (tabs_below hT hs) hK hn (by rw [Int.natAbs_natCast]; exact hd); rw [Int.natAbs_natCast, hG] at this; exact this)
  have HK := Lib.hid (And.intro hn (And.intro hd (Nat.lt_of_le_of_lt hGd hd)))
  have HG0 := Lib.hid hG0
  have hg : w.heap.size ≤ w.heap.size + 2 := by omega
  clear hx hy hz hn hd hd0 hq hT hG hG0 hGd
  have ek00 := k0.c0
  have ek01 := k0.c1
  have ek10 := k1.c0
  have ek11 := k1.c1
  go_enter Tryz.func67, Tryz.ntmps67
  go_wp2_with fail
  refine HG.out.mono ?_
  rintro e w1 ⟨v1, rfl, hv1, hb1⟩
  obtain ⟨y1, q1, rfl⟩ := hv1.two
  have k0 := k0.below hb1
  have k1 := k1.below hb1
  have k2 := k2.below hb1
  have hs := hs.trans (hb1.mono hs.size)
  obtain ⟨W, hW, hbW, j0, hzW⟩ := box1 w1 #[.int .i64 y1, .pointer q1] 63 (ip2 _ _)
  have j0 : K2 (w1.heap.size) y1 q1 W := j0
  have hv1 := hv1.below hbW
  have hlt := Bx.lt k2
  have k0 := k0.below hbW
  have k1 := k1.below hbW
  have k2 := k2.below hbW
  have hs := hs.trans (hbW.mono hs.size)
  have hv1 := hv1.below (Below.refl W.heap.size W).drew
  clear ek00 ek01 ek10 ek11 hb1 hbW hzW HG
  go_wp2_with fail
  have k0 : K2 (w.heap.size) x p W.drew := k0
  have k1 : K2 (w.heap.size + 1) y q W.drew := k1
  have j0 : K2 (w1.heap.size) y1 q1 W.drew := j0
  have k2 : K4 (w.heap.size + 2) 0 none 0 none W.drew := k2
  have hs : Below w.heap.size w W.drew := hs.drew
  have n_k0 : w.heap.size ≠ w.heap.size + 2 := by omega
  have n_k1 : w.heap.size + 1 ≠ w.heap.size + 2 := by omega
  have n_j0 : w1.heap.size ≠ w.heap.size + 2 := by omega
  go_region_held3 (fun w' => w'.cell? ⟨w.heap.size, 0, none⟩ = some (.int .i64 x) ∧ w'.cell? ⟨w.heap.size, 1, none⟩ = some (.pointer p) ∧ w'.cell? ⟨w.heap.size + 1, 0, none⟩ = some (.int .i64 y) ∧ w'.cell? ⟨w.heap.size + 1, 1, none⟩ = some (.pointer q) ∧ w'.cell? ⟨w1.heap.size, 0, none⟩ = some (.int .i64 y1) ∧ w'.cell? ⟨w1.heap.size, 1, none⟩ = some (.pointer q1) ∧ Below w.heap.size w w') (first | (with_reducible exact ⟨k0.c0, k0.c1, k1.c0, k1.c1, j0.c0, j0.c1, hs⟩) | (with_reducible exact ⟨(k0.o4 n_k0 _ _ _ _).c0, (k0.o4 n_k0 _ _ _ _).c1, (k1.o4 n_k1 _ _ _ _).c0, (k1.o4 n_k1 _ _ _ _).c1, (j0.o4 n_j0 _ _ _ _).c0, (j0.o4 n_j0 _ _ _ _).c1, hs.st4 hg _ _ _ _⟩) | fail) (first | (go_at_call 115; (with_reducible refine (cancel_any (HX.out.below hs) hv1 HG0.out hK HK.out.1 HK.out.2.2).mono ?_); rintro e w2 ⟨v2, rfl, hv2, hb2⟩; have k0 := k0.below hb2; have k1 := k1.below hb2; have j0 := j0.below hb2; have k2 := k2.below hb2; have hs := hs.trans (hb2.mono hs.size); have hv1 := hv1.below hb2) | (go_at_call 115; (with_reducible refine (cancel_any (HY.out.below hs) hv1 HG0.out hK (by rw [Int.natAbs_natCast]; exact HK.out.2.1) HK.out.2.2).mono ?_); rintro e w3 ⟨v3, rfl, hv3, hb3⟩; have k0 := k0.below hb3; have k1 := k1.below hb3; have j0 := j0.below hb3; have k2 := k2.below hb3; have hs := hs.trans (hb3.mono hs.size); have hv2 := hv2.below hb3; obtain ⟨y2, q2, rfl⟩ := hv2.two; obtain ⟨y3, q3, rfl⟩ := hv3.two; have c0 := k2.c0; have c1 := k2.c1; have c2 := k2.c2; have c3 := k2.c3; have f0 := k2.f 0; have f1 := k2.f 1; have f2 := k2.f 2; have f3 := k2.f 3) | fail)
  obtain ⟨WW, hWW⟩ : ∃ WW, (((w3.setCell ⟨w.heap.size + 2, 0, none⟩ (.int .i64 y2)).setCell ⟨w.heap.size + 2, 1, none⟩ (.pointer q2)).setCell ⟨w.heap.size + 2, 2, none⟩ (.int .i64 y3)).setCell ⟨w.heap.size + 2, 3, none⟩ (.pointer q3) = WW := ⟨_, rfl⟩
  rw [hWW]
  obtain ⟨z0, z1, z2, z3, z4⟩ := ret_box4 (r := qq) k2 (by rw [HR.out.1]; exact hv2) (by rw [HR.out.2, Int.natCast_ediv]; exact hv3) hs hg hWW
  have HZ := Lib.hid z4
  clear hs c0 c1 c2 c3 f0 f1 f2 f3 hWW hW z4 k0 k1 k2 j0 hb2 hb3 hv1 hv2 hv3
  go_wp2_with fail
  exact bodyPost_ret (v := .agg #[.int .i64 y2, .pointer q2, .int .i64 y3, .pointer q3]) (by simp [results, Tryz.results67, go_sem, z0, z1, z2, z3]) rfl HZ.out
end Go.Proofs.YtekghemhccfhkaaGreatDoor
namespace Go.Proofs.YtekghemhccfhkaaGreatDoor
open Go.RowKit Go.Big
theorem one_den {q : Rat} : decide ((q.den : Int) = 1) = decide (q.den = 1) := by
  by_cases h : q.den = 1
  · rw [decide_eq_true h, decide_eq_true (by omega)]
  · rw [decide_eq_false h, decide_eq_false (by omega)]
theorem gcdI_at {vx vy : Value} {n m : Int} {K G : Nat} {w : World} (hx : IntV w vx n) (hy : IntV w vy m) (hT : Tabs w) (hK : K < 239) (hn : n.natAbs < B64 ^ K) (hm : m.natAbs < B64 ^ K) (hG : Nat.gcd n.natAbs m.natAbs = G) :
    Calls Tryz.prog 99 #[vx, vy] w (RetInt w (G : Nat)) := by rw [← hG]; exact gcdI_any hx hy hT hK hn hm
theorem cancel_nat {vx vy : Value} {n c K : Nat} {w : World} (hx : IntV w vx (n : Int)) (hy : IntV w vy (c : Int)) (hc0 : 0 < c) (hK : K < 239) (hn : n < B64 ^ K) (hc : c < B64 ^ K) : Calls Tryz.prog 115 #[vx, vy] w (RetInt w ((n / c : Nat) : Int)) := by
  rw [Int.natCast_ediv]; exact cancel_any hx hy hc0 hK (by rw [Int.natAbs_natCast]; exact hn) hc
theorem mul_nat {vx vy : Value} {n m K : Nat} {w : World} (hx : IntV w vx (n : Int)) (hy : IntV w vy (m : Int)) (hK : K < 100) (hn : n < B64 ^ K) (hm : m < B64 ^ K) : Calls Tryz.prog 121 #[vx, vy] w (RetInt w ((n * m : Nat) : Int)) := by
  rw [Int.natCast_mul]; exact mulI_any hx hy hK (by rw [Int.natAbs_natCast]; exact hn) (by rw [Int.natAbs_natCast]; exact hm)
set_option maxRecDepth 100000 in
set_option maxHeartbeats 4000000 in
theorem gcdF_any {v v' : Value} {q1 q2 : Rat} {K : Nat} {w : World} (h : FracV w v q1) (h' : FracV w v' q2) (hT : Tabs w) (hK : K < 100) (s1 : Sz K q1) (s2 : Sz K q2) : Calls Tryz.prog 92 #[v, v'] w (RetF w (rgcd q1 q2)) := by
  obtain ⟨a, p, b, r, rfl, ha, hb⟩ := h
  obtain ⟨c, s, d, t, rfl, hc, hd⟩ := h'
  obtain ⟨w0, hw0, hs, k0, k1, k2, hz⟩ := boxes3 w #[.int .i64 a, .pointer p, .int .i64 b, .pointer r] 65 #[.int .i64 c, .pointer s, .int .i64 d, .pointer t] 65 #[.int .i64 0, .pointer none, .int .i64 0, .pointer none] 65 (ip4 _ _ _ _) (ip4 _ _ _ _) (ip4 _ _ _ _)
  have k0 : K4 (w.heap.size) a p b r w0 := k0
  have k1 : K4 (w.heap.size + 1) c s d t w0 := k1
  have k2 : K4 (w.heap.size + 2) 0 none 0 none w0 := k2
  have HA := Lib.hid ha
  have HB := Lib.hid hb
  have HC := Lib.hid hc
  have HD := Lib.hid hd
  obtain ⟨G, hG⟩ : ∃ G, Nat.gcd q1.den q2.den = G := ⟨_, rfl⟩
  obtain ⟨M, hM⟩ : ∃ M, Nat.gcd q1.num.natAbs q2.num.natAbs = M := ⟨_, rfl⟩
  have hG0 : 0 < G := by rw [← hG]; exact Nat.gcd_pos_of_pos_right _ (rat_den_pos q2)
  have hGl : G < B64 ^ K := Nat.lt_of_le_of_lt (by rw [← hG]; exact Nat.gcd_le_left _ (rat_den_pos q1)) s1.2
  have HRN := Lib.hid (rgcd_num q1 q2)
  have HRD := Lib.hid (rgcd_den q1 q2)
  rw [hM] at HRN
  rw [hG] at HRD
  have HG := Lib.hid (gcdI_at (HB.out.below hs) (HD.out.below hs) (tabs_below hT hs) (show K < 239 by omega) (by rw [Int.natAbs_natCast]; exact s1.2) (by rw [Int.natAbs_natCast]; exact s2.2) hG)
  have HK := Lib.hid (And.intro (show q1.num.natAbs < B64 ^ K ∧ q1.den < B64 ^ K from s1) (And.intro (show q2.num.natAbs < B64 ^ K ∧ q2.den < B64 ^ K from s2) (And.intro hG0 (And.intro hGl (And.intro hM hT)))))
  have hg : w.heap.size ≤ w.heap.size + 2 := by omega
  clear ha hb hc hd hz hG hM hG0 hGl s1 s2 hT
  have ek00 := k0.c0
  have ek01 := k0.c1
  have ek02 := k0.c2
  have ek03 := k0.c3
  have ek10 := k1.c0
  have ek11 := k1.c1
  have ek12 := k1.c2
  have ek13 := k1.c3
  go_enter Tryz.func92, Tryz.ntmps92
  go_wp2_with fail
  refine HG.out.mono ?_
  rintro e w1 ⟨v1, rfl, hv1, hb1⟩
  obtain ⟨y1, q1', rfl⟩ := hv1.two
  have k0 := k0.below hb1
  have k1 := k1.below hb1
  have k2 := k2.below hb1
  have hs := hs.trans (hb1.mono hs.size)
  obtain ⟨W, hW, hbW, j0, hzW⟩ := box1 w1 #[.int .i64 y1, .pointer q1'] 63 (ip2 _ _)
  have j0 : K2 (w1.heap.size) y1 q1' W := j0
  have hv1 := hv1.below hbW
  have hlt := Bx.lt k2
  have k0 := k0.below hbW
  have k1 := k1.below hbW
  have k2 := k2.below hbW
  have hs := hs.trans (hbW.mono hs.size)
  have hv1 := hv1.below (Below.refl W.heap.size W).drew
  clear ek00 ek01 ek02 ek03 ek10 ek11 ek12 ek13 hb1 hbW hzW HG
  go_wp2_with fail
  have k0 : K4 (w.heap.size) a p b r W.drew := k0
  have k1 : K4 (w.heap.size + 1) c s d t W.drew := k1
  have j0 : K2 (w1.heap.size) y1 q1' W.drew := j0
  have k2 : K4 (w.heap.size + 2) 0 none 0 none W.drew := k2
  have hs : Below w.heap.size w W.drew := hs.drew
  have n_k0 : w.heap.size ≠ w.heap.size + 2 := by omega
  have n_k1 : w.heap.size + 1 ≠ w.heap.size + 2 := by omega
  have n_j0 : w1.heap.size ≠ w.heap.size + 2 := by omega
  have hK2 : K < 239 := by omega
  have hdl : q2.den / G < B64 ^ K := Nat.lt_of_le_of_lt (Nat.div_le_self _ _) HK.out.2.1.2
  go_region_held3 (fun w' => w'.cell? ⟨w.heap.size, 0, none⟩ = some (.int .i64 a) ∧ w'.cell? ⟨w.heap.size, 1, none⟩ = some (.pointer p) ∧ w'.cell? ⟨w.heap.size, 2, none⟩ = some (.int .i64 b) ∧ w'.cell? ⟨w.heap.size, 3, none⟩ = some (.pointer r) ∧ w'.cell? ⟨w.heap.size + 1, 0, none⟩ = some (.int .i64 c) ∧ w'.cell? ⟨w.heap.size + 1, 1, none⟩ = some (.pointer s) ∧ w'.cell? ⟨w.heap.size + 1, 2, none⟩ = some (.int .i64 d) ∧ w'.cell? ⟨w.heap.size + 1, 3, none⟩ = some (.pointer t) ∧ w'.cell? ⟨w1.heap.size, 0, none⟩ = some (.int .i64 y1) ∧ w'.cell? ⟨w1.heap.size, 1, none⟩ = some (.pointer q1') ∧ Below w.heap.size w w') (first | (with_reducible exact ⟨k0.c0, k0.c1, k0.c2, k0.c3, k1.c0, k1.c1, k1.c2, k1.c3, j0.c0, j0.c1, hs⟩) | (with_reducible exact ⟨(k0.o4 n_k0 _ _ _ _).c0, (k0.o4 n_k0 _ _ _ _).c1, (k0.o4 n_k0 _ _ _ _).c2, (k0.o4 n_k0 _ _ _ _).c3, (k1.o4 n_k1 _ _ _ _).c0, (k1.o4 n_k1 _ _ _ _).c1, (k1.o4 n_k1 _ _ _ _).c2, (k1.o4 n_k1 _ _ _ _).c3, (j0.o4 n_j0 _ _ _ _).c0, (j0.o4 n_j0 _ _ _ _).c1, hs.st4 hg _ _ _ _⟩) | fail) (first | (go_at_call 99; (with_reducible refine (gcdI_at (HA.out.below hs) (HC.out.below hs) (tabs_below HK.out.2.2.2.2.2 hs) hK2 HK.out.1.1 HK.out.2.1.1 HK.out.2.2.2.2.1).mono ?_); rintro e w2 ⟨v2, rfl, hv2, hb2⟩; have k0 := k0.below hb2; have k1 := k1.below hb2; have j0 := j0.below hb2; have k2 := k2.below hb2; have hs := hs.trans (hb2.mono hs.size); have hv1 := hv1.below hb2) | (go_at_call 115; (with_reducible refine (cancel_nat (HD.out.below hs) hv1 HK.out.2.2.1 hK2 HK.out.2.1.2 HK.out.2.2.2.1).mono ?_); rintro e w3 ⟨v3, rfl, hv3, hb3⟩; have k0 := k0.below hb3; have k1 := k1.below hb3; have j0 := j0.below hb3; have k2 := k2.below hb3; have hs := hs.trans (hb3.mono hs.size); have hv2 := hv2.below hb3) | (go_at_call 121; (with_reducible refine (mul_nat (HB.out.below hs) hv3 hK HK.out.1.2 hdl).mono ?_); rintro e w4 ⟨v4, rfl, hv4, hb4⟩; have k0 := k0.below hb4; have k1 := k1.below hb4; have j0 := j0.below hb4; have k2 := k2.below hb4; have hs := hs.trans (hb4.mono hs.size); have hv2 := hv2.below hb4; obtain ⟨y2, p2, rfl⟩ := hv2.two; obtain ⟨y4, p4, rfl⟩ := hv4.two; have c0 := k2.c0; have c1 := k2.c1; have c2 := k2.c2; have c3 := k2.c3; have f0 := k2.f 0; have f1 := k2.f 1; have f2 := k2.f 2; have f3 := k2.f 3) | fail)
  obtain ⟨WW, hWW⟩ : ∃ WW, (((w4.setCell ⟨w.heap.size + 2, 0, none⟩ (.int .i64 y2)).setCell ⟨w.heap.size + 2, 1, none⟩ (.pointer p2)).setCell ⟨w.heap.size + 2, 2, none⟩ (.int .i64 y4)).setCell ⟨w.heap.size + 2, 3, none⟩ (.pointer p4) = WW := ⟨_, rfl⟩
  rw [hWW]
  obtain ⟨z0, z1, z2, z3, z4⟩ := ret_box4 (r := rgcd q1 q2) k2 (by rw [HRN.out]; exact hv2) (by rw [HRD.out]; exact hv4) hs hg hWW
  have HZ := Lib.hid z4
  clear hs c0 c1 c2 c3 f0 f1 f2 f3 hWW hW z4 k0 k1 k2 j0 hb2 hb3 hb4 hv1 hv2 hv3 hv4
  go_wp2_with fail
  exact bodyPost_ret (v := .agg #[.int .i64 y2, .pointer p2, .int .i64 y4, .pointer p4]) (by simp [results, Tryz.results92, go_sem, z0, z1, z2, z3]) rfl HZ.out
theorem string_at {v : Value} {n : Int} {l : List UInt8} {w : World} (h : IntV w v n) (hT : TabsA w) (hn : n.natAbs < B64 ^ 31) (hl : itext n = l) : Calls Tryz.prog 60 #[v] w (RetStr w l) := by rw [← hl]; exact string_any h hT hn
theorem b31 : B64 ^ 31 ≤ 10 ^ 598 := Nat.le_of_ble_eq_true (by kernel_rfl)
theorem itext_len {n : Int} (h : n.natAbs < B64 ^ 31) : (itext n).length ≤ 700 := by
  have := dd_len (k := 598) (by decide) (Nat.lt_of_lt_of_le h b31)
  unfold itext
  split
  · rw [List.length_cons]; omega
  · omega
set_option maxRecDepth 100000 in
set_option maxHeartbeats 4000000 in
theorem textF_any {v : Value} {q : Rat} {w : World} (h : FracV w v q) (hT : TabsA w) (sq : Sz 31 q) : Calls Tryz.prog 68 #[v] w (RetStr w (rtext q)) := by
  obtain ⟨a, p, b, r, rfl, ha, hb⟩ := h
  obtain ⟨w0, hw0, hs, k0, hz⟩ := box1 w #[.int .i64 a, .pointer p, .int .i64 b, .pointer r] 65 (ip4 _ _ _ _)
  have k0 : K4 (w.heap.size) a p b r w0 := k0
  have HA := Lib.hid ha
  have HB := Lib.hid hb
  have HS := Lib.hid (And.intro (show q.num.natAbs < B64 ^ 31 ∧ q.den < B64 ^ 31 from sq) hT)
  clear ha hb hz sq hT
  have ek00 := k0.c0
  have ek01 := k0.c1
  have ek02 := k0.c2
  have ek03 := k0.c3
  by_cases hd : q.den = 1
  · have HD := Lib.hid hd
    clear hd
    go_enter Tryz.func68, Tryz.ntmps68
    go_wp2_with fail
    refine (isOne_at (HB.out.below hs) (b := true) (by rw [one_den]; exact decide_eq_true HD.out)).mono ?_
    rintro e w1 ⟨rfl, hb1⟩
    have k0 := k0.below hb1
    have hs := hs.trans (hb1.mono hs.size)
    clear ek00 ek01 ek02 ek03
    have ek00 := k0.c0
    have ek01 := k0.c1
    have ek02 := k0.c2
    have ek03 := k0.c3
    go_wp2_with fail
    refine (string_any (HA.out.below hs) (HS.out.2.below hs) HS.out.1.1).mono ?_
    rintro e w2 ⟨rfl, hb2⟩
    have k0 := k0.below hb2
    have hs := hs.trans (hb2.mono hs.size)
    have HF := Lib.hid hs
    clear k0 hs hb1 hb2 ek00 ek01 ek02 ek03
    go_wp2_with fail
    go_ret
    exact ⟨by unfold rtext; rw [if_pos HD.out, List.append_nil]; rfl, HF.out⟩
  · have HD := Lib.hid hd
    clear hd
    go_enter Tryz.func68, Tryz.ntmps68
    go_wp2_with fail
    refine (isOne_at (HB.out.below hs) (b := false) (by rw [one_den]; exact decide_eq_false HD.out)).mono ?_
    rintro e w1 ⟨rfl, hb1⟩
    have k0 := k0.below hb1
    have hs := hs.trans (hb1.mono hs.size)
    clear ek00 ek01 ek02 ek03
    have ek00 := k0.c0
    have ek01 := k0.c1
    have ek02 := k0.c2
    have ek03 := k0.c3
    go_wp2_with fail
    have k0 : K4 (w.heap.size) a p b r w1.drew := k0
    have hs : Below w.heap.size w w1.drew := hs.drew
    obtain ⟨tn, htn⟩ : ∃ tn, itext q.num = tn := ⟨_, rfl⟩
    obtain ⟨td, htd⟩ : ∃ td, itext (q.den : Int) = td := ⟨_, rfl⟩
    have HTN := Lib.hid htn
    have HTD := Lib.hid htd
    have hln : tn.length ≤ 700 := by rw [← htn]; exact itext_len HS.out.1.1
    have hld : td.length ≤ 700 := by rw [← htd]; exact itext_len (by rw [Int.natAbs_natCast]; exact HS.out.1.2)
    have hc1 : ¬ (9223372036854775807 < tn.length + 1) := by omega
    have hc2 : ¬ (9223372036854775807 < tn.length + 1 + td.length) := by omega
    clear htn htd
    go_region_held3 (fun w' => w'.cell? ⟨w.heap.size, 0, none⟩ = some (.int .i64 a) ∧ w'.cell? ⟨w.heap.size, 1, none⟩ = some (.pointer p) ∧ w'.cell? ⟨w.heap.size, 2, none⟩ = some (.int .i64 b) ∧ w'.cell? ⟨w.heap.size, 3, none⟩ = some (.pointer r) ∧ Below w.heap.size w w') (first | (with_reducible exact ⟨k0.c0, k0.c1, k0.c2, k0.c3, hs⟩) | fail) (first | (go_at_call 60; (with_reducible refine (string_at (HA.out.below hs) (HS.out.2.below hs) HS.out.1.1 HTN.out).mono ?_); rintro e w2 ⟨rfl, hb2⟩; have k0 := k0.below hb2; have hs := hs.trans (hb2.mono hs.size)) | (go_at_call 60; (with_reducible refine (string_at (HB.out.below hs) (HS.out.2.below hs) (by rw [Int.natAbs_natCast]; exact HS.out.1.2) HTD.out).mono ?_); rintro e w3 ⟨rfl, hb3⟩; have k0 := k0.below hb3; have hs := hs.trans (hb3.mono hs.size)) | fail)
    have HF := Lib.hid hs
    clear k0 hs hb1 hb2 hb3 ek00 ek01 ek02 ek03
    go_wp2_with fail
    go_ret
    refine ⟨?_, HF.out⟩
    have e : rtext q = tn ++ 47 :: td := by unfold rtext; rw [if_neg HD.out, HTN.out, ← HTD.out]; congr 1
    rw [e]
    exact congrArg (fun t => Ending.returned (.string t)) (ByteArray.ext (by simp))
end Go.Proofs.YtekghemhccfhkaaGreatDoor
namespace Go.Big
open Go Go.RowKit
theorem rat_sq (r : Rat) : (r * r).num = r.num * r.num ∧ (r * r).den = r.den * r.den := by
  have h := rat_mul_of r r (l := 1) (r := 1) r.reduced r.reduced
  simpa using h
theorem sq_cop {a b : Nat} (h : (a * a).Coprime (b * b)) : a.Coprime b := (h.coprime_dvd_left (Nat.dvd_mul_left a a)).coprime_dvd_right (Nat.dvd_mul_left b b)
theorem sq_make {q : Rat} {a b : Nat} (hn : q.num = (a : Int) * a) (hd : (q.den : Int) = (b : Int) * b) : ∃ r : Rat, r.num = (a : Int) ∧ (r.den : Int) = (b : Int) ∧ 0 ≤ r ∧ r * r = q := by
  have hd' : q.den = b * b := by have : (q.den : Int) = ((b * b : Nat) : Int) := by rw [hd]; push_cast; rfl
                                 omega
  have hb : b ≠ 0 := by rintro rfl; have := rat_den_pos q; omega
  have hc : (a * a).Coprime (b * b) := by
    have := q.reduced
    rw [hn, hd', Int.natAbs_mul, Int.natAbs_natCast] at this
    exact this
  refine ⟨⟨a, b, hb, by rw [Int.natAbs_natCast]; exact sq_cop hc⟩, rfl, rfl, ?_, ?_⟩
  · exact Rat.num_nonneg.1 (show (0 : Int) ≤ (a : Int) by omega)
  · obtain ⟨h1, h2⟩ := rat_sq ⟨a, b, hb, by rw [Int.natAbs_natCast]; exact sq_cop hc⟩
    exact Rat.ext (by rw [h1, hn]) (by rw [h2, hd'])
theorem sq_none1 {q : Rat} (h : ¬ ∃ s : Nat, q.num = (s : Int) * s) : ¬ ∃ r : Rat, r * r = q := by
  rintro ⟨r, rfl⟩
  apply h
  refine ⟨r.num.natAbs, ?_⟩
  rw [(rat_sq r).1, Int.natAbs_mul_self' r.num]
theorem sq_none2 {q : Rat} (h : ¬ ∃ s : Nat, (q.den : Int) = (s : Int) * s) : ¬ ∃ r : Rat, r * r = q := by
  rintro ⟨r, rfl⟩
  exact h ⟨r.den, by rw [(rat_sq r).2]; push_cast; rfl⟩
end Go.Big
namespace Go.Proofs.YtekghemhccfhkaaGreatDoor
open Go.RowKit Go.Big
def RtF (w : World) (q : Rat) (e : Ending) (w' : World) : Prop := ∃ x p y s b, e = .returned (.tuple #[.agg #[.int .i64 x, .pointer p, .int .i64 y, .pointer s], .bool b]) ∧ Below w.heap.size w w' ∧ (b = true ∧ (∃ r : Rat, 0 ≤ r ∧ r * r = q ∧ FracV w' (.agg #[.int .i64 x, .pointer p, .int .i64 y, .pointer s]) r) ∨ b = false ∧ ¬ (∃ r : Rat, r * r = q))
theorem zero_box4 {w w3 : World} {g : Nat} {x0 y0 : Int} {p0 q0 : Option Addr} (k : K4 g x0 p0 y0 q0 w3) (s3 : Below w.heap.size w w3) (hg : w.heap.size ≤ g)
    {W : World} (hW : (((w3.setCell ⟨g, 0, none⟩ (.int .i64 0)).setCell ⟨g, 1, none⟩ (.pointer none)).setCell ⟨g, 2, none⟩ (.int .i64 0)).setCell ⟨g, 3, none⟩ (.pointer none) = W) :
    W.cell? ⟨g, 0, none⟩ = some (.int .i64 0) ∧ W.cell? ⟨g, 1, none⟩ = some (.pointer none) ∧ W.cell? ⟨g, 2, none⟩ = some (.int .i64 0) ∧ W.cell? ⟨g, 3, none⟩ = some (.pointer none) ∧ Below w.heap.size w W := by
  have hW : st4 w3 g 0 none 0 none = W := hW
  subst hW
  have k' := k.st 0 none 0 none
  exact ⟨k'.c0, k'.c1, k'.c2, k'.c3, below_st4 s3 hg 0 none 0 none⟩
set_option maxRecDepth 100000 in
set_option maxHeartbeats 4000000 in
theorem rootF_any {v : Value} {q : Rat} {K : Nat} {w : World} (h : FracV w v q) (hK : K < 100) (sq : Sz K q) : Calls Tryz.prog 87 #[v] w (RtF w q) := by
  obtain ⟨a, p, b, r, rfl, ha, hb⟩ := h
  obtain ⟨w0, hw0, hs, k0, k1, hz⟩ := boxes2 w #[.int .i64 a, .pointer p, .int .i64 b, .pointer r] 65 #[.int .i64 0, .pointer none, .int .i64 0, .pointer none] 65 (ip4 _ _ _ _) (ip4 _ _ _ _)
  have k0 : K4 (w.heap.size) a p b r w0 := k0
  have k1 : K4 (w.heap.size + 1) 0 none 0 none w0 := k1
  have HA := Lib.hid ha
  have HB := Lib.hid hb
  have HK := Lib.hid (show q.num.natAbs < B64 ^ K ∧ q.den < B64 ^ K from sq)
  have hg : w.heap.size ≤ w.heap.size + 1 := by omega
  clear ha hb hz sq
  have ek00 := k0.c0
  have ek01 := k0.c1
  have ek02 := k0.c2
  have ek03 := k0.c3
  have HR := Lib.hid (rootI_any (HA.out.below hs) hK HK.out.1)
  go_enter Tryz.func87, Tryz.ntmps87
  go_wp2_with fail
  refine HR.out.mono ?_
  rintro e w1 ⟨v1, b1, rfl, hb1, hor⟩
  have k0 := k0.below hb1
  have k1 := k1.below hb1
  have hs := hs.trans (hb1.mono hs.size)
  clear ek00 ek01 ek02 ek03 HR
  rcases hor with ⟨rfl, s1, hs1, hv1⟩ | ⟨rfl, hno, hv1⟩
  · obtain ⟨y1, q1, rfl⟩ := hv1.two
    obtain ⟨W, hW, hbW, j0, hzW⟩ := box1 w1 #[.int .i64 y1, .pointer q1] 63 (ip2 _ _)
    have j0 : K2 w1.heap.size y1 q1 W := j0
    have hv1 := hv1.below hbW
    have hlt := Bx.lt k1
    have k0 := k0.below hbW
    have k1 := k1.below hbW
    have hs := hs.trans (hbW.mono hs.size)
    have HS1 := Lib.hid hs1
    clear hs1 hb1 hbW hzW
    have ek00 := k0.c0
    have ek01 := k0.c1
    have ek02 := k0.c2
    have ek03 := k0.c3
    have HR2 := Lib.hid (rootI_any (HB.out.below hs) hK (by rw [Int.natAbs_natCast]; exact HK.out.2))
    go_wp2_with fail
    refine HR2.out.mono ?_
    rintro e w2 ⟨v2, b2, rfl, hb2, hor2⟩
    have k1 := k1.below hb2
    have j0 := j0.below hb2
    have hs := hs.trans (hb2.mono hs.size)
    have hv1 := hv1.below hb2
    clear ek00 ek01 ek02 ek03 HR2 k0
    rcases hor2 with ⟨rfl, s2, hs2, hv2⟩ | ⟨rfl, hno, hv2⟩
    · obtain ⟨y2, q2, rfl⟩ := hv2.two
      obtain ⟨V, hV, hbV, i0, hzV⟩ := box1 w2 #[.int .i64 y2, .pointer q2] 63 (ip2 _ _)
      have i0 : K2 w2.heap.size y2 q2 V := i0
      have hv1 := hv1.below hbV
      have hv2 := hv2.below hbV
      have k1 := k1.below hbV
      have j0 := j0.below hbV
      have hs := hs.trans (hbV.mono hs.size)
      obtain ⟨rt, hr1, hr2, hr3, hr4⟩ := sq_make HS1.out hs2
      have d0 := j0.c0
      have d1 := j0.c1
      have d2 := i0.c0
      have d3 := i0.c1
      have c0 := k1.c0
      have c1 := k1.c1
      have c2 := k1.c2
      have c3 := k1.c3
      have f0 := k1.f 0
      have f1 := k1.f 1
      have f2 := k1.f 2
      have f3 := k1.f 3
      obtain ⟨WW, hWW⟩ : ∃ WW, (((V.setCell ⟨w.heap.size + 1, 0, none⟩ (.int .i64 y1)).setCell ⟨w.heap.size + 1, 1, none⟩ (.pointer q1)).setCell ⟨w.heap.size + 1, 2, none⟩ (.int .i64 y2)).setCell ⟨w.heap.size + 1, 3, none⟩ (.pointer q2) = WW := ⟨_, rfl⟩
      obtain ⟨z0, z1, z2, z3, vv, hvv, hf, hbb⟩ := ret_box4 (r := rt) k1 (by rw [hr1]; exact hv1) (by rw [hr2]; exact hv2) hs hg hWW
      cases hvv
      have HF := Lib.hid (show RtF w q (.returned (.tuple #[.agg #[.int .i64 y1, .pointer q1, .int .i64 y2, .pointer q2], .bool true])) WW from ⟨_, _, _, _, _, rfl, hbb, .inl ⟨rfl, rt, hr3, hr4, hf⟩⟩)
      clear hr1 hr2 hr3 hr4 hs hs2 hb2 hbV hzV hv1 hv2 k1 j0 i0 hf hbb
      go_wp2_with fail
      exact bodyPost_ret (v := .tuple #[.agg #[.int .i64 y1, .pointer q1, .int .i64 y2, .pointer q2], .bool true]) (by simp [results, Tryz.results87, go_sem, z0, z1, z2, z3]) rfl HF.out
    · obtain ⟨y2, q2, rfl⟩ := hv2.two
      obtain ⟨V, hV, hbV, i0, hzV⟩ := box1 w2 #[.int .i64 y2, .pointer q2] 63 (ip2 _ _)
      have k1 := k1.below hbV
      have hs := hs.trans (hbV.mono hs.size)
      have c0 := k1.c0
      have c1 := k1.c1
      have c2 := k1.c2
      have c3 := k1.c3
      have f0 := k1.f 0
      have f1 := k1.f 1
      have f2 := k1.f 2
      have f3 := k1.f 3
      obtain ⟨WW, hWW⟩ : ∃ WW, (((V.setCell ⟨w.heap.size + 1, 0, none⟩ (.int .i64 0)).setCell ⟨w.heap.size + 1, 1, none⟩ (.pointer none)).setCell ⟨w.heap.size + 1, 2, none⟩ (.int .i64 0)).setCell ⟨w.heap.size + 1, 3, none⟩ (.pointer none) = WW := ⟨_, rfl⟩
      obtain ⟨z0, z1, z2, z3, hbb⟩ := zero_box4 k1 hs hg hWW
      have HF := Lib.hid (show RtF w q (.returned (.tuple #[.agg #[.int .i64 0, .pointer none, .int .i64 0, .pointer none], .bool false])) WW from ⟨_, _, _, _, _, rfl, hbb, .inr ⟨rfl, sq_none2 hno⟩⟩)
      clear hno hs hb2 hbV hzV hv1 hv2 k1 j0 i0 hbb
      go_wp2_with fail
      exact bodyPost_ret (v := .tuple #[.agg #[.int .i64 0, .pointer none, .int .i64 0, .pointer none], .bool false]) (by simp [results, Tryz.results87, go_sem, z0, z1, z2, z3]) rfl HF.out
  · obtain ⟨y2, q2, rfl⟩ := hv1.two
    obtain ⟨V, hV, hbV, i0, hzV⟩ := box1 w1 #[.int .i64 y2, .pointer q2] 63 (ip2 _ _)
    have k1 := k1.below hbV
    have hs := hs.trans (hbV.mono hs.size)
    have c0 := k1.c0
    have c1 := k1.c1
    have c2 := k1.c2
    have c3 := k1.c3
    have f0 := k1.f 0
    have f1 := k1.f 1
    have f2 := k1.f 2
    have f3 := k1.f 3
    obtain ⟨WW, hWW⟩ : ∃ WW, (((V.setCell ⟨w.heap.size + 1, 0, none⟩ (.int .i64 0)).setCell ⟨w.heap.size + 1, 1, none⟩ (.pointer none)).setCell ⟨w.heap.size + 1, 2, none⟩ (.int .i64 0)).setCell ⟨w.heap.size + 1, 3, none⟩ (.pointer none) = WW := ⟨_, rfl⟩
    obtain ⟨z0, z1, z2, z3, hbb⟩ := zero_box4 k1 hs hg hWW
    have HF := Lib.hid (show RtF w q (.returned (.tuple #[.agg #[.int .i64 0, .pointer none, .int .i64 0, .pointer none], .bool false])) WW from ⟨_, _, _, _, _, rfl, hbb, .inr ⟨rfl, sq_none1 hno⟩⟩)
    clear hno hs hb1 hbV hzV hv1 k0 k1 i0 hbb
    go_wp2_with fail
    exact bodyPost_ret (v := .tuple #[.agg #[.int .i64 0, .pointer none, .int .i64 0, .pointer none], .bool false]) (by simp [results, Tryz.results87, go_sem, z0, z1, z2, z3]) rfl HF.out
end Go.Proofs.YtekghemhccfhkaaGreatDoor
