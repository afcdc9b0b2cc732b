/-
  Walks of the program's functions: FracB, FracC, FracD, FracE, RedL, PowIp.
-/
import Derived.Test.YtekghemhccfhkaaGreatDoorB33
import Derived.Test.YtekghemhccfhkaaGreatDoorB20
import Derived.Deep.RegionHeld3
namespace Go.Proofs.YtekghemhccfhkaaGreatDoor
open Go.RowKit Go.Big
theorem inv_neg_parts {q : Rat} (h : q.num < 0) : (q⁻¹).num = -(q.den : Int) ∧ ((q⁻¹).den : Int) = -q.num := by
  have hq : q ≠ 0 := fun e => by rw [e] at h; exact absurd h (by decide)
  have := rat_inv q hq
  rw [if_pos h] at this
  exact ⟨this.1, by rw [this.2]; omega⟩
theorem inv_pos_parts {q : Rat} (h : 0 < q.num) : (q⁻¹).num = (q.den : Int) ∧ ((q⁻¹).den : Int) = q.num := by
  have hq : q ≠ 0 := fun e => by rw [e] at h; exact absurd h (by decide)
  have := rat_inv q hq
  rw [if_neg (by omega)] at this
  exact ⟨this.1, by rw [this.2]; omega⟩
theorem sign_at {v : Value} {n s : Int} {w : World} (h : IntV w v n) (hs : Int.sign n = s) : Calls Tryz.prog 65 #[v] w (RetI w s) := by rw [← hs]; exact sign_any h
set_option maxRecDepth 100000 in
set_option maxHeartbeats 4000000 in
theorem whole_any {v : Value} {n : Int} {w : World} (h : IntV w v n) : Calls Tryz.prog 98 #[v] w (RetF w (n : Rat)) := by
  obtain ⟨x, p, rfl⟩ := h.two
  obtain ⟨w0, hw0, hs, k0, k1, hz⟩ := boxes2 w #[.int .i64 x, .pointer p] 63 #[.int .i64 0, .pointer none, .int .i64 0, .pointer none] 65 (ip2 _ _) (ip4 _ _ _ _)
  have k0 : K2 (w.heap.size) x p w0 := k0
  have k1 : K4 (w.heap.size + 1) 0 none 0 none w0 := k1
  have HV := Lib.hid h
  clear h hz
  have ek00 := k0.c0
  have ek01 := k0.c1
  have k0 : K2 (w.heap.size) x p w0.drew := k0
  have k1 : K4 (w.heap.size + 1) 0 none 0 none w0.drew := k1
  have hs : Below w.heap.size w w0.drew := hs.drew
  have n_k0 : w.heap.size ≠ w.heap.size + 1 := by omega
  have hg : w.heap.size ≤ w.heap.size + 1 := by omega
  go_enter Tryz.func98, Tryz.ntmps98
  go_wp2_with fail
  go_region_held3 (fun w' => w'.cell? ⟨w.heap.size, 0, none⟩ = some (.int .i64 x) ∧ w'.cell? ⟨w.heap.size, 1, none⟩ = some (.pointer p) ∧ Below w.heap.size w w') (first | (with_reducible exact ⟨k0.c0, k0.c1, hs⟩) | (with_reducible exact ⟨(k0.o4 n_k0 _ _ _ _).c0, (k0.o4 n_k0 _ _ _ _).c1, hs.st4 hg _ _ _ _⟩) | fail) (first | (go_at_call 59; (with_reducible refine (fromInt64_any isS_one _).mono ?_); rintro e w1 ⟨v1, rfl, hv1, hb1⟩; have k0 := k0.below hb1; have k1 := k1.below hb1; have hs := hs.trans (hb1.mono hs.size); obtain ⟨y', q', rfl⟩ := hv1.two; have c0 := k1.c0; have c1 := k1.c1; have c2 := k1.c2; have c3 := k1.c3; have f0 := k1.f 0; have f1 := k1.f 1; have f2 := k1.f 2; have f3 := k1.f 3) | fail)
  obtain ⟨W, hW⟩ : ∃ W, (((w1.setCell ⟨w.heap.size + 1, 0, none⟩ (.int .i64 x)).setCell ⟨w.heap.size + 1, 1, none⟩ (.pointer p)).setCell ⟨w.heap.size + 1, 2, none⟩ (.int .i64 y')).setCell ⟨w.heap.size + 1, 3, none⟩ (.pointer q') = W := ⟨_, rfl⟩
  rw [hW]
  obtain ⟨z0, z1, z2, z3, z4⟩ := ret_box4 (r := (n : Rat)) k1 (by rw [Rat.num_intCast]; exact HV.out.below hs) (by rw [Rat.den_intCast]; exact hv1) hs hg hW
  have HZ := Lib.hid z4
  clear k0 k1 hs hb1 hv1 c0 c1 c2 c3 f0 f1 f2 f3 hW z4
  go_wp2_with fail
  exact bodyPost_ret (v := .agg #[.int .i64 x, .pointer p, .int .i64 y', .pointer q']) (by simp [results, Tryz.results98, go_sem, z0, z1, z2, z3]) rfl HZ.out
set_option maxRecDepth 100000 in
set_option maxHeartbeats 4000000 in
theorem inverse_neg {v : Value} {q : Rat} {w : World} (h : FracV w v q) (hn : q.num < 0) : Calls Tryz.prog 82 #[v] w (RetF w q⁻¹) := by
  have HI := Lib.hid (inv_neg_parts hn)
  have HSG := Lib.hid (Int.sign_eq_neg_one_of_neg hn)
  clear hn
  obtain ⟨a, p, b, r, rfl, ha, hb⟩ := h
  obtain ⟨w0, hw0, hs, k0, k1, hz⟩ := boxes2 w #[.int .i64 a, .pointer p, .int .i64 b, .pointer r] 65 #[.int .i64 0, .pointer none, .int .i64 0, .pointer none] 65 (ip4 _ _ _ _) (ip4 _ _ _ _)
  have k0 : K4 (w.heap.size) a p b r w0 := k0
  have k1 : K4 (w.heap.size + 1) 0 none 0 none w0 := k1
  have HA := Lib.hid ha
  have HD := Lib.hid hb
  clear ha hb hz
  have ek00 := k0.c0
  have ek01 := k0.c1
  have ek02 := k0.c2
  have ek03 := k0.c3
  go_enter Tryz.func82, Tryz.ntmps82
  go_wp2_with fail
  refine (sign_at (HA.out.below hs) HSG.out).mono ?_
  rintro e w1 ⟨rfl, hb1⟩
  have k0 := k0.below hb1
  have k1 := k1.below hb1
  have hs := hs.trans (hb1.mono hs.size)
  clear ek00 ek01 ek02 ek03
  have ek00 := k0.c0
  have ek01 := k0.c1
  have ek02 := k0.c2
  have ek03 := k0.c3
  go_wp2_with fail
  have k0 : K4 (w.heap.size) a p b r w1.drew := k0
  have k1 : K4 (w.heap.size + 1) 0 none 0 none w1.drew := k1
  have hs : Below w.heap.size w w1.drew := hs.drew
  have n_k0 : w.heap.size ≠ w.heap.size + 1 := by omega
  have hg : w.heap.size ≤ w.heap.size + 1 := by omega
  go_region_held3 (fun w' => w'.cell? ⟨w.heap.size, 0, none⟩ = some (.int .i64 a) ∧ w'.cell? ⟨w.heap.size, 1, none⟩ = some (.pointer p) ∧ w'.cell? ⟨w.heap.size, 2, none⟩ = some (.int .i64 b) ∧ w'.cell? ⟨w.heap.size, 3, none⟩ = some (.pointer r) ∧ Below w.heap.size w w') (first | (with_reducible exact ⟨k0.c0, k0.c1, k0.c2, k0.c3, hs⟩) | (with_reducible exact ⟨(k0.o4 n_k0 _ _ _ _).c0, (k0.o4 n_k0 _ _ _ _).c1, (k0.o4 n_k0 _ _ _ _).c2, (k0.o4 n_k0 _ _ _ _).c3, hs.st4 hg _ _ _ _⟩) | fail) (first | (go_at_call 66; (with_reducible refine (negI_any (HD.out.below hs)).mono ?_); rintro e w2 ⟨v2, rfl, hv2, hb2⟩; have k0 := k0.below hb2; have k1 := k1.below hb2; have hs := hs.trans (hb2.mono hs.size)) | (go_at_call 66; (with_reducible refine (negI_any (HA.out.below hs)).mono ?_); rintro e w3 ⟨v3, rfl, hv3, hb3⟩; have k0 := k0.below hb3; have k1 := k1.below hb3; have hs := hs.trans (hb3.mono hs.size); have hv2 := hv2.below hb3; obtain ⟨y2, q2, rfl⟩ := hv2.two; obtain ⟨y3, q3, rfl⟩ := hv3.two; have c0 := k1.c0; have c1 := k1.c1; have c2 := k1.c2; have c3 := k1.c3; have f0 := k1.f 0; have f1 := k1.f 1; have f2 := k1.f 2; have f3 := k1.f 3) | fail)
  obtain ⟨W, hW⟩ : ∃ W, (((w3.setCell ⟨w.heap.size + 1, 0, none⟩ (.int .i64 y2)).setCell ⟨w.heap.size + 1, 1, none⟩ (.pointer q2)).setCell ⟨w.heap.size + 1, 2, none⟩ (.int .i64 y3)).setCell ⟨w.heap.size + 1, 3, none⟩ (.pointer q3) = W := ⟨_, rfl⟩
  rw [hW]
  obtain ⟨z0, z1, z2, z3, z4⟩ := ret_box4 (r := q⁻¹) k1 (by rw [HI.out.1]; exact hv2) (by rw [HI.out.2]; exact hv3) hs hg hW
  have HZ := Lib.hid z4
  clear hs c0 c1 c2 c3 f0 f1 f2 f3 hW z4 k0 k1 hb1 hb2 hb3 hv2 hv3
  go_wp2_with fail
  exact bodyPost_ret (v := .agg #[.int .i64 y2, .pointer q2, .int .i64 y3, .pointer q3]) (by simp [results, Tryz.results82, go_sem, z0, z1, z2, z3]) rfl HZ.out
set_option maxRecDepth 100000 in
set_option maxHeartbeats 4000000 in
theorem inverse_pos {v : Value} {q : Rat} {w : World} (h : FracV w v q) (hn : 0 < q.num) : Calls Tryz.prog 82 #[v] w (RetF w q⁻¹) := by
  have HI := Lib.hid (inv_pos_parts hn)
  have HSG := Lib.hid (Int.sign_eq_one_of_pos hn)
  clear hn
  obtain ⟨a, p, b, r, rfl, ha, hb⟩ := h
  obtain ⟨w0, hw0, hs, k0, k1, hz⟩ := boxes2 w #[.int .i64 a, .pointer p, .int .i64 b, .pointer r] 65 #[.int .i64 0, .pointer none, .int .i64 0, .pointer none] 65 (ip4 _ _ _ _) (ip4 _ _ _ _)
  have k0 : K4 (w.heap.size) a p b r w0 := k0
  have k1 : K4 (w.heap.size + 1) 0 none 0 none w0 := k1
  have HA := Lib.hid ha
  have HD := Lib.hid hb
  clear ha hb hz
  have ek00 := k0.c0
  have ek01 := k0.c1
  have ek02 := k0.c2
  have ek03 := k0.c3
  go_enter Tryz.func82, Tryz.ntmps82
  go_wp2_with fail
  refine (sign_at (HA.out.below hs) HSG.out).mono ?_
  rintro e w1 ⟨rfl, hb1⟩
  have k0 := k0.below hb1
  have k1 := k1.below hb1
  have hs := hs.trans (hb1.mono hs.size)
  clear ek00 ek01 ek02 ek03
  have ek00 := k0.c0
  have ek01 := k0.c1
  have ek02 := k0.c2
  have ek03 := k0.c3
  have n_k0 : w.heap.size ≠ w.heap.size + 1 := by omega
  have hg : w.heap.size ≤ w.heap.size + 1 := by omega
  have c0 := k1.c0
  have c1 := k1.c1
  have c2 := k1.c2
  have c3 := k1.c3
  have f0 := k1.f 0
  have f1 := k1.f 1
  have f2 := k1.f 2
  have f3 := k1.f 3
  obtain ⟨W, hW⟩ : ∃ W, (((w1.setCell ⟨w.heap.size + 1, 0, none⟩ (.int .i64 b)).setCell ⟨w.heap.size + 1, 1, none⟩ (.pointer r)).setCell ⟨w.heap.size + 1, 2, none⟩ (.int .i64 a)).setCell ⟨w.heap.size + 1, 3, none⟩ (.pointer p) = W := ⟨_, rfl⟩
  obtain ⟨z0, z1, z2, z3, z4⟩ := ret_box4 (r := q⁻¹) k1 (by rw [HI.out.1]; exact HD.out.below hs) (by rw [HI.out.2]; exact HA.out.below hs) hs hg hW
  have HZ := Lib.hid z4
  clear hs z4 k0 k1 hb1
  go_wp2_with fail
  exact bodyPost_ret (v := .agg #[.int .i64 b, .pointer r, .int .i64 a, .pointer p]) (by simp [results, Tryz.results82, go_sem, z0, z1, z2, z3]) rfl HZ.out
theorem inverse_any {v : Value} {q : Rat} {w : World} (h : FracV w v q) (hq : q ≠ 0) : Calls Tryz.prog 82 #[v] w (RetF w q⁻¹) := by
  have hn : q.num ≠ 0 := fun e => hq (Rat.num_eq_zero.1 e)
  rcases Int.lt_trichotomy q.num 0 with h1 | h1 | h1
  · exact inverse_neg h h1
  · exact absurd h1 hn
  · exact inverse_pos h h1
set_option maxRecDepth 100000 in
set_option maxHeartbeats 4000000 in
theorem compareF_any {v v' : Value} {q1 q2 : Rat} {K : Nat} {w : World} (h : FracV w v q1) (h' : FracV w v' q2) (hK : K < 100) (s1 : Sz K q1) (s2 : Sz K q2) : Calls Tryz.prog 78 #[v, v'] w (RetI w (cmpInt (q1.num * q2.den) (q2.num * q1.den))) := by
  obtain ⟨a, p, b, r, rfl, ha, hb⟩ := h
  obtain ⟨c, s, d, t, rfl, hc, hd⟩ := h'
  obtain ⟨w0, hw0, hs, k0, k1, hz⟩ := boxes2 w #[.int .i64 a, .pointer p, .int .i64 b, .pointer r] 65 #[.int .i64 c, .pointer s, .int .i64 d, .pointer t] 65 (ip4 _ _ _ _) (ip4 _ _ _ _)
  have k0 : K4 (w.heap.size) a p b r w0 := k0
  have k1 : K4 (w.heap.size + 1) c s d t w0 := k1
  have HA := Lib.hid ha
  have HB := Lib.hid hb
  have HC := Lib.hid hc
  have HD := Lib.hid hd
  have HK := Lib.hid (And.intro (And.intro s1.1 (by rw [Int.natAbs_natCast]; exact s1.2 : (q1.den : Int).natAbs < _)) (And.intro s2.1 (by rw [Int.natAbs_natCast]; exact s2.2 : (q2.den : Int).natAbs < _)))
  clear ha hb hc hd hz
  have ek00 := k0.c0
  have ek01 := k0.c1
  have ek02 := k0.c2
  have ek03 := k0.c3
  have ek10 := k1.c0
  have ek11 := k1.c1
  have ek12 := k1.c2
  have ek13 := k1.c3
  have k0 : K4 (w.heap.size) a p b r w0.drew := k0
  have k1 : K4 (w.heap.size + 1) c s d t w0.drew := k1
  have hs : Below w.heap.size w w0.drew := hs.drew
  go_enter Tryz.func78, Tryz.ntmps78
  go_wp2_with fail
  go_region_held3 (fun w' => w'.cell? ⟨w.heap.size, 0, none⟩ = some (.int .i64 a) ∧ w'.cell? ⟨w.heap.size, 1, none⟩ = some (.pointer p) ∧ w'.cell? ⟨w.heap.size, 2, none⟩ = some (.int .i64 b) ∧ w'.cell? ⟨w.heap.size, 3, none⟩ = some (.pointer r) ∧ w'.cell? ⟨w.heap.size + 1, 0, none⟩ = some (.int .i64 c) ∧ w'.cell? ⟨w.heap.size + 1, 1, none⟩ = some (.pointer s) ∧ w'.cell? ⟨w.heap.size + 1, 2, none⟩ = some (.int .i64 d) ∧ w'.cell? ⟨w.heap.size + 1, 3, none⟩ = some (.pointer t) ∧ Below w.heap.size w w') (first | (with_reducible exact ⟨k0.c0, k0.c1, k0.c2, k0.c3, k1.c0, k1.c1, k1.c2, k1.c3, hs⟩) | fail) (first | (go_at_call 121; (with_reducible refine (mulI_any (HA.out.below hs) (HD.out.below hs) hK HK.out.1.1 HK.out.2.2).mono ?_); rintro e w1 ⟨v1, rfl, hv1, hb1⟩; have k0 := k0.below hb1; have k1 := k1.below hb1; have hs := hs.trans (hb1.mono hs.size)) | (go_at_call 121; (with_reducible refine (mulI_any (HC.out.below hs) (HB.out.below hs) hK HK.out.2.1 HK.out.1.2).mono ?_); rintro e w2 ⟨v2, rfl, hv2, hb2⟩; have k0 := k0.below hb2; have k1 := k1.below hb2; have hs := hs.trans (hb2.mono hs.size); have hv1 := hv1.below hb2) | (go_at_call 122; (with_reducible refine (compareI_any hv1 hv2).mono ?_); rintro e w3 ⟨rfl, hb3⟩; have k0 := k0.below hb3; have k1 := k1.below hb3; have hs := hs.trans (hb3.mono hs.size)) | fail)
  have HS := Lib.hid hs
  clear k0 k1 hs hb1 hb2 hb3 hv1 hv2
  go_wp2_with fail
  go_ret
  exact ⟨rfl, HS.out⟩
end Go.Proofs.YtekghemhccfhkaaGreatDoor
namespace Go.Big
open Go Go.RowKit
end Go.Big
namespace Go.Proofs.YtekghemhccfhkaaGreatDoor
open Go.RowKit Go.Big
set_option maxRecDepth 100000 in
set_option maxHeartbeats 4000000 in
theorem cancel_any {vx vy : Value} {n : Int} {c K : Nat} {w : World} (hx : IntV w vx n) (hy : IntV w vy (c : Int)) (hc0 : 0 < c) (hK : K < 239) (hn : n.natAbs < B64 ^ K) (hc : c < B64 ^ K) : Calls Tryz.prog 115 #[vx, vy] w (RetInt w (n / (c : Int))) := by
  obtain ⟨x, p, rfl⟩ := hx.two
  obtain ⟨y, q, rfl⟩ := hy.two
  obtain ⟨w0, hw0, hs, k0, k1, k2, hz⟩ := boxes3 w #[.int .i64 x, .pointer p] 63 #[.int .i64 y, .pointer q] 63 #[.int .i64 0, .pointer none] 63 (ip2 _ _) (ip2 _ _) (ip2 _ _)
  have k0 : K2 (w.heap.size) x p w0 := k0
  have k1 : K2 (w.heap.size + 1) y q w0 := k1
  have k2 : K2 (w.heap.size + 2) 0 none w0 := k2
  have HX := Lib.hid hx
  have HY := Lib.hid hy
  have HK := Lib.hid (And.intro hn hc)
  have HC := Lib.hid hc0
  have hg : w.heap.size ≤ w.heap.size + 2 := by omega
  clear hx hy hz hn hc hc0
  by_cases h1 : c = 1
  · have H1 := Lib.hid h1
    clear h1
    have ek00 := k0.c0
    have ek01 := k0.c1
    have ek10 := k1.c0
    have ek11 := k1.c1
    go_enter Tryz.func115, Tryz.ntmps115
    go_wp2_with fail
    refine (isOne_at (HY.out.below hs) (b := true) (by rw [H1.out]; rfl)).mono ?_
    rintro e w1 ⟨rfl, hb1⟩
    have k0 := k0.below hb1
    have k1 := k1.below hb1
    have k2 := k2.below hb1
    have hs := hs.trans (hb1.mono hs.size)
    clear ek00 ek01 ek10 ek11
    have ek00 := k0.c0
    have ek01 := k0.c1
    have ek10 := k1.c0
    have ek11 := k1.c1
    have c0 := k2.c0
    have c1 := k2.c1
    have f0 := k2.f 0
    have f1 := k2.f 1
    have hv := HX.out.below hs
    obtain ⟨z1, z2, z3⟩ := ret_box (w := w) k2 hv hs hg
    rw [show n = n / ((c : Nat) : Int) by rw [H1.out]; simp] at z3
    have HZ := Lib.hid z3
    clear k0 k1 k2 hs hb1 hv z3
    go_wp2_with fail
    exact bodyPost_ret (v := .agg #[.int .i64 x, .pointer p]) (by simp [results, Tryz.results115, go_sem, z1, z2]) rfl HZ.out
  · have H1 := Lib.hid h1
    clear h1
    have ek00 := k0.c0
    have ek01 := k0.c1
    have ek10 := k1.c0
    have ek11 := k1.c1
    go_enter Tryz.func115, Tryz.ntmps115
    go_wp2_with fail
    refine (isOne_at (HY.out.below hs) (b := false) (by rw [decide_eq_false_iff_not]; intro h; apply H1.out; omega)).mono ?_
    rintro e w1 ⟨rfl, hb1⟩
    have k0 := k0.below hb1
    have k1 := k1.below hb1
    have k2 := k2.below hb1
    have hs := hs.trans (hb1.mono hs.size)
    clear ek00 ek01 ek10 ek11
    have ek00 := k0.c0
    have ek01 := k0.c1
    have ek10 := k1.c0
    have ek11 := k1.c1
    have HD := Lib.hid (divI_any (HX.out.below hs) (HY.out.below hs) (by have := HC.out; omega) hK HK.out.1 (by rw [Int.natAbs_natCast]; exact HK.out.2))
    go_wp2_with fail
    refine HD.out.mono ?_
    rintro e w2 ⟨v2, v3, rfl, hv2, hv3, hb2⟩
    have k2 := k2.below hb2
    have hs := hs.trans (hb2.mono hs.size)
    obtain ⟨y2, q2, rfl⟩ := hv2.two
    obtain ⟨y3, q3, rfl⟩ := hv3.two
    obtain ⟨W3, hW3, hb3, j1, j2, hz3⟩ := pair_boxes w2 y2 q2 y3 q3
    have hv2 := hv2.below hb3
    have k2 := k2.below hb3
    have hs := hs.trans (hb3.mono hs.size)
    have d0 := j1.c0
    have d1 := j1.c1
    have c0 := k2.c0
    have c1 := k2.c1
    have f0 := k2.f 0
    have f1 := k2.f 1
    obtain ⟨z1, z2, z3⟩ := ret_box (w := w) k2 hv2 hs hg
    have HZ := Lib.hid z3
    clear k0 k1 k2 hs hb1 hb2 hb3 hv2 hv3 j1 j2 hz3 z3 ek00 ek01 ek10 ek11 HD
    go_wp2_with fail
    exact bodyPost_ret (v := .agg #[.int .i64 y2, .pointer q2]) (by simp [results, Tryz.results115, go_sem, z1, z2]) rfl HZ.out
set_option maxRecDepth 100000 in
set_option maxHeartbeats 4000000 in
theorem reduced_any {vx vy : Value} {n : Int} {d K : Nat} {qq : Rat} {w : World} (hx : IntV w vx n) (hy : IntV w vy (d : Int)) (hd0 : 0 < d) (hT : Tabs w) (hK : K < 239) (hn : n.natAbs < B64 ^ K) (hd : d < B64 ^ K) (hq : qq.num * d = n * qq.den) : Calls Tryz.prog 67 #[vx, vy] w (RetF w qq) := by
  obtain ⟨x, p, rfl⟩ := hx.two
  obtain ⟨y, q, rfl⟩ := hy.two
  obtain ⟨w0, hw0, hs, k0, k1, k2, hz⟩ := boxes3 w #[.int .i64 x, .pointer p] 63 #[.int .i64 y, .pointer q] 63 #[.int .i64 0, .pointer none, .int .i64 0, .pointer none] 65 (ip2 _ _) (ip2 _ _) (ip4 _ _ _ _)
  have k0 : K2 (w.heap.size) x p w0 := k0
  have k1 : K2 (w.heap.size + 1) y q w0 := k1
  have k2 : K4 (w.heap.size + 2) 0 none 0 none w0 := k2
  have HX := Lib.hid hx
  have HY := Lib.hid hy
  obtain ⟨G, hG⟩ : ∃ G, Nat.gcd n.natAbs d = G := ⟨_, rfl⟩
  have hG0 : 0 < G := by rw [← hG]; exact Nat.gcd_pos_of_pos_right _ hd0
  have hGd : G ≤ d := by rw [← hG]; exact Nat.gcd_le_right _ hd0
  have HR := Lib.hid (rat_reduce hd0 hq)
  rw [hG] at HR
  have HG := Lib.hid (by have := gcdI_any (HX.out.below hs) (HY.out.below hs) (tabs_below hT hs) hK hn (by rw [Int.natAbs_natCast]; exact hd); rw [Int.natAbs_natCast, hG] at this; exact this)
  have HK := Lib.hid (And.intro hn (And.intro hd (Nat.lt_of_le_of_lt hGd hd)))
  have HG0 := Lib.hid hG0
  have hg : w.heap.size ≤ w.heap.size + 2 := by omega
  clear hx hy hz hn hd hd0 hq hT hG hG0 hGd
  have ek00 := k0.c0
  have ek01 := k0.c1
  have ek10 := k1.c0
  have ek11 := k1.c1
  go_enter Tryz.func67, Tryz.ntmps67
  go_wp2_with fail
  refine HG.out.mono ?_
  rintro e w1 ⟨v1, rfl, hv1, hb1⟩
  obtain ⟨y1, q1, rfl⟩ := hv1.two
  have k0 := k0.below hb1
  have k1 := k1.below hb1
  have k2 := k2.below hb1
  have hs := hs.trans (hb1.mono hs.size)
  obtain ⟨W, hW, hbW, j0, hzW⟩ := box1 w1 #[.int .i64 y1, .pointer q1] 63 (ip2 _ _)
  have j0 : K2 (w1.heap.size) y1 q1 W := j0
  have hv1 := hv1.below hbW
  have hlt := Bx.lt k2
  have k0 := k0.below hbW
  have k1 := k1.below hbW
  have k2 := k2.below hbW
  have hs := hs.trans (hbW.mono hs.size)
  have hv1 := hv1.below (Below.refl W.heap.size W).drew
  clear ek00 ek01 ek10 ek11 hb1 hbW hzW HG
  go_wp2_with fail
  have k0 : K2 (w.heap.size) x p W.drew := k0
  have k1 : K2 (w.heap.size + 1) y q W.drew := k1
  have j0 : K2 (w1.heap.size) y1 q1 W.drew := j0
  have k2 : K4 (w.heap.size + 2) 0 none 0 none W.drew := k2
  have hs : Below w.heap.size w W.drew := hs.drew
  have n_k0 : w.heap.size ≠ w.heap.size + 2 := by omega
  have n_k1 : w.heap.size + 1 ≠ w.heap.size + 2 := by omega
  have n_j0 : w1.heap.size ≠ w.heap.size + 2 := by omega
  go_region_held3 (fun w' => w'.cell? ⟨w.heap.size, 0, none⟩ = some (.int .i64 x) ∧ w'.cell? ⟨w.heap.size, 1, none⟩ = some (.pointer p) ∧ w'.cell? ⟨w.heap.size + 1, 0, none⟩ = some (.int .i64 y) ∧ w'.cell? ⟨w.heap.size + 1, 1, none⟩ = some (.pointer q) ∧ w'.cell? ⟨w1.heap.size, 0, none⟩ = some (.int .i64 y1) ∧ w'.cell? ⟨w1.heap.size, 1, none⟩ = some (.pointer q1) ∧ Below w.heap.size w w') (first | (with_reducible exact ⟨k0.c0, k0.c1, k1.c0, k1.c1, j0.c0, j0.c1, hs⟩) | (with_reducible exact ⟨(k0.o4 n_k0 _ _ _ _).c0, (k0.o4 n_k0 _ _ _ _).c1, (k1.o4 n_k1 _ _ _ _).c0, (k1.o4 n_k1 _ _ _ _).c1, (j0.o4 n_j0 _ _ _ _).c0, (j0.o4 n_j0 _ _ _ _).c1, hs.st4 hg _ _ _ _⟩) | fail) (first | (go_at_call 115; (with_reducible refine (cancel_any (HX.out.below hs) hv1 HG0.out hK HK.out.1 HK.out.2.2).mono ?_); rintro e w2 ⟨v2, rfl, hv2, hb2⟩; have k0 := k0.below hb2; have k1 := k1.below hb2; have j0 := j0.below hb2; have k2 := k2.below hb2; have hs := hs.trans (hb2.mono hs.size); have hv1 := hv1.below hb2) | (go_at_call 115; (with_reducible refine (cancel_any (HY.out.below hs) hv1 HG0.out hK (by rw [Int.natAbs_natCast]; exact HK.out.2.1) HK.out.2.2).mono ?_); rintro e w3 ⟨v3, rfl, hv3, hb3⟩; have k0 := k0.below hb3; have k1 := k1.below hb3; have j0 := j0.below hb3; have k2 := k2.below hb3; have hs := hs.trans (hb3.mono hs.size); have hv2 := hv2.below hb3; obtain ⟨y2, q2, rfl⟩ := hv2.two; obtain ⟨y3, q3, rfl⟩ := hv3.two; have c0 := k2.c0; have c1 := k2.c1; have c2 := k2.c2; have c3 := k2.c3; have f0 := k2.f 0; have f1 := k2.f 1; have f2 := k2.f 2; have f3 := k2.f 3) | fail)
  obtain ⟨WW, hWW⟩ : ∃ WW, (((w3.setCell ⟨w.heap.size + 2, 0, none⟩ (.int .i64 y2)).setCell ⟨w.heap.size + 2, 1, none⟩ (.pointer q2)).setCell ⟨w.heap.size + 2, 2, none⟩ (.int .i64 y3)).setCell ⟨w.heap.size + 2, 3, none⟩ (.pointer q3) = WW := ⟨_, rfl⟩
  rw [hWW]
  obtain ⟨z0, z1, z2, z3, z4⟩ := ret_box4 (r := qq) k2 (by rw [HR.out.1]; exact hv2) (by rw [HR.out.2, Int.natCast_ediv]; exact hv3) hs hg hWW
  have HZ := Lib.hid z4
  clear hs c0 c1 c2 c3 f0 f1 f2 f3 hWW hW z4 k0 k1 k2 j0 hb2 hb3 hv1 hv2 hv3
  go_wp2_with fail
  exact bodyPost_ret (v := .agg #[.int .i64 y2, .pointer q2, .int .i64 y3, .pointer q3]) (by simp [results, Tryz.results67, go_sem, z0, z1, z2, z3]) rfl HZ.out
end Go.Proofs.YtekghemhccfhkaaGreatDoor
namespace Go.Proofs.YtekghemhccfhkaaGreatDoor
open Go.RowKit Go.Big
theorem one_den {q : Rat} : decide ((q.den : Int) = 1) = decide (q.den = 1) := by
  by_cases h : q.den = 1
  · rw [decide_eq_true h, decide_eq_true (by omega)]
  · rw [decide_eq_false h, decide_eq_false (by omega)]
theorem gcdI_at {vx vy : Value} {n m : Int} {K G : Nat} {w : World} (hx : IntV w vx n) (hy : IntV w vy m) (hT : Tabs w) (hK : K < 239) (hn : n.natAbs < B64 ^ K) (hm : m.natAbs < B64 ^ K) (hG : Nat.gcd n.natAbs m.natAbs = G) :
    Calls Tryz.prog 99 #[vx, vy] w (RetInt w (G : Nat)) := by rw [← hG]; exact gcdI_any hx hy hT hK hn hm
theorem cancel_nat {vx vy : Value} {n c K : Nat} {w : World} (hx : IntV w vx (n : Int)) (hy : IntV w vy (c : Int)) (hc0 : 0 < c) (hK : K < 239) (hn : n < B64 ^ K) (hc : c < B64 ^ K) : Calls Tryz.prog 115 #[vx, vy] w (RetInt w ((n / c : Nat) : Int)) := by
  rw [Int.natCast_ediv]; exact cancel_any hx hy hc0 hK (by rw [Int.natAbs_natCast]; exact hn) hc
theorem mul_nat {vx vy : Value} {n m K : Nat} {w : World} (hx : IntV w vx (n : Int)) (hy : IntV w vy (m : Int)) (hK : K < 100) (hn : n < B64 ^ K) (hm : m < B64 ^ K) : Calls Tryz.prog 121 #[vx, vy] w (RetInt w ((n * m : Nat) : Int)) := by
  rw [Int.natCast_mul]; exact mulI_any hx hy hK (by rw [Int.natAbs_natCast]; exact hn) (by rw [Int.natAbs_natCast]; exact hm)
theorem string_at {v : Value} {n : Int} {l : List UInt8} {w : World} (h : IntV w v n) (hT : TabsA w) (hn : n.natAbs < B64 ^ 31) (hl : itext n = l) : Calls Tryz.prog 60 #[v] w (RetStr w l) := by rw [← hl]; exact string_any h hT hn
theorem b31 : B64 ^ 31 ≤ 10 ^ 598 := Nat.le_of_ble_eq_true (by kernel_rfl)
theorem itext_len {n : Int} (h : n.natAbs < B64 ^ 31) : (itext n).length ≤ 700 := by
  have := dd_len (k := 598) (by decide) (Nat.lt_of_lt_of_le h b31)
  unfold itext
  split
  · rw [List.length_cons]; omega
  · omega
set_option maxRecDepth 100000 in
set_option maxHeartbeats 4000000 in
theorem textF_any {v : Value} {q : Rat} {w : World} (h : FracV w v q) (hT : TabsA w) (sq : Sz 31 q) : Calls Tryz.prog 68 #[v] w (RetStr w (rtext q)) := by
  obtain ⟨a, p, b, r, rfl, ha, hb⟩ := h
  obtain ⟨w0, hw0, hs, k0, hz⟩ := box1 w #[.int .i64 a, .pointer p, .int .i64 b, .pointer r] 65 (ip4 _ _ _ _)
  have k0 : K4 (w.heap.size) a p b r w0 := k0
  have HA := Lib.hid ha
  have HB := Lib.hid hb
  have HS := Lib.hid (And.intro (show q.num.natAbs < B64 ^ 31 ∧ q.den < B64 ^ 31 from sq) hT)
  clear ha hb hz sq hT
  have ek00 := k0.c0
  have ek01 := k0.c1
  have ek02 := k0.c2
  have ek03 := k0.c3
  by_cases hd : q.den = 1
  · have HD := Lib.hid hd
    clear hd
    go_enter Tryz.func68, Tryz.ntmps68
    go_wp2_with fail
    refine (isOne_at (HB.out.below hs) (b := true) (by rw [one_den]; exact decide_eq_true HD.out)).mono ?_
    rintro e w1 ⟨rfl, hb1⟩
    have k0 := k0.below hb1
    have hs := hs.trans (hb1.mono hs.size)
    clear ek00 ek01 ek02 ek03
    have ek00 := k0.c0
    have ek01 := k0.c1
    have ek02 := k0.c2
    have ek03 := k0.c3
    go_wp2_with fail
    refine (string_any (HA.out.below hs) (HS.out.2.below hs) HS.out.1.1).mono ?_
    rintro e w2 ⟨rfl, hb2⟩
    have k0 := k0.below hb2
    have hs := hs.trans (hb2.mono hs.size)
    have HF := Lib.hid hs
    clear k0 hs hb1 hb2 ek00 ek01 ek02 ek03
    go_wp2_with fail
    go_ret
    exact ⟨by unfold rtext; rw [if_pos HD.out, List.append_nil]; rfl, HF.out⟩
  · have HD := Lib.hid hd
    clear hd
    go_enter Tryz.func68, Tryz.ntmps68
    go_wp2_with fail
    refine (isOne_at (HB.out.below hs) (b := false) (by rw [one_den]; exact decide_eq_false HD.out)).mono ?_
    rintro e w1 ⟨rfl, hb1⟩
    have k0 := k0.below hb1
    have hs := hs.trans (hb1.mono hs.size)
    clear ek00 ek01 ek02 ek03
    have ek00 := k0.c0
    have ek01 := k0.c1
    have ek02 := k0.c2
    have ek03 := k0.c3
    go_wp2_with fail
    have k0 : K4 (w.heap.size) a p b r w1.drew := k0
    have hs : Below w.heap.size w w1.drew := hs.drew
    obtain ⟨tn, htn⟩ : ∃ tn, itext q.num = tn := ⟨_, rfl⟩
    obtain ⟨td, htd⟩ : ∃ td, itext (q.den : Int) = td := ⟨_, rfl⟩
    have HTN := Lib.hid htn
    have HTD := Lib.hid htd
    have hln : tn.length ≤ 700 := by rw [← htn]; exact itext_len HS.out.1.1
    have hld : td.length ≤ 700 := by rw [← htd]; exact itext_len (by rw [Int.natAbs_natCast]; exact HS.out.1.2)
    have hc1 : ¬ (9223372036854775807 < tn.length + 1) := by omega
    have hc2 : ¬ (9223372036854775807 < tn.length + 1 + td.length) := by omega
    clear htn htd
    go_region_held3 (fun w' => w'.cell? ⟨w.heap.size, 0, none⟩ = some (.int .i64 a) ∧ w'.cell? ⟨w.heap.size, 1, none⟩ = some (.pointer p) ∧ w'.cell? ⟨w.heap.size, 2, none⟩ = some (.int .i64 b) ∧ w'.cell? ⟨w.heap.size, 3, none⟩ = some (.pointer r) ∧ Below w.heap.size w w') (first | (with_reducible exact ⟨k0.c0, k0.c1, k0.c2, k0.c3, hs⟩) | fail) (first | (go_at_call 60; (with_reducible refine (string_at (HA.out.below hs) (HS.out.2.below hs) HS.out.1.1 HTN.out).mono ?_); rintro e w2 ⟨rfl, hb2⟩; have k0 := k0.below hb2; have hs := hs.trans (hb2.mono hs.size)) | (go_at_call 60; (with_reducible refine (string_at (HB.out.below hs) (HS.out.2.below hs) (by rw [Int.natAbs_natCast]; exact HS.out.1.2) HTD.out).mono ?_); rintro e w3 ⟨rfl, hb3⟩; have k0 := k0.below hb3; have hs := hs.trans (hb3.mono hs.size)) | fail)
    have HF := Lib.hid hs
    clear k0 hs hb1 hb2 hb3 ek00 ek01 ek02 ek03
    go_wp2_with fail
    go_ret
    refine ⟨?_, HF.out⟩
    have e : rtext q = tn ++ 47 :: td := by unfold rtext; rw [if_neg HD.out, HTN.out, ← HTD.out]; congr 1
    rw [e]
    exact congrArg (fun t => Ending.returned (.string t)) (ByteArray.ext (by simp))
end Go.Proofs.YtekghemhccfhkaaGreatDoor
namespace Go.Big
open Go Go.RowKit
end Go.Big
namespace Go.Proofs.YtekghemhccfhkaaGreatDoor
open Go.RowKit Go.Big
theorem zero_box4 {w w3 : World} {g : Nat} {x0 y0 : Int} {p0 q0 : Option Addr} (k : K4 g x0 p0 y0 q0 w3) (s3 : Below w.heap.size w w3) (hg : w.heap.size ≤ g)
    {W : World} (hW : (((w3.setCell ⟨g, 0, none⟩ (.int .i64 0)).setCell ⟨g, 1, none⟩ (.pointer none)).setCell ⟨g, 2, none⟩ (.int .i64 0)).setCell ⟨g, 3, none⟩ (.pointer none) = W) :
    W.cell? ⟨g, 0, none⟩ = some (.int .i64 0) ∧ W.cell? ⟨g, 1, none⟩ = some (.pointer none) ∧ W.cell? ⟨g, 2, none⟩ = some (.int .i64 0) ∧ W.cell? ⟨g, 3, none⟩ = some (.pointer none) ∧ Below w.heap.size w W := by
  have hW : st4 w3 g 0 none 0 none = W := hW
  subst hW
  have k' := k.st 0 none 0 none
  exact ⟨k'.c0, k'.c1, k'.c2, k'.c3, below_st4 s3 hg 0 none 0 none⟩
end Go.Proofs.YtekghemhccfhkaaGreatDoor
namespace Go.Proofs.YtekghemhccfhkaaGreatDoor
open Go.RowKit Go.Big
theorem gcdI_one {vx vy : Value} {n m : Int} {w : World} (hx : IntV w vx n) (hy : IntV w vy m) (h1 : m = 1) : Calls Tryz.prog 99 #[vx, vy] w (RetInt w 1) := by
  obtain ⟨x, p, rfl⟩ := hx.two
  obtain ⟨y, q, rfl⟩ := hy.two
  by_cases h : n = 1
  · exact gcd_one1 hx hy h
  · exact gcd_one2 hx hy h h1
set_option maxRecDepth 100000 in
set_option maxHeartbeats 4000000 in
theorem cancel_one {vx vy : Value} {n : Int} {c : Nat} {w : World} (hx : IntV w vx n) (hy : IntV w vy (c : Int)) (h1 : c = 1) : Calls Tryz.prog 115 #[vx, vy] w (RetInt w (n / (c : Int))) := by
  obtain ⟨x, p, rfl⟩ := hx.two
  obtain ⟨y, q, rfl⟩ := hy.two
  obtain ⟨w0, hw0, hs, k0, k1, k2, hz⟩ := boxes3 w #[.int .i64 x, .pointer p] 63 #[.int .i64 y, .pointer q] 63 #[.int .i64 0, .pointer none] 63 (ip2 _ _) (ip2 _ _) (ip2 _ _)
  have k0 : K2 (w.heap.size) x p w0 := k0
  have k1 : K2 (w.heap.size + 1) y q w0 := k1
  have k2 : K2 (w.heap.size + 2) 0 none w0 := k2
  have HX := Lib.hid hx
  have HY := Lib.hid hy
  have hg : w.heap.size ≤ w.heap.size + 2 := by omega
  clear hx hy hz
  · have H1 := Lib.hid h1
    clear h1
    have ek00 := k0.c0
    have ek01 := k0.c1
    have ek10 := k1.c0
    have ek11 := k1.c1
    go_enter Tryz.func115, Tryz.ntmps115
    go_wp2_with fail
    refine (isOne_at (HY.out.below hs) (b := true) (by rw [H1.out]; rfl)).mono ?_
    rintro e w1 ⟨rfl, hb1⟩
    have k0 := k0.below hb1
    have k1 := k1.below hb1
    have k2 := k2.below hb1
    have hs := hs.trans (hb1.mono hs.size)
    clear ek00 ek01 ek10 ek11
    have ek00 := k0.c0
    have ek01 := k0.c1
    have ek10 := k1.c0
    have ek11 := k1.c1
    have c0 := k2.c0
    have c1 := k2.c1
    have f0 := k2.f 0
    have f1 := k2.f 1
    have hv := HX.out.below hs
    obtain ⟨z1, z2, z3⟩ := ret_box (w := w) k2 hv hs hg
    rw [show n = n / ((c : Nat) : Int) by rw [H1.out]; simp] at z3
    have HZ := Lib.hid z3
    clear k0 k1 k2 hs hb1 hv z3
    go_wp2_with fail
    exact bodyPost_ret (v := .agg #[.int .i64 x, .pointer p]) (by simp [results, Tryz.results115, go_sem, z1, z2]) rfl HZ.out
set_option maxRecDepth 100000 in
set_option maxHeartbeats 4000000 in
theorem reduced_one {vx vy : Value} {n : Int} {d : Nat} {qq : Rat} {w : World} (hx : IntV w vx n) (hy : IntV w vy (d : Int)) (hd1 : d = 1) (hq : qq.num * d = n * qq.den) : Calls Tryz.prog 67 #[vx, vy] w (RetF w qq) := by
  obtain ⟨x, p, rfl⟩ := hx.two
  obtain ⟨y, q, rfl⟩ := hy.two
  obtain ⟨w0, hw0, hs, k0, k1, k2, hz⟩ := boxes3 w #[.int .i64 x, .pointer p] 63 #[.int .i64 y, .pointer q] 63 #[.int .i64 0, .pointer none, .int .i64 0, .pointer none] 65 (ip2 _ _) (ip2 _ _) (ip4 _ _ _ _)
  have k0 : K2 (w.heap.size) x p w0 := k0
  have k1 : K2 (w.heap.size + 1) y q w0 := k1
  have k2 : K4 (w.heap.size + 2) 0 none 0 none w0 := k2
  have HX := Lib.hid hx
  have HY := Lib.hid hy
  have hd0 : 0 < d := by omega
  obtain ⟨G, hG⟩ : ∃ G, Nat.gcd n.natAbs d = G := ⟨_, rfl⟩
  have hG0 : G = 1 := by rw [← hG, hd1]; exact Nat.gcd_one_right _
  have HR := Lib.hid (rat_reduce hd0 hq)
  rw [hG] at HR
  have HG := Lib.hid (show Calls Tryz.prog 99 #[.agg #[.int .i64 x, .pointer p], .agg #[.int .i64 y, .pointer q]] w0 (RetInt w0 (G : Nat)) from by rw [hG0]; exact gcdI_one (HX.out.below hs) (HY.out.below hs) (by rw [hd1]; rfl))
  have HG0 := Lib.hid hG0
  have hg : w.heap.size ≤ w.heap.size + 2 := by omega
  clear hx hy hz hd0 hd1 hq hG hG0
  have ek00 := k0.c0
  have ek01 := k0.c1
  have ek10 := k1.c0
  have ek11 := k1.c1
  go_enter Tryz.func67, Tryz.ntmps67
  go_wp2_with fail
  refine HG.out.mono ?_
  rintro e w1 ⟨v1, rfl, hv1, hb1⟩
  obtain ⟨y1, q1, rfl⟩ := hv1.two
  have k0 := k0.below hb1
  have k1 := k1.below hb1
  have k2 := k2.below hb1
  have hs := hs.trans (hb1.mono hs.size)
  obtain ⟨W, hW, hbW, j0, hzW⟩ := box1 w1 #[.int .i64 y1, .pointer q1] 63 (ip2 _ _)
  have j0 : K2 (w1.heap.size) y1 q1 W := j0
  have hv1 := hv1.below hbW
  have hlt := Bx.lt k2
  have k0 := k0.below hbW
  have k1 := k1.below hbW
  have k2 := k2.below hbW
  have hs := hs.trans (hbW.mono hs.size)
  have hv1 := hv1.below (Below.refl W.heap.size W).drew
  clear ek00 ek01 ek10 ek11 hb1 hbW hzW HG
  go_wp2_with fail
  have k0 : K2 (w.heap.size) x p W.drew := k0
  have k1 : K2 (w.heap.size + 1) y q W.drew := k1
  have j0 : K2 (w1.heap.size) y1 q1 W.drew := j0
  have k2 : K4 (w.heap.size + 2) 0 none 0 none W.drew := k2
  have hs : Below w.heap.size w W.drew := hs.drew
  have n_k0 : w.heap.size ≠ w.heap.size + 2 := by omega
  have n_k1 : w.heap.size + 1 ≠ w.heap.size + 2 := by omega
  have n_j0 : w1.heap.size ≠ w.heap.size + 2 := by omega
  go_region_held3 (fun w' => w'.cell? ⟨w.heap.size, 0, none⟩ = some (.int .i64 x) ∧ w'.cell? ⟨w.heap.size, 1, none⟩ = some (.pointer p) ∧ w'.cell? ⟨w.heap.size + 1, 0, none⟩ = some (.int .i64 y) ∧ w'.cell? ⟨w.heap.size + 1, 1, none⟩ = some (.pointer q) ∧ w'.cell? ⟨w1.heap.size, 0, none⟩ = some (.int .i64 y1) ∧ w'.cell? ⟨w1.heap.size, 1, none⟩ = some (.pointer q1) ∧ Below w.heap.size w w') (first | (with_reducible exact ⟨k0.c0, k0.c1, k1.c0, k1.c1, j0.c0, j0.c1, hs⟩) | (with_reducible exact ⟨(k0.o4 n_k0 _ _ _ _).c0, (k0.o4 n_k0 _ _ _ _).c1, (k1.o4 n_k1 _ _ _ _).c0, (k1.o4 n_k1 _ _ _ _).c1, (j0.o4 n_j0 _ _ _ _).c0, (j0.o4 n_j0 _ _ _ _).c1, hs.st4 hg _ _ _ _⟩) | fail) (first | (go_at_call 115; (with_reducible refine (cancel_one (HX.out.below hs) hv1 HG0.out).mono ?_); rintro e w2 ⟨v2, rfl, hv2, hb2⟩; have k0 := k0.below hb2; have k1 := k1.below hb2; have j0 := j0.below hb2; have k2 := k2.below hb2; have hs := hs.trans (hb2.mono hs.size); have hv1 := hv1.below hb2) | (go_at_call 115; (with_reducible refine (cancel_one (HY.out.below hs) hv1 HG0.out).mono ?_); rintro e w3 ⟨v3, rfl, hv3, hb3⟩; have k0 := k0.below hb3; have k1 := k1.below hb3; have j0 := j0.below hb3; have k2 := k2.below hb3; have hs := hs.trans (hb3.mono hs.size); have hv2 := hv2.below hb3; obtain ⟨y2, q2, rfl⟩ := hv2.two; obtain ⟨y3, q3, rfl⟩ := hv3.two; have c0 := k2.c0; have c1 := k2.c1; have c2 := k2.c2; have c3 := k2.c3; have f0 := k2.f 0; have f1 := k2.f 1; have f2 := k2.f 2; have f3 := k2.f 3) | fail)
  obtain ⟨WW, hWW⟩ : ∃ WW, (((w3.setCell ⟨w.heap.size + 2, 0, none⟩ (.int .i64 y2)).setCell ⟨w.heap.size + 2, 1, none⟩ (.pointer q2)).setCell ⟨w.heap.size + 2, 2, none⟩ (.int .i64 y3)).setCell ⟨w.heap.size + 2, 3, none⟩ (.pointer q3) = WW := ⟨_, rfl⟩
  rw [hWW]
  obtain ⟨z0, z1, z2, z3, z4⟩ := ret_box4 (r := qq) k2 (by rw [HR.out.1]; exact hv2) (by rw [HR.out.2, Int.natCast_ediv]; exact hv3) hs hg hWW
  have HZ := Lib.hid z4
  clear hs c0 c1 c2 c3 f0 f1 f2 f3 hWW hW z4 k0 k1 k2 j0 hb2 hb3 hv1 hv2 hv3
  go_wp2_with fail
  exact bodyPost_ret (v := .agg #[.int .i64 y2, .pointer q2, .int .i64 y3, .pointer q3]) (by simp [results, Tryz.results67, go_sem, z0, z1, z2, z3]) rfl HZ.out
end Go.Proofs.YtekghemhccfhkaaGreatDoor
namespace Go.Proofs.YtekghemhccfhkaaGreatDoor
open Go.RowKit Go.Big
set_option linter.unusedSimpArgs false in
set_option maxRecDepth 100000 in
set_option maxHeartbeats 2000000 in
theorem powI_pos {v : Value} {n : Int} {t K : Nat} {w : World} (h : IntV w v n) (ht : t < 18446744073709551616) (hK : K < 100) (hK0 : 0 < K) (hp : n.natAbs ^ t < B64 ^ K) (hb : decide (n < 0) = false) : Calls Tryz.prog 124 #[v, .int .u64 t] w (RetInt w (n ^ t)) := by
  obtain ⟨x, p, rfl⟩ := h.two
  have htm : (t : Int).tmod 2 = (t : Int) % 2 := Int.tmod_eq_emod_of_nonneg (by omega)
  have hnx : ∀ w', Below w.heap.size w w' → Calls Tryz.prog 112 #[.agg #[.int .i64 x, .pointer p]] w' (RetBool w' false) := fun w' hb' => by rw [← hb]; exact negative_any (h.below hb')
  have HNX := Lib.hid hnx
  have HP := Lib.hid (And.intro ht (And.intro hK (And.intro hK0 hp)))
  have HE := Lib.hid (show signed false (n.natAbs ^ t) = n ^ t from signed_pow n t _ (by rw [hb]; simp))
  clear htm
  obtain ⟨w0, hw0, hb0, k0, k1, hsz⟩ := two_boxes w x p
  have HV := Lib.hid h
  have e1 := k0.c0
  have e2 := k0.c1
  have s1 : w0.drew.cell? ⟨w.heap.size, 0, none⟩ = some (.int .i64 x) := k0.c0
  have s2 : w0.drew.cell? ⟨w.heap.size, 1, none⟩ = some (.pointer p) := k0.c1
  have s3 := hb0.drew
  have k1 : K2 (w.heap.size + 1) 0 none w0.drew := k1
  have HSZ := Lib.hid hsz
  clear k0 hb0 h hsz
  clear ht hp hK hK0 hnx hb
  go_enter Tryz.func124, Tryz.ntmps124
  go_wp2_with fail
  refine wp_region_held_drew (S := (fun w' => w'.cell? ⟨w.heap.size, 0, none⟩ = some (.int .i64 x) ∧ w'.cell? ⟨w.heap.size, 1, none⟩ = some (.pointer p) ∧ Below w.heap.size w w')) (by kernel_rfl) ?_ (fun hHeld => ?_)
  · (try dsimp only); exact ⟨s1, s2, s3⟩
  refine wpAnyH_take (i := 0) (v := ?_) rfl (by kernel_rfl) (by kernel_rfl) (by kernel_rfl) (fun _ _ _ h => h) (Or.inl ⟨by rfl, ?_⟩) (by assumption) ?_
  rotate_left
  · intro w hSw; (try dsimp only at hSw); go_simp; (try with_reducible rfl)
  try simp only [Act.put, List.setIfInBounds_toArray, List.set_cons_zero, List.set_cons_succ, List.getElem_toArray, List.getElem_cons_zero, List.getElem_cons_succ]
  refine wpAnyH_take (i := 7) (v := ?_) rfl (by kernel_rfl) (by kernel_rfl) (by kernel_rfl) (fun _ _ _ h => h) (Or.inl ⟨by rfl, ?_⟩) (by assumption) ?_
  rotate_left
  · intro w hSw; (try dsimp only at hSw); go_simp; (try with_reducible rfl)
  try simp only [Act.put, List.setIfInBounds_toArray, List.set_cons_zero, List.set_cons_succ, List.getElem_toArray, List.getElem_cons_zero, List.getElem_cons_succ]
  refine wpAnyH_take (i := 9) (v := ?_) rfl (by kernel_rfl) (by kernel_rfl) (by kernel_rfl) (fun _ _ _ h => h) (Or.inl ⟨by rfl, ?_⟩) (by assumption) ?_
  rotate_left
  · intro w hSw; (try dsimp only at hSw); go_simp; (try with_reducible rfl)
  try simp only [Act.put, List.setIfInBounds_toArray, List.set_cons_zero, List.set_cons_succ, List.getElem_toArray, List.getElem_cons_zero, List.getElem_cons_succ]
  refine wpAnyH_ready (rs := [1]) (by kernel_rfl) (by simp) ?_
  refine AllReadyH.cons rfl (fun K hK => ?_) AllReadyH.nil
  go_simp
  refine (HNX.out _ s3).mono ?_
  rintro e w1 ⟨rfl, hb1⟩
  obtain ⟨s1, s2, s3, k1⟩ := s_step s1 s2 s3 k1 hb1
  go_wp2_with fail
  refine hK.out _ _ ?_ (fun hHeld => ?_)
  · (try dsimp only); (first | (with_reducible exact ⟨s1, s2, s3⟩) | ((with_reducible refine s_store s1 s2 s3 ?_ ?_) <;> omega))
  clear hK K
  try simp only [Act.put, List.setIfInBounds_toArray, List.set_cons_zero, List.set_cons_succ, List.getElem_toArray, List.getElem_cons_zero, List.getElem_cons_succ]
  refine wpAnyH_take (i := 2) (v := ?_) rfl (by kernel_rfl) (by kernel_rfl) (by kernel_rfl) (fun _ _ _ h => h) (Or.inl ⟨by rfl, ?_⟩) (by assumption) ?_
  rotate_left
  · intro w hSw; (try dsimp only at hSw); go_simp; (try with_reducible rfl)
  try simp only [Act.put, List.setIfInBounds_toArray, List.set_cons_zero, List.set_cons_succ, List.getElem_toArray, List.getElem_cons_zero, List.getElem_cons_succ]
  refine wpAnyH_take (i := 3) (v := undef) rfl (by kernel_rfl) (by kernel_rfl) (by kernel_rfl) (fun _ _ _ h => h) (Or.inr ⟨by rfl, rfl⟩) (by assumption) ?_
  try simp only [Act.put, List.setIfInBounds_toArray, List.set_cons_zero, List.set_cons_succ, List.getElem_toArray, List.getElem_cons_zero, List.getElem_cons_succ]
  refine wpAnyH_take (i := 4) (v := undef) rfl (by kernel_rfl) (by kernel_rfl) (by kernel_rfl) (fun _ _ _ h => h) (Or.inr ⟨by rfl, rfl⟩) (by assumption) ?_
  try simp only [Act.put, List.setIfInBounds_toArray, List.set_cons_zero, List.set_cons_succ, List.getElem_toArray, List.getElem_cons_zero, List.getElem_cons_succ]
  refine wpAnyH_take (i := 5) (v := undef) rfl (by kernel_rfl) (by kernel_rfl) (by kernel_rfl) (fun _ _ _ h => h) (Or.inr ⟨by rfl, rfl⟩) (by assumption) ?_
  try simp only [Act.put, List.setIfInBounds_toArray, List.set_cons_zero, List.set_cons_succ, List.getElem_toArray, List.getElem_cons_zero, List.getElem_cons_succ]
  refine wpAnyH_take (i := 6) (v := ?_) rfl (by kernel_rfl) (by kernel_rfl) (by kernel_rfl) (fun _ _ _ h => h) (Or.inl ⟨by rfl, ?_⟩) (by assumption) ?_
  rotate_left
  · intro w hSw; (try dsimp only at hSw); go_simp; (try with_reducible rfl)
  try simp only [Act.put, List.setIfInBounds_toArray, List.set_cons_zero, List.set_cons_succ, List.getElem_toArray, List.getElem_cons_zero, List.getElem_cons_succ]
  refine wpAnyH_ready (rs := [8]) (by kernel_rfl) (by simp) ?_
  refine AllReadyH.cons rfl (fun K hK => ?_) AllReadyH.nil
  go_simp
  refine (natural_any (HV.out.below s3)).mono ?_
  rintro e w2 ⟨v2, rfl, hv2, hb2⟩
  obtain ⟨s1, s2, s3, k1⟩ := s_step s1 s2 s3 k1 hb2
  go_wp2_with fail
  refine hK.out _ _ ?_ (fun hHeld => ?_)
  · (try dsimp only); (first | (with_reducible exact ⟨s1, s2, s3⟩) | ((with_reducible refine s_store s1 s2 s3 ?_ ?_) <;> omega))
  clear hK K
  try simp only [Act.put, List.setIfInBounds_toArray, List.set_cons_zero, List.set_cons_succ, List.getElem_toArray, List.getElem_cons_zero, List.getElem_cons_succ]
  refine wpAnyH_ready (rs := [10]) (by kernel_rfl) (by simp) ?_
  refine AllReadyH.cons rfl (fun K hK => ?_) AllReadyH.nil
  go_simp
  refine (power_any hv2 HP.out.1 HP.out.2.1 HP.out.2.2.1 HP.out.2.2.2).mono ?_
  rintro e w3 ⟨v3, rfl, hv3, hb3⟩
  obtain ⟨s1, s2, s3, k1⟩ := s_step s1 s2 s3 k1 hb3
  go_wp2_with fail
  refine hK.out _ _ ?_ (fun hHeld => ?_)
  · (try dsimp only); (first | (with_reducible exact ⟨s1, s2, s3⟩) | ((with_reducible refine s_store s1 s2 s3 ?_ ?_) <;> omega))
  clear hK K
  try simp only [Act.put, List.setIfInBounds_toArray, List.set_cons_zero, List.set_cons_succ, List.getElem_toArray, List.getElem_cons_zero, List.getElem_cons_succ]
  refine wpAnyH_ready (rs := [11]) (by kernel_rfl) (by simp) ?_
  refine AllReadyH.cons rfl (fun K hK => ?_) AllReadyH.nil
  go_simp
  refine (signed_any _ hv3).mono ?_
  rintro e w4 ⟨v4, rfl, hv4, hb4⟩
  obtain ⟨s1, s2, s3, k1⟩ := s_step s1 s2 s3 k1 hb4
  obtain ⟨y, q, rfl⟩ := hv4.two
  have c0 := k1.c0
  have c1 := k1.c1
  have f0 := k1.f 0
  have f1 := k1.f 1
  go_wp2_with fail
  refine hK.out _ _ ?_ (fun hHeld => ?_)
  · (try dsimp only); (first | (with_reducible exact ⟨s1, s2, s3⟩) | ((with_reducible refine s_store s1 s2 s3 ?_ ?_) <;> omega))
  clear hK K
  try simp only [Act.put, List.setIfInBounds_toArray, List.set_cons_zero, List.set_cons_succ, List.getElem_toArray, List.getElem_cons_zero, List.getElem_cons_succ]
  refine wpAnyH_ready (rs := [12]) (by kernel_rfl) (by simp) ?_
  refine AllReadyH.cons rfl (fun K hK => ?_) AllReadyH.nil
  go_simp
  refine hK.out _ _ ?_ (fun hHeld => ?_)
  · (try dsimp only); (first | (with_reducible exact ⟨s1, s2, s3⟩) | ((with_reducible refine s_store s1 s2 s3 ?_ ?_) <;> omega))
  clear hK K
  try simp only [Act.put, List.setIfInBounds_toArray, List.set_cons_zero, List.set_cons_succ, List.getElem_toArray, List.getElem_cons_zero, List.getElem_cons_succ]
  refine wpAnyH_done (by kernel_rfl) ?_ _
  obtain ⟨z1, z2, z3⟩ := ret_box k1 hv4 s3 (by omega)
  rw [HE.out] at z3
  have HZ := Lib.hid z3
  clear s1 s2 s3 k1 c0 c1 f0 f1 hb1 hb2 hb3 hb4 hv2 hv3 hv4 z3
  go_wp2_with fail
  exact bodyPost_ret (v := .agg #[.int .i64 y, .pointer q]) (by simp [results, Tryz.results124, go_sem, z1, z2]) rfl HZ.out
end Go.Proofs.YtekghemhccfhkaaGreatDoor
