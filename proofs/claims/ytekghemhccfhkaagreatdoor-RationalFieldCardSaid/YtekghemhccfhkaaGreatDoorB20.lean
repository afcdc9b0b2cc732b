/-
  Walks of the program's functions: FracD, FracE, FracF.
-/
import Derived.Test.YtekghemhccfhkaaGreatDoorB19
import Derived.Deep.CutRange
namespace Go.Proofs.YtekghemhccfhkaaGreatDoor
open Go.RowKit Go.Big
theorem one_den {q : Rat} : decide ((q.den : Int) = 1) = decide (q.den = 1) := by
  by_cases h : q.den = 1
  · rw [decide_eq_true h, decide_eq_true (by omega)]
  · rw [decide_eq_false h, decide_eq_false (by omega)]
theorem gcdI_at {vx vy : Value} {n m : Int} {K G : Nat} {w : World} (hx : IntV w vx n) (hy : IntV w vy m) (hT : Tabs w) (hK : K < 239) (hn : n.natAbs < B64 ^ K) (hm : m.natAbs < B64 ^ K) (hG : Nat.gcd n.natAbs m.natAbs = G) :
    Calls Tryz.prog 99 #[vx, vy] w (RetInt w (G : Nat)) := by rw [← hG]; exact gcdI_any hx hy hT hK hn hm
theorem cancel_nat {vx vy : Value} {n c K : Nat} {w : World} (hx : IntV w vx (n : Int)) (hy : IntV w vy (c : Int)) (hc0 : 0 < c) (hK : K < 239) (hn : n < B64 ^ K) (hc : c < B64 ^ K) : Calls Tryz.prog 115 #[vx, vy] w (RetInt w ((n / c : Nat) : Int)) := by
  rw [Int.natCast_ediv]; exact cancel_any hx hy hc0 hK (by rw [Int.natAbs_natCast]; exact hn) hc
theorem mul_nat {vx vy : Value} {n m K : Nat} {w : World} (hx : IntV w vx (n : Int)) (hy : IntV w vy (m : Int)) (hK : K < 100) (hn : n < B64 ^ K) (hm : m < B64 ^ K) : Calls Tryz.prog 121 #[vx, vy] w (RetInt w ((n * m : Nat) : Int)) := by
  rw [Int.natCast_mul]; exact mulI_any hx hy hK (by rw [Int.natAbs_natCast]; exact hn) (by rw [Int.natAbs_natCast]; exact hm)
set_option maxRecDepth 100000 in
set_option maxHeartbeats 4000000 in
theorem gcdF_any {v v' : Value} {q1 q2 : Rat} {K : Nat} {w : World} (h : FracV w v q1) (h' : FracV w v' q2) (hT : Tabs w) (hK : K < 100) (s1 : Sz K q1) (s2 : Sz K q2) : Calls Tryz.prog 92 #[v, v'] w (RetF w (rgcd q1 q2)) := by
  obtain ⟨a, p, b, r, rfl, ha, hb⟩ := h
  obtain ⟨c, s, d, t, rfl, hc, hd⟩ := h'
  obtain ⟨w0, hw0, hs, k0, k1, k2, hz⟩ := boxes3 w #[.int .i64 a, .pointer p, .int .i64 b, .pointer r] 65 #[.int .i64 c, .pointer s, .int .i64 d, .pointer t] 65 #[.int .i64 0, .pointer none, .int .i64 0, .pointer none] 65 (ip4 _ _ _ _) (ip4 _ _ _ _) (ip4 _ _ _ _)
  have k0 : K4 (w.heap.size) a p b r w0 := k0
  have k1 : K4 (w.heap.size + 1) c s d t w0 := k1
  have k2 : K4 (w.heap.size + 2) 0 none 0 none w0 := k2
  have HA := Lib.hid ha
  have HB := Lib.hid hb
  have HC := Lib.hid hc
  have HD := Lib.hid hd
  obtain ⟨G, hG⟩ : ∃ G, Nat.gcd q1.den q2.den = G := ⟨_, rfl⟩
  obtain ⟨M, hM⟩ : ∃ M, Nat.gcd q1.num.natAbs q2.num.natAbs = M := ⟨_, rfl⟩
  have hG0 : 0 < G := by rw [← hG]; exact Nat.gcd_pos_of_pos_right _ (rat_den_pos q2)
  have hGl : G < B64 ^ K := Nat.lt_of_le_of_lt (by rw [← hG]; exact Nat.gcd_le_left _ (rat_den_pos q1)) s1.2
  have HRN := Lib.hid (rgcd_num q1 q2)
  have HRD := Lib.hid (rgcd_den q1 q2)
  rw [hM] at HRN
  rw [hG] at HRD
  have HG := Lib.hid (gcdI_at (HB.out.below hs) (HD.out.below hs) (tabs_below hT hs) (show K < 239 by omega) (by rw [Int.natAbs_natCast]; exact s1.2) (by rw [Int.natAbs_natCast]; exact s2.2) hG)
  have HK := Lib.hid (And.intro (show q1.num.natAbs < B64 ^ K ∧ q1.den < B64 ^ K from s1) (And.intro (show q2.num.natAbs < B64 ^ K ∧ q2.den < B64 ^ K from s2) (And.intro hG0 (And.intro hGl (And.intro hM hT)))))
  have hg : w.heap.size ≤ w.heap.size + 2 := by omega
  clear ha hb hc hd hz hG hM hG0 hGl s1 s2 hT
  have ek00 := k0.c0
  have ek01 := k0.c1
  have ek02 := k0.c2
  have ek03 := k0.c3
  have ek10 := k1.c0
  have ek11 := k1.c1
  have ek12 := k1.c2
  have ek13 := k1.c3
  go_enter Tryz.func92, Tryz.ntmps92
  go_wp2_with fail
  refine HG.out.mono ?_
  rintro e w1 ⟨v1, rfl, hv1, hb1⟩
  obtain ⟨y1, q1', rfl⟩ := hv1.two
  have k0 := k0.below hb1
  have k1 := k1.below hb1
  have k2 := k2.below hb1
  have hs := hs.trans (hb1.mono hs.size)
  obtain ⟨W, hW, hbW, j0, hzW⟩ := box1 w1 #[.int .i64 y1, .pointer q1'] 63 (ip2 _ _)
  have j0 : K2 (w1.heap.size) y1 q1' W := j0
  have hv1 := hv1.below hbW
  have hlt := Bx.lt k2
  have k0 := k0.below hbW
  have k1 := k1.below hbW
  have k2 := k2.below hbW
  have hs := hs.trans (hbW.mono hs.size)
  have hv1 := hv1.below (Below.refl W.heap.size W).drew
  clear ek00 ek01 ek02 ek03 ek10 ek11 ek12 ek13 hb1 hbW hzW HG
  go_wp2_with fail
  have k0 : K4 (w.heap.size) a p b r W.drew := k0
  have k1 : K4 (w.heap.size + 1) c s d t W.drew := k1
  have j0 : K2 (w1.heap.size) y1 q1' W.drew := j0
  have k2 : K4 (w.heap.size + 2) 0 none 0 none W.drew := k2
  have hs : Below w.heap.size w W.drew := hs.drew
  have n_k0 : w.heap.size ≠ w.heap.size + 2 := by omega
  have n_k1 : w.heap.size + 1 ≠ w.heap.size + 2 := by omega
  have n_j0 : w1.heap.size ≠ w.heap.size + 2 := by omega
  have hK2 : K < 239 := by omega
  have hdl : q2.den / G < B64 ^ K := Nat.lt_of_le_of_lt (Nat.div_le_self _ _) HK.out.2.1.2
  go_region_held3 (fun w' => w'.cell? ⟨w.heap.size, 0, none⟩ = some (.int .i64 a) ∧ w'.cell? ⟨w.heap.size, 1, none⟩ = some (.pointer p) ∧ w'.cell? ⟨w.heap.size, 2, none⟩ = some (.int .i64 b) ∧ w'.cell? ⟨w.heap.size, 3, none⟩ = some (.pointer r) ∧ w'.cell? ⟨w.heap.size + 1, 0, none⟩ = some (.int .i64 c) ∧ w'.cell? ⟨w.heap.size + 1, 1, none⟩ = some (.pointer s) ∧ w'.cell? ⟨w.heap.size + 1, 2, none⟩ = some (.int .i64 d) ∧ w'.cell? ⟨w.heap.size + 1, 3, none⟩ = some (.pointer t) ∧ w'.cell? ⟨w1.heap.size, 0, none⟩ = some (.int .i64 y1) ∧ w'.cell? ⟨w1.heap.size, 1, none⟩ = some (.pointer q1') ∧ Below w.heap.size w w') (first | (with_reducible exact ⟨k0.c0, k0.c1, k0.c2, k0.c3, k1.c0, k1.c1, k1.c2, k1.c3, j0.c0, j0.c1, hs⟩) | (with_reducible exact ⟨(k0.o4 n_k0 _ _ _ _).c0, (k0.o4 n_k0 _ _ _ _).c1, (k0.o4 n_k0 _ _ _ _).c2, (k0.o4 n_k0 _ _ _ _).c3, (k1.o4 n_k1 _ _ _ _).c0, (k1.o4 n_k1 _ _ _ _).c1, (k1.o4 n_k1 _ _ _ _).c2, (k1.o4 n_k1 _ _ _ _).c3, (j0.o4 n_j0 _ _ _ _).c0, (j0.o4 n_j0 _ _ _ _).c1, hs.st4 hg _ _ _ _⟩) | fail) (first | (go_at_call 99; (with_reducible refine (gcdI_at (HA.out.below hs) (HC.out.below hs) (tabs_below HK.out.2.2.2.2.2 hs) hK2 HK.out.1.1 HK.out.2.1.1 HK.out.2.2.2.2.1).mono ?_); rintro e w2 ⟨v2, rfl, hv2, hb2⟩; have k0 := k0.below hb2; have k1 := k1.below hb2; have j0 := j0.below hb2; have k2 := k2.below hb2; have hs := hs.trans (hb2.mono hs.size); have hv1 := hv1.below hb2) | (go_at_call 115; (with_reducible refine (cancel_nat (HD.out.below hs) hv1 HK.out.2.2.1 hK2 HK.out.2.1.2 HK.out.2.2.2.1).mono ?_); rintro e w3 ⟨v3, rfl, hv3, hb3⟩; have k0 := k0.below hb3; have k1 := k1.below hb3; have j0 := j0.below hb3; have k2 := k2.below hb3; have hs := hs.trans (hb3.mono hs.size); have hv2 := hv2.below hb3) | (go_at_call 121; (with_reducible refine (mul_nat (HB.out.below hs) hv3 hK HK.out.1.2 hdl).mono ?_); rintro e w4 ⟨v4, rfl, hv4, hb4⟩; have k0 := k0.below hb4; have k1 := k1.below hb4; have j0 := j0.below hb4; have k2 := k2.below hb4; have hs := hs.trans (hb4.mono hs.size); have hv2 := hv2.below hb4; obtain ⟨y2, p2, rfl⟩ := hv2.two; obtain ⟨y4, p4, rfl⟩ := hv4.two; have c0 := k2.c0; have c1 := k2.c1; have c2 := k2.c2; have c3 := k2.c3; have f0 := k2.f 0; have f1 := k2.f 1; have f2 := k2.f 2; have f3 := k2.f 3) | fail)
  obtain ⟨WW, hWW⟩ : ∃ WW, (((w4.setCell ⟨w.heap.size + 2, 0, none⟩ (.int .i64 y2)).setCell ⟨w.heap.size + 2, 1, none⟩ (.pointer p2)).setCell ⟨w.heap.size + 2, 2, none⟩ (.int .i64 y4)).setCell ⟨w.heap.size + 2, 3, none⟩ (.pointer p4) = WW := ⟨_, rfl⟩
  rw [hWW]
  obtain ⟨z0, z1, z2, z3, z4⟩ := ret_box4 (r := rgcd q1 q2) k2 (by rw [HRN.out]; exact hv2) (by rw [HRD.out]; exact hv4) hs hg hWW
  have HZ := Lib.hid z4
  clear hs c0 c1 c2 c3 f0 f1 f2 f3 hWW hW z4 k0 k1 k2 j0 hb2 hb3 hb4 hv1 hv2 hv3 hv4
  go_wp2_with fail
  exact bodyPost_ret (v := .agg #[.int .i64 y2, .pointer p2, .int .i64 y4, .pointer p4]) (by simp [results, Tryz.results92, go_sem, z0, z1, z2, z3]) rfl HZ.out
theorem string_at {v : Value} {n : Int} {l : List UInt8} {w : World} (h : IntV w v n) (hT : TabsA w) (hn : n.natAbs < B64 ^ 31) (hl : itext n = l) : Calls Tryz.prog 60 #[v] w (RetStr w l) := by rw [← hl]; exact string_any h hT hn
theorem b31 : B64 ^ 31 ≤ 10 ^ 598 := Nat.le_of_ble_eq_true (by kernel_rfl)
theorem itext_len {n : Int} (h : n.natAbs < B64 ^ 31) : (itext n).length ≤ 700 := by
  have := dd_len (k := 598) (by decide) (Nat.lt_of_lt_of_le h b31)
  unfold itext
  split
  · rw [List.length_cons]; omega
  · omega
set_option maxRecDepth 100000 in
set_option maxHeartbeats 4000000 in
theorem textF_any {v : Value} {q : Rat} {w : World} (h : FracV w v q) (hT : TabsA w) (sq : Sz 31 q) : Calls Tryz.prog 68 #[v] w (RetStr w (rtext q)) := by
  obtain ⟨a, p, b, r, rfl, ha, hb⟩ := h
  obtain ⟨w0, hw0, hs, k0, hz⟩ := box1 w #[.int .i64 a, .pointer p, .int .i64 b, .pointer r] 65 (ip4 _ _ _ _)
  have k0 : K4 (w.heap.size) a p b r w0 := k0
  have HA := Lib.hid ha
  have HB := Lib.hid hb
  have HS := Lib.hid (And.intro (show q.num.natAbs < B64 ^ 31 ∧ q.den < B64 ^ 31 from sq) hT)
  clear ha hb hz sq hT
  have ek00 := k0.c0
  have ek01 := k0.c1
  have ek02 := k0.c2
  have ek03 := k0.c3
  by_cases hd : q.den = 1
  · have HD := Lib.hid hd
    clear hd
    go_enter Tryz.func68, Tryz.ntmps68
    go_wp2_with fail
    refine (isOne_at (HB.out.below hs) (b := true) (by rw [one_den]; exact decide_eq_true HD.out)).mono ?_
    rintro e w1 ⟨rfl, hb1⟩
    have k0 := k0.below hb1
    have hs := hs.trans (hb1.mono hs.size)
    clear ek00 ek01 ek02 ek03
    have ek00 := k0.c0
    have ek01 := k0.c1
    have ek02 := k0.c2
    have ek03 := k0.c3
    go_wp2_with fail
    refine (string_any (HA.out.below hs) (HS.out.2.below hs) HS.out.1.1).mono ?_
    rintro e w2 ⟨rfl, hb2⟩
    have k0 := k0.below hb2
    have hs := hs.trans (hb2.mono hs.size)
    have HF := Lib.hid hs
    clear k0 hs hb1 hb2 ek00 ek01 ek02 ek03
    go_wp2_with fail
    go_ret
    exact ⟨by unfold rtext; rw [if_pos HD.out, List.append_nil]; rfl, HF.out⟩
  · have HD := Lib.hid hd
    clear hd
    go_enter Tryz.func68, Tryz.ntmps68
    go_wp2_with fail
    refine (isOne_at (HB.out.below hs) (b := false) (by rw [one_den]; exact decide_eq_false HD.out)).mono ?_
    rintro e w1 ⟨rfl, hb1⟩
    have k0 := k0.below hb1
    have hs := hs.trans (hb1.mono hs.size)
    clear ek00 ek01 ek02 ek03
    have ek00 := k0.c0
    have ek01 := k0.c1
    have ek02 := k0.c2
    have ek03 := k0.c3
    go_wp2_with fail
    have k0 : K4 (w.heap.size) a p b r w1.drew := k0
    have hs : Below w.heap.size w w1.drew := hs.drew
    obtain ⟨tn, htn⟩ : ∃ tn, itext q.num = tn := ⟨_, rfl⟩
    obtain ⟨td, htd⟩ : ∃ td, itext (q.den : Int) = td := ⟨_, rfl⟩
    have HTN := Lib.hid htn
    have HTD := Lib.hid htd
    have hln : tn.length ≤ 700 := by rw [← htn]; exact itext_len HS.out.1.1
    have hld : td.length ≤ 700 := by rw [← htd]; exact itext_len (by rw [Int.natAbs_natCast]; exact HS.out.1.2)
    have hc1 : ¬ (9223372036854775807 < tn.length + 1) := by omega
    have hc2 : ¬ (9223372036854775807 < tn.length + 1 + td.length) := by omega
    clear htn htd
    go_region_held3 (fun w' => w'.cell? ⟨w.heap.size, 0, none⟩ = some (.int .i64 a) ∧ w'.cell? ⟨w.heap.size, 1, none⟩ = some (.pointer p) ∧ w'.cell? ⟨w.heap.size, 2, none⟩ = some (.int .i64 b) ∧ w'.cell? ⟨w.heap.size, 3, none⟩ = some (.pointer r) ∧ Below w.heap.size w w') (first | (with_reducible exact ⟨k0.c0, k0.c1, k0.c2, k0.c3, hs⟩) | fail) (first | (go_at_call 60; (with_reducible refine (string_at (HA.out.below hs) (HS.out.2.below hs) HS.out.1.1 HTN.out).mono ?_); rintro e w2 ⟨rfl, hb2⟩; have k0 := k0.below hb2; have hs := hs.trans (hb2.mono hs.size)) | (go_at_call 60; (with_reducible refine (string_at (HB.out.below hs) (HS.out.2.below hs) (by rw [Int.natAbs_natCast]; exact HS.out.1.2) HTD.out).mono ?_); rintro e w3 ⟨rfl, hb3⟩; have k0 := k0.below hb3; have hs := hs.trans (hb3.mono hs.size)) | fail)
    have HF := Lib.hid hs
    clear k0 hs hb1 hb2 hb3 ek00 ek01 ek02 ek03
    go_wp2_with fail
    go_ret
    refine ⟨?_, HF.out⟩
    have e : rtext q = tn ++ 47 :: td := by unfold rtext; rw [if_neg HD.out, HTN.out, ← HTD.out]; congr 1
    rw [e]
    exact congrArg (fun t => Ending.returned (.string t)) (ByteArray.ext (by simp))
end Go.Proofs.YtekghemhccfhkaaGreatDoor
namespace Go.Big
open Go Go.RowKit
theorem rat_sq (r : Rat) : (r * r).num = r.num * r.num ∧ (r * r).den = r.den * r.den := by
  have h := rat_mul_of r r (l := 1) (r := 1) r.reduced r.reduced
  simpa using h
theorem sq_cop {a b : Nat} (h : (a * a).Coprime (b * b)) : a.Coprime b := (h.coprime_dvd_left (Nat.dvd_mul_left a a)).coprime_dvd_right (Nat.dvd_mul_left b b)
theorem sq_make {q : Rat} {a b : Nat} (hn : q.num = (a : Int) * a) (hd : (q.den : Int) = (b : Int) * b) : ∃ r : Rat, r.num = (a : Int) ∧ (r.den : Int) = (b : Int) ∧ 0 ≤ r ∧ r * r = q := by
  have hd' : q.den = b * b := by have : (q.den : Int) = ((b * b : Nat) : Int) := by rw [hd]; push_cast; rfl
                                 omega
  have hb : b ≠ 0 := by rintro rfl; have := rat_den_pos q; omega
  have hc : (a * a).Coprime (b * b) := by
    have := q.reduced
    rw [hn, hd', Int.natAbs_mul, Int.natAbs_natCast] at this
    exact this
  refine ⟨⟨a, b, hb, by rw [Int.natAbs_natCast]; exact sq_cop hc⟩, rfl, rfl, ?_, ?_⟩
  · exact Rat.num_nonneg.1 (show (0 : Int) ≤ (a : Int) by omega)
  · obtain ⟨h1, h2⟩ := rat_sq ⟨a, b, hb, by rw [Int.natAbs_natCast]; exact sq_cop hc⟩
    exact Rat.ext (by rw [h1, hn]) (by rw [h2, hd'])
theorem sq_none1 {q : Rat} (h : ¬ ∃ s : Nat, q.num = (s : Int) * s) : ¬ ∃ r : Rat, r * r = q := by
  rintro ⟨r, rfl⟩
  apply h
  refine ⟨r.num.natAbs, ?_⟩
  rw [(rat_sq r).1, Int.natAbs_mul_self' r.num]
theorem sq_none2 {q : Rat} (h : ¬ ∃ s : Nat, (q.den : Int) = (s : Int) * s) : ¬ ∃ r : Rat, r * r = q := by
  rintro ⟨r, rfl⟩
  exact h ⟨r.den, by rw [(rat_sq r).2]; push_cast; rfl⟩
end Go.Big
namespace Go.Proofs.YtekghemhccfhkaaGreatDoor
open Go.RowKit Go.Big
def RtF (w : World) (q : Rat) (e : Ending) (w' : World) : Prop := ∃ x p y s b, e = .returned (.tuple #[.agg #[.int .i64 x, .pointer p, .int .i64 y, .pointer s], .bool b]) ∧ Below w.heap.size w w' ∧ (b = true ∧ (∃ r : Rat, 0 ≤ r ∧ r * r = q ∧ FracV w' (.agg #[.int .i64 x, .pointer p, .int .i64 y, .pointer s]) r) ∨ b = false ∧ ¬ (∃ r : Rat, r * r = q))
theorem zero_box4 {w w3 : World} {g : Nat} {x0 y0 : Int} {p0 q0 : Option Addr} (k : K4 g x0 p0 y0 q0 w3) (s3 : Below w.heap.size w w3) (hg : w.heap.size ≤ g)
    {W : World} (hW : (((w3.setCell ⟨g, 0, none⟩ (.int .i64 0)).setCell ⟨g, 1, none⟩ (.pointer none)).setCell ⟨g, 2, none⟩ (.int .i64 0)).setCell ⟨g, 3, none⟩ (.pointer none) = W) :
    W.cell? ⟨g, 0, none⟩ = some (.int .i64 0) ∧ W.cell? ⟨g, 1, none⟩ = some (.pointer none) ∧ W.cell? ⟨g, 2, none⟩ = some (.int .i64 0) ∧ W.cell? ⟨g, 3, none⟩ = some (.pointer none) ∧ Below w.heap.size w W := by
  have hW : st4 w3 g 0 none 0 none = W := hW
  subst hW
  have k' := k.st 0 none 0 none
  exact ⟨k'.c0, k'.c1, k'.c2, k'.c3, below_st4 s3 hg 0 none 0 none⟩
set_option maxRecDepth 100000 in
set_option maxHeartbeats 4000000 in
theorem rootF_any {v : Value} {q : Rat} {K : Nat} {w : World} (h : FracV w v q) (hK : K < 100) (sq : Sz K q) : Calls Tryz.prog 87 #[v] w (RtF w q) := by
  obtain ⟨a, p, b, r, rfl, ha, hb⟩ := h
  obtain ⟨w0, hw0, hs, k0, k1, hz⟩ := boxes2 w #[.int .i64 a, .pointer p, .int .i64 b, .pointer r] 65 #[.int .i64 0, .pointer none, .int .i64 0, .pointer none] 65 (ip4 _ _ _ _) (ip4 _ _ _ _)
  have k0 : K4 (w.heap.size) a p b r w0 := k0
  have k1 : K4 (w.heap.size + 1) 0 none 0 none w0 := k1
  have HA := Lib.hid ha
  have HB := Lib.hid hb
  have HK := Lib.hid (show q.num.natAbs < B64 ^ K ∧ q.den < B64 ^ K from sq)
  have hg : w.heap.size ≤ w.heap.size + 1 := by omega
  clear ha hb hz sq
  have ek00 := k0.c0
  have ek01 := k0.c1
  have ek02 := k0.c2
  have ek03 := k0.c3
  have HR := Lib.hid (rootI_any (HA.out.below hs) hK HK.out.1)
  go_enter Tryz.func87, Tryz.ntmps87
  go_wp2_with fail
  refine HR.out.mono ?_
  rintro e w1 ⟨v1, b1, rfl, hb1, hor⟩
  have k0 := k0.below hb1
  have k1 := k1.below hb1
  have hs := hs.trans (hb1.mono hs.size)
  clear ek00 ek01 ek02 ek03 HR
  rcases hor with ⟨rfl, s1, hs1, hv1⟩ | ⟨rfl, hno, hv1⟩
  · obtain ⟨y1, q1, rfl⟩ := hv1.two
    obtain ⟨W, hW, hbW, j0, hzW⟩ := box1 w1 #[.int .i64 y1, .pointer q1] 63 (ip2 _ _)
    have j0 : K2 w1.heap.size y1 q1 W := j0
    have hv1 := hv1.below hbW
    have hlt := Bx.lt k1
    have k0 := k0.below hbW
    have k1 := k1.below hbW
    have hs := hs.trans (hbW.mono hs.size)
    have HS1 := Lib.hid hs1
    clear hs1 hb1 hbW hzW
    have ek00 := k0.c0
    have ek01 := k0.c1
    have ek02 := k0.c2
    have ek03 := k0.c3
    have HR2 := Lib.hid (rootI_any (HB.out.below hs) hK (by rw [Int.natAbs_natCast]; exact HK.out.2))
    go_wp2_with fail
    refine HR2.out.mono ?_
    rintro e w2 ⟨v2, b2, rfl, hb2, hor2⟩
    have k1 := k1.below hb2
    have j0 := j0.below hb2
    have hs := hs.trans (hb2.mono hs.size)
    have hv1 := hv1.below hb2
    clear ek00 ek01 ek02 ek03 HR2 k0
    rcases hor2 with ⟨rfl, s2, hs2, hv2⟩ | ⟨rfl, hno, hv2⟩
    · obtain ⟨y2, q2, rfl⟩ := hv2.two
      obtain ⟨V, hV, hbV, i0, hzV⟩ := box1 w2 #[.int .i64 y2, .pointer q2] 63 (ip2 _ _)
      have i0 : K2 w2.heap.size y2 q2 V := i0
      have hv1 := hv1.below hbV
      have hv2 := hv2.below hbV
      have k1 := k1.below hbV
      have j0 := j0.below hbV
      have hs := hs.trans (hbV.mono hs.size)
      obtain ⟨rt, hr1, hr2, hr3, hr4⟩ := sq_make HS1.out hs2
      have d0 := j0.c0
      have d1 := j0.c1
      have d2 := i0.c0
      have d3 := i0.c1
      have c0 := k1.c0
      have c1 := k1.c1
      have c2 := k1.c2
      have c3 := k1.c3
      have f0 := k1.f 0
      have f1 := k1.f 1
      have f2 := k1.f 2
      have f3 := k1.f 3
      obtain ⟨WW, hWW⟩ : ∃ WW, (((V.setCell ⟨w.heap.size + 1, 0, none⟩ (.int .i64 y1)).setCell ⟨w.heap.size + 1, 1, none⟩ (.pointer q1)).setCell ⟨w.heap.size + 1, 2, none⟩ (.int .i64 y2)).setCell ⟨w.heap.size + 1, 3, none⟩ (.pointer q2) = WW := ⟨_, rfl⟩
      obtain ⟨z0, z1, z2, z3, vv, hvv, hf, hbb⟩ := ret_box4 (r := rt) k1 (by rw [hr1]; exact hv1) (by rw [hr2]; exact hv2) hs hg hWW
      cases hvv
      have HF := Lib.hid (show RtF w q (.returned (.tuple #[.agg #[.int .i64 y1, .pointer q1, .int .i64 y2, .pointer q2], .bool true])) WW from ⟨_, _, _, _, _, rfl, hbb, .inl ⟨rfl, rt, hr3, hr4, hf⟩⟩)
      clear hr1 hr2 hr3 hr4 hs hs2 hb2 hbV hzV hv1 hv2 k1 j0 i0 hf hbb
      go_wp2_with fail
      exact bodyPost_ret (v := .tuple #[.agg #[.int .i64 y1, .pointer q1, .int .i64 y2, .pointer q2], .bool true]) (by simp [results, Tryz.results87, go_sem, z0, z1, z2, z3]) rfl HF.out
    · obtain ⟨y2, q2, rfl⟩ := hv2.two
      obtain ⟨V, hV, hbV, i0, hzV⟩ := box1 w2 #[.int .i64 y2, .pointer q2] 63 (ip2 _ _)
      have k1 := k1.below hbV
      have hs := hs.trans (hbV.mono hs.size)
      have c0 := k1.c0
      have c1 := k1.c1
      have c2 := k1.c2
      have c3 := k1.c3
      have f0 := k1.f 0
      have f1 := k1.f 1
      have f2 := k1.f 2
      have f3 := k1.f 3
      obtain ⟨WW, hWW⟩ : ∃ WW, (((V.setCell ⟨w.heap.size + 1, 0, none⟩ (.int .i64 0)).setCell ⟨w.heap.size + 1, 1, none⟩ (.pointer none)).setCell ⟨w.heap.size + 1, 2, none⟩ (.int .i64 0)).setCell ⟨w.heap.size + 1, 3, none⟩ (.pointer none) = WW := ⟨_, rfl⟩
      obtain ⟨z0, z1, z2, z3, hbb⟩ := zero_box4 k1 hs hg hWW
      have HF := Lib.hid (show RtF w q (.returned (.tuple #[.agg #[.int .i64 0, .pointer none, .int .i64 0, .pointer none], .bool false])) WW from ⟨_, _, _, _, _, rfl, hbb, .inr ⟨rfl, sq_none2 hno⟩⟩)
      clear hno hs hb2 hbV hzV hv1 hv2 k1 j0 i0 hbb
      go_wp2_with fail
      exact bodyPost_ret (v := .tuple #[.agg #[.int .i64 0, .pointer none, .int .i64 0, .pointer none], .bool false]) (by simp [results, Tryz.results87, go_sem, z0, z1, z2, z3]) rfl HF.out
  · obtain ⟨y2, q2, rfl⟩ := hv1.two
    obtain ⟨V, hV, hbV, i0, hzV⟩ := box1 w1 #[.int .i64 y2, .pointer q2] 63 (ip2 _ _)
    have k1 := k1.below hbV
    have hs := hs.trans (hbV.mono hs.size)
    have c0 := k1.c0
    have c1 := k1.c1
    have c2 := k1.c2
    have c3 := k1.c3
    have f0 := k1.f 0
    have f1 := k1.f 1
    have f2 := k1.f 2
    have f3 := k1.f 3
    obtain ⟨WW, hWW⟩ : ∃ WW, (((V.setCell ⟨w.heap.size + 1, 0, none⟩ (.int .i64 0)).setCell ⟨w.heap.size + 1, 1, none⟩ (.pointer none)).setCell ⟨w.heap.size + 1, 2, none⟩ (.int .i64 0)).setCell ⟨w.heap.size + 1, 3, none⟩ (.pointer none) = WW := ⟨_, rfl⟩
    obtain ⟨z0, z1, z2, z3, hbb⟩ := zero_box4 k1 hs hg hWW
    have HF := Lib.hid (show RtF w q (.returned (.tuple #[.agg #[.int .i64 0, .pointer none, .int .i64 0, .pointer none], .bool false])) WW from ⟨_, _, _, _, _, rfl, hbb, .inr ⟨rfl, sq_none1 hno⟩⟩)
    clear hno hs hb1 hbV hzV hv1 k0 k1 i0 hbb
    go_wp2_with fail
    exact bodyPost_ret (v := .tuple #[.agg #[.int .i64 0, .pointer none, .int .i64 0, .pointer none], .bool false]) (by simp [results, Tryz.results87, go_sem, z0, z1, z2, z3]) rfl HF.out
end Go.Proofs.YtekghemhccfhkaaGreatDoor
namespace Go.Proofs.YtekghemhccfhkaaGreatDoor
open Go.RowKit Go.Big
theorem _root_.Go.RowKit.Below.alloc' {a w : World} (h : Below a.heap.size a w) (o : Obj) : Below a.heap.size a (w.alloc o) := h.alloc h.size o
theorem _root_.Go.RowKit.Below.put1 {B : Nat} {a w : World} {g i : Nat} {v : Value} (h : Below B a w) (hg : B ≤ g) : Below B a (w.setCell ⟨g, i, none⟩ v) := h.setCell hg v
theorem _root_.Go.Big.K2.mk_new {W : World} {g : Nat} {x : Int} {p : Option Addr} (h : W.heap.size = g) : K2 g x p (W.alloc (.cells #[.int .i64 x, .pointer p] 63)) := by
  subst h; exact Bx.new W 63 (ip2 x p)
theorem _root_.Go.Big.K2.st0 {w : World} {g : Nat} {y : Int} {q : Option Addr} (h : K2 g 0 none w) : K2 g y q (st2 w g y q) := (Bx.set h 0 (IP.int y)).set 1 (IP.ptr q)
theorem _root_.Go.Big.IntV.st0 {w : World} {g : Nat} {y : Int} {q : Option Addr} {v : Value} {n : Int} (k : K2 g 0 none w) (h : IntV w v n) : IntV (Go.Big.st2 w g y q) v n := h.set2 (i := 0) k
def AllocRel (w0 : World) (L R : Int) (s5 s6 : Value) (wx : World) : Prop := ∃ g5 g6 y1 p1 y2 p2, s5 = .pointer (some ⟨g5, 0, none⟩) ∧ s6 = .pointer (some ⟨g6, 0, none⟩) ∧ w0.heap.size ≤ g5 ∧ w0.heap.size ≤ g6 ∧
  K2 g5 y1 p1 wx ∧ K2 g6 y2 p2 wx ∧ IntV wx (.agg #[.int .i64 y1, .pointer p1]) L ∧ IntV wx (.agg #[.int .i64 y2, .pointer p2]) R ∧ Below w0.heap.size w0 wx
theorem bcell {W w1 : World} (hb : Below W.heap.size W w1) : (∀ b o, b < W.heap.size → w1.cell? ⟨b, o, none⟩ = W.cell? ⟨b, o, none⟩) ∧ (∀ b o, b < W.heap.size → w1.frozen? ⟨b, o, none⟩ = W.frozen? ⟨b, o, none⟩) :=
  ⟨fun b o h => hb.cell (p := ⟨b, o, none⟩) h, fun b o h => hb.frozen (p := ⟨b, o, none⟩) h⟩
theorem gcd_in {vx vy : Value} {n : Int} {d K G : Nat} {w : World} (hx : IntV w vx n) (hy : IntV w vy (d : Int)) (hT : Tabs w) (hK : K < 239) (hn : n.natAbs < B64 ^ K) (hd : d < B64 ^ K) (hG : Nat.gcd n.natAbs d = G) :
    Calls Tryz.prog 99 #[vx, vy] w (RetInt w (G : Nat)) := gcdI_at hx hy hT hK hn (by rw [Int.natAbs_natCast]; exact hd) (by rw [Int.natAbs_natCast]; exact hG)
set_option maxRecDepth 100000 in
set_option maxHeartbeats 4000000 in
theorem mulF_any {v v' : Value} {q1 q2 : Rat} {K : Nat} {w : World} (h : FracV w v q1) (h' : FracV w v' q2) (hT : Tabs w) (hK : K < 100) (s1 : Sz K q1) (s2 : Sz K q2) : Calls Tryz.prog 81 #[v, v'] w (RetF w (q1 * q2)) := by
  obtain ⟨a, p, b, r, rfl, ha, hb⟩ := h
  obtain ⟨c, s, d, t, rfl, hc, hd⟩ := h'
  obtain ⟨w0, hw0, hs, k0, k1, k2, hz⟩ := boxes3 w #[.int .i64 a, .pointer p, .int .i64 b, .pointer r] 65 #[.int .i64 c, .pointer s, .int .i64 d, .pointer t] 65 #[.int .i64 0, .pointer none, .int .i64 0, .pointer none] 65 (ip4 _ _ _ _) (ip4 _ _ _ _) (ip4 _ _ _ _)
  have k0 : K4 (w.heap.size) a p b r w0 := k0
  have k1 : K4 (w.heap.size + 1) c s d t w0 := k1
  have k2 : K4 (w.heap.size + 2) 0 none 0 none w0 := k2
  have HA := Lib.hid (ha.below hs)
  have HB := Lib.hid (hb.below hs)
  have HC := Lib.hid (hc.below hs)
  have HD := Lib.hid (hd.below hs)
  obtain ⟨L, hL⟩ : ∃ L, Nat.gcd q1.num.natAbs q2.den = L := ⟨_, rfl⟩
  obtain ⟨R, hR⟩ : ∃ R, Nat.gcd q2.num.natAbs q1.den = R := ⟨_, rfl⟩
  have HK := Lib.hid (And.intro (show q1.num.natAbs < B64 ^ K ∧ q1.den < B64 ^ K from s1) (And.intro (show q2.num.natAbs < B64 ^ K ∧ q2.den < B64 ^ K from s2) (And.intro hL (And.intro hR (tabs_below hT hs)))))
  have hg : w.heap.size ≤ w.heap.size + 2 := by omega
  have hK2 : K < 239 := by omega
  clear ha hb hc hd hz
  have ek00 := k0.c0
  have ek01 := k0.c1
  have ek02 := k0.c2
  have ek03 := k0.c3
  have ek10 := k1.c0
  have ek11 := k1.c1
  have ek12 := k1.c2
  have ek13 := k1.c3
  have HRM := Lib.hid (rat_mul_of q1 q2 hL hR)
  have HG := Lib.hid (show 0 < L ∧ L < B64 ^ K ∧ 0 < R ∧ R < B64 ^ K from ⟨by rw [← hL]; exact Nat.gcd_pos_of_pos_right _ (rat_den_pos q2), Nat.lt_of_le_of_lt (by rw [← hL]; exact Nat.gcd_le_right _ (rat_den_pos q2)) s2.2, by rw [← hR]; exact Nat.gcd_pos_of_pos_right _ (rat_den_pos q1), Nat.lt_of_le_of_lt (by rw [← hR]; exact Nat.gcd_le_right _ (rat_den_pos q1)) s1.2⟩)
  have HQ := Lib.hid (show (q1.num / (L : Int)).natAbs < B64 ^ K ∧ (q2.num / (R : Int)).natAbs < B64 ^ K ∧ q1.den / R < B64 ^ K ∧ q2.den / L < B64 ^ K from ⟨Nat.lt_of_le_of_lt (natAbs_div_le _ _) s1.1, Nat.lt_of_le_of_lt (natAbs_div_le _ _) s2.1, Nat.lt_of_le_of_lt (Nat.div_le_self _ _) s1.2, Nat.lt_of_le_of_lt (Nat.div_le_self _ _) s2.2⟩)
  have HK2B := Lib.hid k2
  clear hL hR s1 s2 hT
  have HMK := Lib.hid (fun (W : World) (h : Below w0.heap.size w0 W) => (⟨(k0.below h).c0, (k0.below h).c1, (k0.below h).c2, (k0.below h).c3, (k1.below h).c0, (k1.below h).c1, (k1.below h).c2, (k1.below h).c3, h⟩ : W.cell? ⟨w.heap.size, 0, none⟩ = some (.int .i64 a) ∧ W.cell? ⟨w.heap.size, 1, none⟩ = some (.pointer p) ∧ W.cell? ⟨w.heap.size, 2, none⟩ = some (.int .i64 b) ∧ W.cell? ⟨w.heap.size, 3, none⟩ = some (.pointer r) ∧ W.cell? ⟨w.heap.size + 1, 0, none⟩ = some (.int .i64 c) ∧ W.cell? ⟨w.heap.size + 1, 1, none⟩ = some (.pointer s) ∧ W.cell? ⟨w.heap.size + 1, 2, none⟩ = some (.int .i64 d) ∧ W.cell? ⟨w.heap.size + 1, 3, none⟩ = some (.pointer t) ∧ Below w0.heap.size w0 W))
  have HPX := Lib.hid (fun (W : World) (h : W.cell? ⟨w.heap.size, 0, none⟩ = some (.int .i64 a) ∧ W.cell? ⟨w.heap.size, 1, none⟩ = some (.pointer p) ∧ W.cell? ⟨w.heap.size, 2, none⟩ = some (.int .i64 b) ∧ W.cell? ⟨w.heap.size, 3, none⟩ = some (.pointer r) ∧ W.cell? ⟨w.heap.size + 1, 0, none⟩ = some (.int .i64 c) ∧ W.cell? ⟨w.heap.size + 1, 1, none⟩ = some (.pointer s) ∧ W.cell? ⟨w.heap.size + 1, 2, none⟩ = some (.int .i64 d) ∧ W.cell? ⟨w.heap.size + 1, 3, none⟩ = some (.pointer t) ∧ Below w0.heap.size w0 W) => h.2.2.2.2.2.2.2.2)
  have HW := Lib.hid hs
  have hs : Below w0.heap.size w0 w0.drew := (Below.refl _ _).drew
  go_enter Tryz.func81, Tryz.ntmps81
  go_upto_region 1 with (fail)
  go_cut [5, 6] (fun s5 s6 wx => AllocRel w0 L R s5 s6 wx)
  case first =>
    go_region_held3 (fun w' => w'.cell? ⟨w.heap.size, 0, none⟩ = some (.int .i64 a) ∧ w'.cell? ⟨w.heap.size, 1, none⟩ = some (.pointer p) ∧ w'.cell? ⟨w.heap.size, 2, none⟩ = some (.int .i64 b) ∧ w'.cell? ⟨w.heap.size, 3, none⟩ = some (.pointer r) ∧ w'.cell? ⟨w.heap.size + 1, 0, none⟩ = some (.int .i64 c) ∧ w'.cell? ⟨w.heap.size + 1, 1, none⟩ = some (.pointer s) ∧ w'.cell? ⟨w.heap.size + 1, 2, none⟩ = some (.int .i64 d) ∧ w'.cell? ⟨w.heap.size + 1, 3, none⟩ = some (.pointer t) ∧ Below w0.heap.size w0 w') (first | (with_reducible exact HMK.out _ hs) | ((with_reducible refine HMK.out _ ?_); repeat (first | (with_reducible exact hs) | (with_reducible exact Below.refl _ _) | with_reducible apply Below.drew | with_reducible apply Below.alloc' | ((with_reducible refine Below.put1 ?_ ?_) <;> try omega))) | fail) (first | (go_at_call 99; (with_reducible refine (gcd_in (HA.out.below (HPX.out _ (by assumption))) (HD.out.below (HPX.out _ (by assumption))) (tabs_below HK.out.2.2.2.2 (HPX.out _ (by assumption))) hK2 HK.out.1.1 HK.out.2.1.2 HK.out.2.2.1).mono ?_); rintro e w1 ⟨v1, rfl, hv1, hb1⟩; have hs := below_trans (HPX.out _ (by assumption)) hb1; have zs1 := hb1.size; (try simp at zs1); (try (have zl10 : w0.heap.size < w1.heap.size := by omega)); (try (have zk10 : w0.heap.size + 1 < w1.heap.size := by omega)); (try (have zm10 : w0.heap.size ≤ w1.heap.size := by omega)); obtain ⟨bc1, bf1⟩ := bcell hb1; obtain ⟨y1, p1, rfl⟩ := hv1.two) | (go_at_call 99; (with_reducible refine (gcd_in (HC.out.below (HPX.out _ (by assumption))) (HB.out.below (HPX.out _ (by assumption))) (tabs_below HK.out.2.2.2.2 (HPX.out _ (by assumption))) hK2 HK.out.2.1.1 HK.out.1.2 HK.out.2.2.2.1).mono ?_); rintro e w2 ⟨v2, rfl, hv2, hb2⟩; have hs := below_trans (HPX.out _ (by assumption)) hb2; have zs2 := hb2.size; (try simp at zs2); (try (have zl20 : w0.heap.size < w2.heap.size := by omega)); (try (have zk20 : w0.heap.size + 1 < w2.heap.size := by omega)); (try (have zm20 : w0.heap.size ≤ w2.heap.size := by omega)); (try (have zl21 : w1.heap.size < w2.heap.size := by omega)); (try (have zk21 : w1.heap.size + 1 < w2.heap.size := by omega)); (try (have zm21 : w1.heap.size ≤ w2.heap.size := by omega)); obtain ⟨bc2, bf2⟩ := bcell hb2; obtain ⟨y2, p2, rfl⟩ := hv2.two) | fail)
    all_goals
      go_wp2_with fail
      go_meet
      case rel =>
        refine ⟨_, _, y1, p1, y2, p2, rfl, rfl, by omega, by omega, ?_, ?_, ?_, ?_, ?_⟩
        all_goals
          repeat' (first | (with_reducible exact hv1) | (with_reducible exact hv2) | (with_reducible exact hs) | (with_reducible exact Below.refl _ _) | ((with_reducible refine K2.mk_new ?_); simp; done) | (with_reducible refine K2.st0 ?_) | ((with_reducible refine K2.o2 ?_ ?_ _ _) <;> try omega) | (with_reducible refine IntV.st0 ?_ ?_) | (with_reducible refine K2.below ?_ (below_box _ _ _)) | (with_reducible refine IntV.below ?_ (below_box _ _ _)) | (with_reducible refine K2.below ?_ hb2) | (with_reducible refine IntV.below ?_ hb2) | (with_reducible refine K2.below ?_ hb1) | (with_reducible apply K2.drew') | with_reducible apply Below.drew | with_reducible apply Below.alloc' | ((with_reducible refine Below.put1 ?_ ?_) <;> try omega))
  case rest =>
    obtain ⟨g5, g6, y1, p1, y2, p2, rfl, rfl, h5, h6, j5, j6, hv1, hv2, hbc⟩ := hcut
    clear HMK HPX hs ek00 ek01 ek02 ek03 ek10 ek11 ek12 ek13
    have k0 := k0.below hbc
    have k1 := k1.below hbc
    have k2 := k2.below hbc
    have hs := below_trans HW.out hbc
    have hlt : w.heap.size + 2 < w0.heap.size := Bx.lt HK2B.out
    have HA := Lib.hid (HA.out.below hbc)
    have HB := Lib.hid (HB.out.below hbc)
    have HC := Lib.hid (HC.out.below hbc)
    have HD := Lib.hid (HD.out.below hbc)
    have HV1 := Lib.hid hv1
    have HV2 := Lib.hid hv2
    clear hbc hv1 hv2
    go_wp2_with fail
    have k0 : K4 (w.heap.size) a p b r wc.drew := k0
    have k1 : K4 (w.heap.size + 1) c s d t wc.drew := k1
    have j5 : K2 (g5) y1 p1 wc.drew := j5
    have j6 : K2 (g6) y2 p2 wc.drew := j6
    have k2 : K4 (w.heap.size + 2) 0 none 0 none wc.drew := k2
    have hs : Below w.heap.size w wc.drew := hs.drew
    have hc : Below wc.heap.size wc wc.drew := (Below.refl _ _).drew
    have n_k0 : w.heap.size ≠ w.heap.size + 2 := by omega
    have n_k1 : w.heap.size + 1 ≠ w.heap.size + 2 := by omega
    have n_j5 : g5 ≠ w.heap.size + 2 := by omega
    have n_j6 : g6 ≠ w.heap.size + 2 := by omega
    go_region_held3 (fun w' => w'.cell? ⟨w.heap.size, 0, none⟩ = some (.int .i64 a) ∧ w'.cell? ⟨w.heap.size, 1, none⟩ = some (.pointer p) ∧ w'.cell? ⟨w.heap.size, 2, none⟩ = some (.int .i64 b) ∧ w'.cell? ⟨w.heap.size, 3, none⟩ = some (.pointer r) ∧ w'.cell? ⟨w.heap.size + 1, 0, none⟩ = some (.int .i64 c) ∧ w'.cell? ⟨w.heap.size + 1, 1, none⟩ = some (.pointer s) ∧ w'.cell? ⟨w.heap.size + 1, 2, none⟩ = some (.int .i64 d) ∧ w'.cell? ⟨w.heap.size + 1, 3, none⟩ = some (.pointer t) ∧ w'.cell? ⟨g5, 0, none⟩ = some (.int .i64 y1) ∧ w'.cell? ⟨g5, 1, none⟩ = some (.pointer p1) ∧ w'.cell? ⟨g6, 0, none⟩ = some (.int .i64 y2) ∧ w'.cell? ⟨g6, 1, none⟩ = some (.pointer p2) ∧ Below w.heap.size w w') (first | (with_reducible exact ⟨k0.c0, k0.c1, k0.c2, k0.c3, k1.c0, k1.c1, k1.c2, k1.c3, j5.c0, j5.c1, j6.c0, j6.c1, hs⟩) | (with_reducible exact ⟨(k0.o4 n_k0 _ _ _ _).c0, (k0.o4 n_k0 _ _ _ _).c1, (k0.o4 n_k0 _ _ _ _).c2, (k0.o4 n_k0 _ _ _ _).c3, (k1.o4 n_k1 _ _ _ _).c0, (k1.o4 n_k1 _ _ _ _).c1, (k1.o4 n_k1 _ _ _ _).c2, (k1.o4 n_k1 _ _ _ _).c3, (j5.o4 n_j5 _ _ _ _).c0, (j5.o4 n_j5 _ _ _ _).c1, (j6.o4 n_j6 _ _ _ _).c0, (j6.o4 n_j6 _ _ _ _).c1, hs.st4 hg _ _ _ _⟩) | fail) (first | (go_at_call 115; (with_reducible refine (cancel_any (HA.out.below hc) (HV1.out.below hc) HG.out.1 hK2 HK.out.1.1 HG.out.2.1).mono ?_); rintro e w3 ⟨v3, rfl, hv3, hb3⟩; have k0 := k0.below hb3; have k1 := k1.below hb3; have j5 := j5.below hb3; have j6 := j6.below hb3; have k2 := k2.below hb3; have hs := hs.trans (hb3.mono hs.size); have hc := hc.trans (hb3.mono hc.size)) | (go_at_call 115; (with_reducible refine (cancel_any (HC.out.below hc) (HV2.out.below hc) HG.out.2.2.1 hK2 HK.out.2.1.1 HG.out.2.2.2).mono ?_); rintro e w4 ⟨v4, rfl, hv4, hb4⟩; have k0 := k0.below hb4; have k1 := k1.below hb4; have j5 := j5.below hb4; have j6 := j6.below hb4; have k2 := k2.below hb4; have hs := hs.trans (hb4.mono hs.size); have hc := hc.trans (hb4.mono hc.size); have hv3 := hv3.below hb4) | (go_at_call 121; (with_reducible refine (mulI_any hv3 hv4 hK HQ.out.1 HQ.out.2.1).mono ?_); rintro e w5 ⟨v5, rfl, hv5, hb5⟩; have k0 := k0.below hb5; have k1 := k1.below hb5; have j5 := j5.below hb5; have j6 := j6.below hb5; have k2 := k2.below hb5; have hs := hs.trans (hb5.mono hs.size); have hc := hc.trans (hb5.mono hc.size)) | (go_at_call 115; (with_reducible refine (cancel_nat (HB.out.below hc) (HV2.out.below hc) HG.out.2.2.1 hK2 HK.out.1.2 HG.out.2.2.2).mono ?_); rintro e w6 ⟨v6, rfl, hv6, hb6⟩; have k0 := k0.below hb6; have k1 := k1.below hb6; have j5 := j5.below hb6; have j6 := j6.below hb6; have k2 := k2.below hb6; have hs := hs.trans (hb6.mono hs.size); have hc := hc.trans (hb6.mono hc.size); have hv5 := hv5.below hb6) | (go_at_call 115; (with_reducible refine (cancel_nat (HD.out.below hc) (HV1.out.below hc) HG.out.1 hK2 HK.out.2.1.2 HG.out.2.1).mono ?_); rintro e w7 ⟨v7, rfl, hv7, hb7⟩; have k0 := k0.below hb7; have k1 := k1.below hb7; have j5 := j5.below hb7; have j6 := j6.below hb7; have k2 := k2.below hb7; have hs := hs.trans (hb7.mono hs.size); have hc := hc.trans (hb7.mono hc.size); have hv5 := hv5.below hb7; have hv6 := hv6.below hb7) | (go_at_call 121; (with_reducible refine (mul_nat hv6 hv7 hK HQ.out.2.2.1 HQ.out.2.2.2).mono ?_); rintro e w8 ⟨v8, rfl, hv8, hb8⟩; have k0 := k0.below hb8; have k1 := k1.below hb8; have j5 := j5.below hb8; have j6 := j6.below hb8; have k2 := k2.below hb8; have hs := hs.trans (hb8.mono hs.size); have hc := hc.trans (hb8.mono hc.size); have hv5 := hv5.below hb8; obtain ⟨y5, p5, rfl⟩ := hv5.two; obtain ⟨y8, p8, rfl⟩ := hv8.two; have c0 := k2.c0; have c1 := k2.c1; have c2 := k2.c2; have c3 := k2.c3; have f0 := k2.f 0; have f1 := k2.f 1; have f2 := k2.f 2; have f3 := k2.f 3) | fail)
    obtain ⟨W, hW⟩ : ∃ W, (((w8.setCell ⟨w.heap.size + 2, 0, none⟩ (.int .i64 y5)).setCell ⟨w.heap.size + 2, 1, none⟩ (.pointer p5)).setCell ⟨w.heap.size + 2, 2, none⟩ (.int .i64 y8)).setCell ⟨w.heap.size + 2, 3, none⟩ (.pointer p8) = W := ⟨_, rfl⟩
    rw [hW]
    obtain ⟨z0, z1, z2, z3, z4⟩ := ret_box4 (r := q1 * q2) k2 (by rw [HRM.out.1]; exact hv5) (by rw [HRM.out.2]; exact hv8) hs hg hW
    have HZ := Lib.hid z4
    clear hs c0 c1 c2 c3 f0 f1 f2 f3 hW z4 k0 k1 k2 j5 j6 hc hb3 hb4 hb5 hb6 hb7 hb8 hv3 hv4 hv5 hv6 hv7 hv8
    go_wp2_with fail
    exact bodyPost_ret (v := .agg #[.int .i64 y5, .pointer p5, .int .i64 y8, .pointer p8]) (by simp [results, Tryz.results81, go_sem, z0, z1, z2, z3]) rfl HZ.out
end Go.Proofs.YtekghemhccfhkaaGreatDoor
