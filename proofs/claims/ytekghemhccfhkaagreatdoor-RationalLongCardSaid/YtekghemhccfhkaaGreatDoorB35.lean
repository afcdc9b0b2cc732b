/-
  Walks of the program's functions: FracF, FracG.
-/
import Derived.Test.YtekghemhccfhkaaGreatDoorB34
import Derived.Deep.CutRange
namespace Go.Proofs.YtekghemhccfhkaaGreatDoor
open Go.RowKit Go.Big
theorem _root_.Go.RowKit.Below.alloc' {a w : World} (h : Below a.heap.size a w) (o : Obj) : Below a.heap.size a (w.alloc o) := h.alloc h.size o
theorem _root_.Go.RowKit.Below.put1 {B : Nat} {a w : World} {g i : Nat} {v : Value} (h : Below B a w) (hg : B ≤ g) : Below B a (w.setCell ⟨g, i, none⟩ v) := h.setCell hg v
theorem _root_.Go.Big.K2.mk_new {W : World} {g : Nat} {x : Int} {p : Option Addr} (h : W.heap.size = g) : K2 g x p (W.alloc (.cells #[.int .i64 x, .pointer p] 63)) := by
  subst h; exact Bx.new W 63 (ip2 x p)
theorem _root_.Go.Big.K2.st0 {w : World} {g : Nat} {y : Int} {q : Option Addr} (h : K2 g 0 none w) : K2 g y q (st2 w g y q) := (Bx.set h 0 (IP.int y)).set 1 (IP.ptr q)
theorem _root_.Go.Big.IntV.st0 {w : World} {g : Nat} {y : Int} {q : Option Addr} {v : Value} {n : Int} (k : K2 g 0 none w) (h : IntV w v n) : IntV (Go.Big.st2 w g y q) v n := h.set2 (i := 0) k
def AllocRel (w0 : World) (L R : Int) (s5 s6 : Value) (wx : World) : Prop := ∃ g5 g6 y1 p1 y2 p2, s5 = .pointer (some ⟨g5, 0, none⟩) ∧ s6 = .pointer (some ⟨g6, 0, none⟩) ∧ w0.heap.size ≤ g5 ∧ w0.heap.size ≤ g6 ∧
  K2 g5 y1 p1 wx ∧ K2 g6 y2 p2 wx ∧ IntV wx (.agg #[.int .i64 y1, .pointer p1]) L ∧ IntV wx (.agg #[.int .i64 y2, .pointer p2]) R ∧ Below w0.heap.size w0 wx
theorem bcell {W w1 : World} (hb : Below W.heap.size W w1) : (∀ b o, b < W.heap.size → w1.cell? ⟨b, o, none⟩ = W.cell? ⟨b, o, none⟩) ∧ (∀ b o, b < W.heap.size → w1.frozen? ⟨b, o, none⟩ = W.frozen? ⟨b, o, none⟩) :=
  ⟨fun b o h => hb.cell (p := ⟨b, o, none⟩) h, fun b o h => hb.frozen (p := ⟨b, o, none⟩) h⟩
theorem gcd_in {vx vy : Value} {n : Int} {d K G : Nat} {w : World} (hx : IntV w vx n) (hy : IntV w vy (d : Int)) (hT : Tabs w) (hK : K < 239) (hn : n.natAbs < B64 ^ K) (hd : d < B64 ^ K) (hG : Nat.gcd n.natAbs d = G) :
    Calls Tryz.prog 99 #[vx, vy] w (RetInt w (G : Nat)) := gcdI_at hx hy hT hK hn (by rw [Int.natAbs_natCast]; exact hd) (by rw [Int.natAbs_natCast]; exact hG)
set_option maxRecDepth 100000 in
set_option maxHeartbeats 4000000 in
theorem mulF_any {v v' : Value} {q1 q2 : Rat} {K : Nat} {w : World} (h : FracV w v q1) (h' : FracV w v' q2) (hT : Tabs w) (hK : K < 100) (s1 : Sz K q1) (s2 : Sz K q2) : Calls Tryz.prog 81 #[v, v'] w (RetF w (q1 * q2)) := by
  obtain ⟨a, p, b, r, rfl, ha, hb⟩ := h
  obtain ⟨c, s, d, t, rfl, hc, hd⟩ := h'
  obtain ⟨w0, hw0, hs, k0, k1, k2, hz⟩ := boxes3 w #[.int .i64 a, .pointer p, .int .i64 b, .pointer r] 65 #[.int .i64 c, .pointer s, .int .i64 d, .pointer t] 65 #[.int .i64 0, .pointer none, .int .i64 0, .pointer none] 65 (ip4 _ _ _ _) (ip4 _ _ _ _) (ip4 _ _ _ _)
  have k0 : K4 (w.heap.size) a p b r w0 := k0
  have k1 : K4 (w.heap.size + 1) c s d t w0 := k1
  have k2 : K4 (w.heap.size + 2) 0 none 0 none w0 := k2
  have HA := Lib.hid (ha.below hs)
  have HB := Lib.hid (hb.below hs)
  have HC := Lib.hid (hc.below hs)
  have HD := Lib.hid (hd.below hs)
  obtain ⟨L, hL⟩ : ∃ L, Nat.gcd q1.num.natAbs q2.den = L := ⟨_, rfl⟩
  obtain ⟨R, hR⟩ : ∃ R, Nat.gcd q2.num.natAbs q1.den = R := ⟨_, rfl⟩
  have HK := Lib.hid (And.intro (show q1.num.natAbs < B64 ^ K ∧ q1.den < B64 ^ K from s1) (And.intro (show q2.num.natAbs < B64 ^ K ∧ q2.den < B64 ^ K from s2) (And.intro hL (And.intro hR (tabs_below hT hs)))))
  have hg : w.heap.size ≤ w.heap.size + 2 := by omega
  have hK2 : K < 239 := by omega
  clear ha hb hc hd hz
  have ek00 := k0.c0
  have ek01 := k0.c1
  have ek02 := k0.c2
  have ek03 := k0.c3
  have ek10 := k1.c0
  have ek11 := k1.c1
  have ek12 := k1.c2
  have ek13 := k1.c3
  have HRM := Lib.hid (rat_mul_of q1 q2 hL hR)
  have HG := Lib.hid (show 0 < L ∧ L < B64 ^ K ∧ 0 < R ∧ R < B64 ^ K from ⟨by rw [← hL]; exact Nat.gcd_pos_of_pos_right _ (rat_den_pos q2), Nat.lt_of_le_of_lt (by rw [← hL]; exact Nat.gcd_le_right _ (rat_den_pos q2)) s2.2, by rw [← hR]; exact Nat.gcd_pos_of_pos_right _ (rat_den_pos q1), Nat.lt_of_le_of_lt (by rw [← hR]; exact Nat.gcd_le_right _ (rat_den_pos q1)) s1.2⟩)
  have HQ := Lib.hid (show (q1.num / (L : Int)).natAbs < B64 ^ K ∧ (q2.num / (R : Int)).natAbs < B64 ^ K ∧ q1.den / R < B64 ^ K ∧ q2.den / L < B64 ^ K from ⟨Nat.lt_of_le_of_lt (natAbs_div_le _ _) s1.1, Nat.lt_of_le_of_lt (natAbs_div_le _ _) s2.1, Nat.lt_of_le_of_lt (Nat.div_le_self _ _) s1.2, Nat.lt_of_le_of_lt (Nat.div_le_self _ _) s2.2⟩)
  have HK2B := Lib.hid k2
  clear hL hR s1 s2 hT
  have HMK := Lib.hid (fun (W : World) (h : Below w0.heap.size w0 W) => (⟨(k0.below h).c0, (k0.below h).c1, (k0.below h).c2, (k0.below h).c3, (k1.below h).c0, (k1.below h).c1, (k1.below h).c2, (k1.below h).c3, h⟩ : W.cell? ⟨w.heap.size, 0, none⟩ = some (.int .i64 a) ∧ W.cell? ⟨w.heap.size, 1, none⟩ = some (.pointer p) ∧ W.cell? ⟨w.heap.size, 2, none⟩ = some (.int .i64 b) ∧ W.cell? ⟨w.heap.size, 3, none⟩ = some (.pointer r) ∧ W.cell? ⟨w.heap.size + 1, 0, none⟩ = some (.int .i64 c) ∧ W.cell? ⟨w.heap.size + 1, 1, none⟩ = some (.pointer s) ∧ W.cell? ⟨w.heap.size + 1, 2, none⟩ = some (.int .i64 d) ∧ W.cell? ⟨w.heap.size + 1, 3, none⟩ = some (.pointer t) ∧ Below w0.heap.size w0 W))
  have HPX := Lib.hid (fun (W : World) (h : W.cell? ⟨w.heap.size, 0, none⟩ = some (.int .i64 a) ∧ W.cell? ⟨w.heap.size, 1, none⟩ = some (.pointer p) ∧ W.cell? ⟨w.heap.size, 2, none⟩ = some (.int .i64 b) ∧ W.cell? ⟨w.heap.size, 3, none⟩ = some (.pointer r) ∧ W.cell? ⟨w.heap.size + 1, 0, none⟩ = some (.int .i64 c) ∧ W.cell? ⟨w.heap.size + 1, 1, none⟩ = some (.pointer s) ∧ W.cell? ⟨w.heap.size + 1, 2, none⟩ = some (.int .i64 d) ∧ W.cell? ⟨w.heap.size + 1, 3, none⟩ = some (.pointer t) ∧ Below w0.heap.size w0 W) => h.2.2.2.2.2.2.2.2)
  have HW := Lib.hid hs
  have hs : Below w0.heap.size w0 w0.drew := (Below.refl _ _).drew
  go_enter Tryz.func81, Tryz.ntmps81
  go_upto_region 1 with (fail)
  go_cut [5, 6] (fun s5 s6 wx => AllocRel w0 L R s5 s6 wx)
  case first =>
    go_region_held3 (fun w' => w'.cell? ⟨w.heap.size, 0, none⟩ = some (.int .i64 a) ∧ w'.cell? ⟨w.heap.size, 1, none⟩ = some (.pointer p) ∧ w'.cell? ⟨w.heap.size, 2, none⟩ = some (.int .i64 b) ∧ w'.cell? ⟨w.heap.size, 3, none⟩ = some (.pointer r) ∧ w'.cell? ⟨w.heap.size + 1, 0, none⟩ = some (.int .i64 c) ∧ w'.cell? ⟨w.heap.size + 1, 1, none⟩ = some (.pointer s) ∧ w'.cell? ⟨w.heap.size + 1, 2, none⟩ = some (.int .i64 d) ∧ w'.cell? ⟨w.heap.size + 1, 3, none⟩ = some (.pointer t) ∧ Below w0.heap.size w0 w') (first | (with_reducible exact HMK.out _ hs) | ((with_reducible refine HMK.out _ ?_); repeat (first | (with_reducible exact hs) | (with_reducible exact Below.refl _ _) | with_reducible apply Below.drew | with_reducible apply Below.alloc' | ((with_reducible refine Below.put1 ?_ ?_) <;> try omega))) | fail) (first | (go_at_call 99; (with_reducible refine (gcd_in (HA.out.below (HPX.out _ (by assumption))) (HD.out.below (HPX.out _ (by assumption))) (tabs_below HK.out.2.2.2.2 (HPX.out _ (by assumption))) hK2 HK.out.1.1 HK.out.2.1.2 HK.out.2.2.1).mono ?_); rintro e w1 ⟨v1, rfl, hv1, hb1⟩; have hs := below_trans (HPX.out _ (by assumption)) hb1; have zs1 := hb1.size; (try simp at zs1); (try (have zl10 : w0.heap.size < w1.heap.size := by omega)); (try (have zk10 : w0.heap.size + 1 < w1.heap.size := by omega)); (try (have zm10 : w0.heap.size ≤ w1.heap.size := by omega)); obtain ⟨bc1, bf1⟩ := bcell hb1; obtain ⟨y1, p1, rfl⟩ := hv1.two) | (go_at_call 99; (with_reducible refine (gcd_in (HC.out.below (HPX.out _ (by assumption))) (HB.out.below (HPX.out _ (by assumption))) (tabs_below HK.out.2.2.2.2 (HPX.out _ (by assumption))) hK2 HK.out.2.1.1 HK.out.1.2 HK.out.2.2.2.1).mono ?_); rintro e w2 ⟨v2, rfl, hv2, hb2⟩; have hs := below_trans (HPX.out _ (by assumption)) hb2; have zs2 := hb2.size; (try simp at zs2); (try (have zl20 : w0.heap.size < w2.heap.size := by omega)); (try (have zk20 : w0.heap.size + 1 < w2.heap.size := by omega)); (try (have zm20 : w0.heap.size ≤ w2.heap.size := by omega)); (try (have zl21 : w1.heap.size < w2.heap.size := by omega)); (try (have zk21 : w1.heap.size + 1 < w2.heap.size := by omega)); (try (have zm21 : w1.heap.size ≤ w2.heap.size := by omega)); obtain ⟨bc2, bf2⟩ := bcell hb2; obtain ⟨y2, p2, rfl⟩ := hv2.two) | fail)
    all_goals
      go_wp2_with fail
      go_meet
      case rel =>
        refine ⟨_, _, y1, p1, y2, p2, rfl, rfl, by omega, by omega, ?_, ?_, ?_, ?_, ?_⟩
        all_goals
          repeat' (first | (with_reducible exact hv1) | (with_reducible exact hv2) | (with_reducible exact hs) | (with_reducible exact Below.refl _ _) | ((with_reducible refine K2.mk_new ?_); simp; done) | (with_reducible refine K2.st0 ?_) | ((with_reducible refine K2.o2 ?_ ?_ _ _) <;> try omega) | (with_reducible refine IntV.st0 ?_ ?_) | (with_reducible refine K2.below ?_ (below_box _ _ _)) | (with_reducible refine IntV.below ?_ (below_box _ _ _)) | (with_reducible refine K2.below ?_ hb2) | (with_reducible refine IntV.below ?_ hb2) | (with_reducible refine K2.below ?_ hb1) | (with_reducible apply K2.drew') | with_reducible apply Below.drew | with_reducible apply Below.alloc' | ((with_reducible refine Below.put1 ?_ ?_) <;> try omega))
  case rest =>
    obtain ⟨g5, g6, y1, p1, y2, p2, rfl, rfl, h5, h6, j5, j6, hv1, hv2, hbc⟩ := hcut
    clear HMK HPX hs ek00 ek01 ek02 ek03 ek10 ek11 ek12 ek13
    have k0 := k0.below hbc
    have k1 := k1.below hbc
    have k2 := k2.below hbc
    have hs := below_trans HW.out hbc
    have hlt : w.heap.size + 2 < w0.heap.size := Bx.lt HK2B.out
    have HA := Lib.hid (HA.out.below hbc)
    have HB := Lib.hid (HB.out.below hbc)
    have HC := Lib.hid (HC.out.below hbc)
    have HD := Lib.hid (HD.out.below hbc)
    have HV1 := Lib.hid hv1
    have HV2 := Lib.hid hv2
    clear hbc hv1 hv2
    go_wp2_with fail
    have k0 : K4 (w.heap.size) a p b r wc.drew := k0
    have k1 : K4 (w.heap.size + 1) c s d t wc.drew := k1
    have j5 : K2 (g5) y1 p1 wc.drew := j5
    have j6 : K2 (g6) y2 p2 wc.drew := j6
    have k2 : K4 (w.heap.size + 2) 0 none 0 none wc.drew := k2
    have hs : Below w.heap.size w wc.drew := hs.drew
    have hc : Below wc.heap.size wc wc.drew := (Below.refl _ _).drew
    have n_k0 : w.heap.size ≠ w.heap.size + 2 := by omega
    have n_k1 : w.heap.size + 1 ≠ w.heap.size + 2 := by omega
    have n_j5 : g5 ≠ w.heap.size + 2 := by omega
    have n_j6 : g6 ≠ w.heap.size + 2 := by omega
    go_region_held3 (fun w' => w'.cell? ⟨w.heap.size, 0, none⟩ = some (.int .i64 a) ∧ w'.cell? ⟨w.heap.size, 1, none⟩ = some (.pointer p) ∧ w'.cell? ⟨w.heap.size, 2, none⟩ = some (.int .i64 b) ∧ w'.cell? ⟨w.heap.size, 3, none⟩ = some (.pointer r) ∧ w'.cell? ⟨w.heap.size + 1, 0, none⟩ = some (.int .i64 c) ∧ w'.cell? ⟨w.heap.size + 1, 1, none⟩ = some (.pointer s) ∧ w'.cell? ⟨w.heap.size + 1, 2, none⟩ = some (.int .i64 d) ∧ w'.cell? ⟨w.heap.size + 1, 3, none⟩ = some (.pointer t) ∧ w'.cell? ⟨g5, 0, none⟩ = some (.int .i64 y1) ∧ w'.cell? ⟨g5, 1, none⟩ = some (.pointer p1) ∧ w'.cell? ⟨g6, 0, none⟩ = some (.int .i64 y2) ∧ w'.cell? ⟨g6, 1, none⟩ = some (.pointer p2) ∧ Below w.heap.size w w') (first | (with_reducible exact ⟨k0.c0, k0.c1, k0.c2, k0.c3, k1.c0, k1.c1, k1.c2, k1.c3, j5.c0, j5.c1, j6.c0, j6.c1, hs⟩) | (with_reducible exact ⟨(k0.o4 n_k0 _ _ _ _).c0, (k0.o4 n_k0 _ _ _ _).c1, (k0.o4 n_k0 _ _ _ _).c2, (k0.o4 n_k0 _ _ _ _).c3, (k1.o4 n_k1 _ _ _ _).c0, (k1.o4 n_k1 _ _ _ _).c1, (k1.o4 n_k1 _ _ _ _).c2, (k1.o4 n_k1 _ _ _ _).c3, (j5.o4 n_j5 _ _ _ _).c0, (j5.o4 n_j5 _ _ _ _).c1, (j6.o4 n_j6 _ _ _ _).c0, (j6.o4 n_j6 _ _ _ _).c1, hs.st4 hg _ _ _ _⟩) | fail) (first | (go_at_call 115; (with_reducible refine (cancel_any (HA.out.below hc) (HV1.out.below hc) HG.out.1 hK2 HK.out.1.1 HG.out.2.1).mono ?_); rintro e w3 ⟨v3, rfl, hv3, hb3⟩; have k0 := k0.below hb3; have k1 := k1.below hb3; have j5 := j5.below hb3; have j6 := j6.below hb3; have k2 := k2.below hb3; have hs := hs.trans (hb3.mono hs.size); have hc := hc.trans (hb3.mono hc.size)) | (go_at_call 115; (with_reducible refine (cancel_any (HC.out.below hc) (HV2.out.below hc) HG.out.2.2.1 hK2 HK.out.2.1.1 HG.out.2.2.2).mono ?_); rintro e w4 ⟨v4, rfl, hv4, hb4⟩; have k0 := k0.below hb4; have k1 := k1.below hb4; have j5 := j5.below hb4; have j6 := j6.below hb4; have k2 := k2.below hb4; have hs := hs.trans (hb4.mono hs.size); have hc := hc.trans (hb4.mono hc.size); have hv3 := hv3.below hb4) | (go_at_call 121; (with_reducible refine (mulI_any hv3 hv4 hK HQ.out.1 HQ.out.2.1).mono ?_); rintro e w5 ⟨v5, rfl, hv5, hb5⟩; have k0 := k0.below hb5; have k1 := k1.below hb5; have j5 := j5.below hb5; have j6 := j6.below hb5; have k2 := k2.below hb5; have hs := hs.trans (hb5.mono hs.size); have hc := hc.trans (hb5.mono hc.size)) | (go_at_call 115; (with_reducible refine (cancel_nat (HB.out.below hc) (HV2.out.below hc) HG.out.2.2.1 hK2 HK.out.1.2 HG.out.2.2.2).mono ?_); rintro e w6 ⟨v6, rfl, hv6, hb6⟩; have k0 := k0.below hb6; have k1 := k1.below hb6; have j5 := j5.below hb6; have j6 := j6.below hb6; have k2 := k2.below hb6; have hs := hs.trans (hb6.mono hs.size); have hc := hc.trans (hb6.mono hc.size); have hv5 := hv5.below hb6) | (go_at_call 115; (with_reducible refine (cancel_nat (HD.out.below hc) (HV1.out.below hc) HG.out.1 hK2 HK.out.2.1.2 HG.out.2.1).mono ?_); rintro e w7 ⟨v7, rfl, hv7, hb7⟩; have k0 := k0.below hb7; have k1 := k1.below hb7; have j5 := j5.below hb7; have j6 := j6.below hb7; have k2 := k2.below hb7; have hs := hs.trans (hb7.mono hs.size); have hc := hc.trans (hb7.mono hc.size); have hv5 := hv5.below hb7; have hv6 := hv6.below hb7) | (go_at_call 121; (with_reducible refine (mul_nat hv6 hv7 hK HQ.out.2.2.1 HQ.out.2.2.2).mono ?_); rintro e w8 ⟨v8, rfl, hv8, hb8⟩; have k0 := k0.below hb8; have k1 := k1.below hb8; have j5 := j5.below hb8; have j6 := j6.below hb8; have k2 := k2.below hb8; have hs := hs.trans (hb8.mono hs.size); have hc := hc.trans (hb8.mono hc.size); have hv5 := hv5.below hb8; obtain ⟨y5, p5, rfl⟩ := hv5.two; obtain ⟨y8, p8, rfl⟩ := hv8.two; have c0 := k2.c0; have c1 := k2.c1; have c2 := k2.c2; have c3 := k2.c3; have f0 := k2.f 0; have f1 := k2.f 1; have f2 := k2.f 2; have f3 := k2.f 3) | fail)
    obtain ⟨W, hW⟩ : ∃ W, (((w8.setCell ⟨w.heap.size + 2, 0, none⟩ (.int .i64 y5)).setCell ⟨w.heap.size + 2, 1, none⟩ (.pointer p5)).setCell ⟨w.heap.size + 2, 2, none⟩ (.int .i64 y8)).setCell ⟨w.heap.size + 2, 3, none⟩ (.pointer p8) = W := ⟨_, rfl⟩
    rw [hW]
    obtain ⟨z0, z1, z2, z3, z4⟩ := ret_box4 (r := q1 * q2) k2 (by rw [HRM.out.1]; exact hv5) (by rw [HRM.out.2]; exact hv8) hs hg hW
    have HZ := Lib.hid z4
    clear hs c0 c1 c2 c3 f0 f1 f2 f3 hW z4 k0 k1 k2 j5 j6 hc hb3 hb4 hb5 hb6 hb7 hb8 hv3 hv4 hv5 hv6 hv7 hv8
    go_wp2_with fail
    exact bodyPost_ret (v := .agg #[.int .i64 y5, .pointer p5, .int .i64 y8, .pointer p8]) (by simp [results, Tryz.results81, go_sem, z0, z1, z2, z3]) rfl HZ.out
end Go.Proofs.YtekghemhccfhkaaGreatDoor
namespace Go.Proofs.YtekghemhccfhkaaGreatDoor
open Go.RowKit Go.Big
def AllocRel1 (w0 : World) (L : Int) (s5 : Value) (wx : World) : Prop := ∃ g5 y1 p1, s5 = .pointer (some ⟨g5, 0, none⟩) ∧ w0.heap.size ≤ g5 ∧ K2 g5 y1 p1 wx ∧ IntV wx (.agg #[.int .i64 y1, .pointer p1]) L ∧ Below w0.heap.size w0 wx
theorem gcd_nn {vx vy : Value} {n d K G : Nat} {w : World} (hx : IntV w vx (n : Int)) (hy : IntV w vy (d : Int)) (hT : Tabs w) (hK : K < 239) (hn : n < B64 ^ K) (hd : d < B64 ^ K) (hG : Nat.gcd n d = G) :
    Calls Tryz.prog 99 #[vx, vy] w (RetInt w (G : Nat)) := gcd_in hx hy hT hK (by rw [Int.natAbs_natCast]; exact hn) hd (by rw [Int.natAbs_natCast]; exact hG)
theorem cancel_at {vx vy : Value} {n c K X : Nat} {w : World} (hx : IntV w vx (n : Int)) (hy : IntV w vy (c : Int)) (hc0 : 0 < c) (hK : K < 239) (hn : n < B64 ^ K) (hc : c < B64 ^ K) (hX : n / c = X) : Calls Tryz.prog 115 #[vx, vy] w (RetInt w (X : Int)) := by
  rw [← hX]; exact cancel_nat hx hy hc0 hK hn hc
theorem add_at {vx vy : Value} {n m s : Int} {K : Nat} {w : World} (hx : IntV w vx n) (hy : IntV w vy m) (hK : K < 1099511627776) (hn : n.natAbs < B64 ^ K) (hm : m.natAbs < B64 ^ K) (h : n + m = s) :
    Calls Tryz.prog 123 #[vx, vy] w (RetInt w s) := by rw [← h]; exact addI_any hx hy hK hn hm
set_option maxRecDepth 100000 in
set_option maxHeartbeats 4000000 in
theorem addF_any {v v' : Value} {q1 q2 : Rat} {K : Nat} {w : World} (h : FracV w v q1) (h' : FracV w v' q2) (hT : Tabs w) (hK : K < 100) (s1 : Sz K q1) (s2 : Sz K q2) : Calls Tryz.prog 84 #[v, v'] w (RetF w (q1 + q2)) := by
  obtain ⟨a, p, b, r, rfl, ha, hb⟩ := h
  obtain ⟨c, s, d, t, rfl, hc, hd⟩ := h'
  obtain ⟨w0, hw0, hs, k0, k1, k2, hz⟩ := boxes3 w #[.int .i64 a, .pointer p, .int .i64 b, .pointer r] 65 #[.int .i64 c, .pointer s, .int .i64 d, .pointer t] 65 #[.int .i64 0, .pointer none, .int .i64 0, .pointer none] 65 (ip4 _ _ _ _) (ip4 _ _ _ _) (ip4 _ _ _ _)
  have k0 : K4 (w.heap.size) a p b r w0 := k0
  have k1 : K4 (w.heap.size + 1) c s d t w0 := k1
  have k2 : K4 (w.heap.size + 2) 0 none 0 none w0 := k2
  have HA := Lib.hid (ha.below hs)
  have HB := Lib.hid (hb.below hs)
  have HC := Lib.hid (hc.below hs)
  have HD := Lib.hid (hd.below hs)
  obtain ⟨G, hG⟩ : ∃ G, Nat.gcd q1.den q2.den = G := ⟨_, rfl⟩
  obtain ⟨X, hX⟩ : ∃ X, q1.den / G = X := ⟨_, rfl⟩
  obtain ⟨Y, hY⟩ : ∃ Y, q2.den / G = Y := ⟨_, rfl⟩
  obtain ⟨T, hT2⟩ : ∃ T : Int, q1.num * Y + q2.num * X = T := ⟨_, rfl⟩
  obtain ⟨M, hM⟩ : ∃ M, Nat.gcd T.natAbs G = M := ⟨_, rfl⟩
  have HRA := Lib.hid (rat_add_of q1 q2 hG hX hY hT2 hM)
  have hG0 : 0 < G := by rw [← hG]; exact Nat.gcd_pos_of_pos_left _ (rat_den_pos q1)
  have hGl : G < B64 ^ K := Nat.lt_of_le_of_lt (by rw [← hG]; exact Nat.gcd_le_left _ (rat_den_pos q1)) s1.2
  have hXl : X ≤ q1.den := by rw [← hX]; exact Nat.div_le_self _ _
  have hYl : Y ≤ q2.den := by rw [← hY]; exact Nat.div_le_self _ _
  have hTl : T.natAbs < B64 ^ (K + K + 1) := by rw [← hT2]; exact add_sum_lt s1 s2 hXl hYl
  have hM0 : 0 < M := by rw [← hM]; exact Nat.gcd_pos_of_pos_right _ hG0
  have hMl : M ≤ G := by rw [← hM]; exact Nat.gcd_le_right _ hG0
  have hm1 := bw_mono (show K ≤ K + K + 1 by omega)
  have hm2 := bw_mono (show K + K ≤ K + K + 1 by omega)
  have hp1 : (q1.num * (Y : Int)).natAbs < B64 ^ (K + K + 1) := Nat.lt_of_lt_of_le (by rw [Int.natAbs_mul, Int.natAbs_natCast]; exact mul_lt_pow s1.1 (Nat.lt_of_le_of_lt hYl s2.2)) hm2
  have hp2 : (q2.num * (X : Int)).natAbs < B64 ^ (K + K + 1) := Nat.lt_of_lt_of_le (by rw [Int.natAbs_mul, Int.natAbs_natCast]; exact mul_lt_pow s2.1 (Nat.lt_of_le_of_lt hXl s1.2)) hm2
  have HK := Lib.hid (And.intro (show q1.num.natAbs < B64 ^ K ∧ q1.den < B64 ^ K from s1) (And.intro (show q2.num.natAbs < B64 ^ K ∧ q2.den < B64 ^ K from s2) (And.intro hG (tabs_below hT hs))))
  have HE := Lib.hid (And.intro hX (And.intro hY (And.intro hT2 hM)))
  have HP := Lib.hid (show (0 < G ∧ G < B64 ^ K ∧ G < B64 ^ (K + K + 1)) ∧ X < B64 ^ K ∧ Y < B64 ^ K ∧ (Y : Int).natAbs < B64 ^ K ∧ (X : Int).natAbs < B64 ^ K from ⟨⟨hG0, hGl, Nat.lt_of_lt_of_le hGl hm1⟩, Nat.lt_of_le_of_lt hXl s1.2, Nat.lt_of_le_of_lt hYl s2.2, by rw [Int.natAbs_natCast]; exact Nat.lt_of_le_of_lt hYl s2.2, by rw [Int.natAbs_natCast]; exact Nat.lt_of_le_of_lt hXl s1.2⟩)
  have HT := Lib.hid (show T.natAbs < B64 ^ (K + K + 1) ∧ (q1.num * (Y : Int)).natAbs < B64 ^ (K + K + 1) ∧ (q2.num * (X : Int)).natAbs < B64 ^ (K + K + 1) ∧ 0 < M ∧ M < B64 ^ (K + K + 1) ∧ q2.den < B64 ^ (K + K + 1) ∧ q2.den / M < B64 ^ K from
    ⟨hTl, hp1, hp2, hM0, Nat.lt_of_lt_of_le (Nat.lt_of_le_of_lt hMl hGl) hm1, Nat.lt_of_lt_of_le s2.2 hm1, Nat.lt_of_le_of_lt (Nat.div_le_self _ _) s2.2⟩)
  have hK2 : K < 239 := by omega
  have hK3 : K + K + 1 < 239 := by omega
  have hK4 : K + K + 1 < 1099511627776 := by omega
  have hg : w.heap.size ≤ w.heap.size + 2 := by omega
  have HGC := Lib.hid (gcd_nn (HB.out.below (Below.refl w0.heap.size w0)) (HD.out.below (Below.refl w0.heap.size w0)) HK.out.2.2.2 hK2 HK.out.1.2 HK.out.2.1.2 HK.out.2.2.1)
  have HLT := Lib.hid k2
  clear ha hb hc hd hz hG hX hY hT2 hM hG0 hGl hXl hYl hTl hM0 hMl hm1 hm2 hp1 hp2 s1 s2 hT
  have ek00 := k0.c0
  have ek01 := k0.c1
  have ek02 := k0.c2
  have ek03 := k0.c3
  have ek10 := k1.c0
  have ek11 := k1.c1
  have ek12 := k1.c2
  have ek13 := k1.c3
  go_enter Tryz.func84, Tryz.ntmps84
  go_wp2_with fail
  refine HGC.out.mono ?_
  rintro e wg ⟨vg, rfl, hvg, hbg⟩
  obtain ⟨y5, p5, rfl⟩ := hvg.two
  obtain ⟨wa, hwa, hba, j5, hza⟩ := box1 wg #[.int .i64 y5, .pointer p5] 63 (ip2 _ _)
  have hb0 := below_trans hbg hba
  have j5 : K2 (wg.heap.size) y5 p5 wa := j5
  have hvg := hvg.below hba
  have hlt := Bx.lt (K4.below k2 hbg)
  have k0 := k0.below hb0
  have k1 := k1.below hb0
  have k2 := k2.below hb0
  have HW := Lib.hid (below_trans hs hb0)
  have HA := Lib.hid (HA.out.below hb0)
  have HB := Lib.hid (HB.out.below hb0)
  have HC := Lib.hid (HC.out.below hb0)
  have HD := Lib.hid (HD.out.below hb0)
  have HG := Lib.hid hvg
  have HTB := Lib.hid (tabs_below HK.out.2.2.2 hb0)
  clear hs hb0 hbg hba hvg HGC ek00 ek01 ek02 ek03 ek10 ek11 ek12 ek13
  have ek00 := k0.c0
  have ek01 := k0.c1
  have ek02 := k0.c2
  have ek03 := k0.c3
  have ek10 := k1.c0
  have ek11 := k1.c1
  have ek12 := k1.c2
  have ek13 := k1.c3
  have ej50 := j5.c0
  have ej51 := j5.c1
  have h5a : wg.heap.size < wa.heap.size := Bx.lt j5
  clear hza
  have HMK := Lib.hid (fun (W : World) (h : Below wa.heap.size wa W) => (⟨(k0.below h).c0, (k0.below h).c1, (k0.below h).c2, (k0.below h).c3, (k1.below h).c0, (k1.below h).c1, (k1.below h).c2, (k1.below h).c3, (j5.below h).c0, (j5.below h).c1, h⟩ : W.cell? ⟨w.heap.size, 0, none⟩ = some (.int .i64 a) ∧ W.cell? ⟨w.heap.size, 1, none⟩ = some (.pointer p) ∧ W.cell? ⟨w.heap.size, 2, none⟩ = some (.int .i64 b) ∧ W.cell? ⟨w.heap.size, 3, none⟩ = some (.pointer r) ∧ W.cell? ⟨w.heap.size + 1, 0, none⟩ = some (.int .i64 c) ∧ W.cell? ⟨w.heap.size + 1, 1, none⟩ = some (.pointer s) ∧ W.cell? ⟨w.heap.size + 1, 2, none⟩ = some (.int .i64 d) ∧ W.cell? ⟨w.heap.size + 1, 3, none⟩ = some (.pointer t) ∧ W.cell? ⟨wg.heap.size, 0, none⟩ = some (.int .i64 y5) ∧ W.cell? ⟨wg.heap.size, 1, none⟩ = some (.pointer p5) ∧ Below wa.heap.size wa W))
  have HPX := Lib.hid (fun (W : World) (h : W.cell? ⟨w.heap.size, 0, none⟩ = some (.int .i64 a) ∧ W.cell? ⟨w.heap.size, 1, none⟩ = some (.pointer p) ∧ W.cell? ⟨w.heap.size, 2, none⟩ = some (.int .i64 b) ∧ W.cell? ⟨w.heap.size, 3, none⟩ = some (.pointer r) ∧ W.cell? ⟨w.heap.size + 1, 0, none⟩ = some (.int .i64 c) ∧ W.cell? ⟨w.heap.size + 1, 1, none⟩ = some (.pointer s) ∧ W.cell? ⟨w.heap.size + 1, 2, none⟩ = some (.int .i64 d) ∧ W.cell? ⟨w.heap.size + 1, 3, none⟩ = some (.pointer t) ∧ W.cell? ⟨wg.heap.size, 0, none⟩ = some (.int .i64 y5) ∧ W.cell? ⟨wg.heap.size, 1, none⟩ = some (.pointer p5) ∧ Below wa.heap.size wa W) => h.2.2.2.2.2.2.2.2.2.2)
  have hs : Below wa.heap.size wa wa.drew := (Below.refl _ _).drew
  go_upto_region 2 with (fail)
  go_cut [6, 7] (fun s6 s7 wx => AllocRel wa (X : Int) (Y : Int) s6 s7 wx)
  case first =>
    go_region_held3 (fun w' => w'.cell? ⟨w.heap.size, 0, none⟩ = some (.int .i64 a) ∧ w'.cell? ⟨w.heap.size, 1, none⟩ = some (.pointer p) ∧ w'.cell? ⟨w.heap.size, 2, none⟩ = some (.int .i64 b) ∧ w'.cell? ⟨w.heap.size, 3, none⟩ = some (.pointer r) ∧ w'.cell? ⟨w.heap.size + 1, 0, none⟩ = some (.int .i64 c) ∧ w'.cell? ⟨w.heap.size + 1, 1, none⟩ = some (.pointer s) ∧ w'.cell? ⟨w.heap.size + 1, 2, none⟩ = some (.int .i64 d) ∧ w'.cell? ⟨w.heap.size + 1, 3, none⟩ = some (.pointer t) ∧ w'.cell? ⟨wg.heap.size, 0, none⟩ = some (.int .i64 y5) ∧ w'.cell? ⟨wg.heap.size, 1, none⟩ = some (.pointer p5) ∧ Below wa.heap.size wa w') (first | (with_reducible exact HMK.out _ hs) | ((with_reducible refine HMK.out _ ?_); repeat (first | (with_reducible exact hs) | (with_reducible exact Below.refl _ _) | with_reducible apply Below.drew | with_reducible apply Below.alloc' | ((with_reducible refine Below.put1 ?_ ?_) <;> try omega))) | fail) (first | (go_at_call 115; (with_reducible refine (cancel_at (HB.out.below (HPX.out _ (by assumption))) (HG.out.below (HPX.out _ (by assumption))) HP.out.1.1 hK2 HK.out.1.2 HP.out.1.2.1 HE.out.1).mono ?_); rintro e w1 ⟨v1, rfl, hv1, hb1⟩; have hs := below_trans (HPX.out _ (by assumption)) hb1; have zs1 := hb1.size; (try simp at zs1); (try (have zl10 : wa.heap.size < w1.heap.size := by omega)); (try (have zk10 : wa.heap.size + 1 < w1.heap.size := by omega)); (try (have zm10 : wa.heap.size ≤ w1.heap.size := by omega)); obtain ⟨bc1, bf1⟩ := bcell hb1; obtain ⟨y1, p1, rfl⟩ := hv1.two) | (go_at_call 115; (with_reducible refine (cancel_at (HD.out.below (HPX.out _ (by assumption))) (HG.out.below (HPX.out _ (by assumption))) HP.out.1.1 hK2 HK.out.2.1.2 HP.out.1.2.1 HE.out.2.1).mono ?_); rintro e w2 ⟨v2, rfl, hv2, hb2⟩; have hs := below_trans (HPX.out _ (by assumption)) hb2; have zs2 := hb2.size; (try simp at zs2); (try (have zl20 : wa.heap.size < w2.heap.size := by omega)); (try (have zk20 : wa.heap.size + 1 < w2.heap.size := by omega)); (try (have zm20 : wa.heap.size ≤ w2.heap.size := by omega)); (try (have zl21 : w1.heap.size < w2.heap.size := by omega)); (try (have zk21 : w1.heap.size + 1 < w2.heap.size := by omega)); (try (have zm21 : w1.heap.size ≤ w2.heap.size := by omega)); obtain ⟨bc2, bf2⟩ := bcell hb2; obtain ⟨y2, p2, rfl⟩ := hv2.two) | fail)
    all_goals
      go_wp2_with fail
      go_meet
      case rel =>
        refine ⟨_, _, y1, p1, y2, p2, rfl, rfl, by omega, by omega, ?_, ?_, ?_, ?_, ?_⟩
        all_goals
          repeat' (first | (with_reducible exact hv1) | (with_reducible exact hv2) | (with_reducible exact hs) | (with_reducible exact Below.refl _ _) | ((with_reducible refine K2.mk_new ?_); simp; done) | (with_reducible refine K2.st0 ?_) | ((with_reducible refine K2.o2 ?_ ?_ _ _) <;> try omega) | (with_reducible refine IntV.st0 ?_ ?_) | (with_reducible refine K2.below ?_ (below_box _ _ _)) | (with_reducible refine IntV.below ?_ (below_box _ _ _)) | (with_reducible refine K2.below ?_ hb2) | (with_reducible refine IntV.below ?_ hb2) | (with_reducible refine K2.below ?_ hb1) | (with_reducible refine IntV.below ?_ hb1) | (with_reducible apply K2.drew') | with_reducible apply Below.drew | with_reducible apply Below.alloc' | ((with_reducible refine Below.put1 ?_ ?_) <;> try omega))
  case rest =>
    have hwd0 : wa.heap.size ≤ wc.heap.size := by obtain ⟨_, _, _, _, _, _, _, _, _, _, _, _, _, _, hx⟩ := hcut; exact hx.size
    obtain ⟨wd, hwd'⟩ : ∃ wd, wd = wc := ⟨_, rfl⟩
    subst hwd'
    obtain ⟨g6, g7, y6, p6, y7, p7, rfl, rfl, h6, h7, j6, j7, hv6, hv7, hbc⟩ := hcut
    clear HMK HPX hs ek00 ek01 ek02 ek03 ek10 ek11 ek12 ek13 ej50 ej51
    have k0 := k0.below hbc
    have k1 := k1.below hbc
    have k2 := k2.below hbc
    have j5 := j5.below hbc
    have HW2 := Lib.hid (HW.out.trans (hbc.mono HW.out.size))
    have HA := Lib.hid (HA.out.below hbc)
    have HB := Lib.hid (HB.out.below hbc)
    have HC := Lib.hid (HC.out.below hbc)
    have HD := Lib.hid (HD.out.below hbc)
    have HG := Lib.hid (HG.out.below hbc)
    have HTB := Lib.hid (tabs_below HTB.out hbc)
    have HV6 := Lib.hid hv6
    have HV7 := Lib.hid hv7
    clear hbc hv6 hv7
    have ek00 := k0.c0
    have ek01 := k0.c1
    have ek02 := k0.c2
    have ek03 := k0.c3
    have ek10 := k1.c0
    have ek11 := k1.c1
    have ek12 := k1.c2
    have ek13 := k1.c3
    have ej60 := j6.c0
    have ej61 := j6.c1
    have ej70 := j7.c0
    have ej71 := j7.c1
    have HMK := Lib.hid (fun (W : World) (h : Below wd.heap.size wd W) => (⟨(k0.below h).c0, (k0.below h).c1, (k0.below h).c2, (k0.below h).c3, (k1.below h).c0, (k1.below h).c1, (k1.below h).c2, (k1.below h).c3, (j6.below h).c0, (j6.below h).c1, (j7.below h).c0, (j7.below h).c1, h⟩ : W.cell? ⟨w.heap.size, 0, none⟩ = some (.int .i64 a) ∧ W.cell? ⟨w.heap.size, 1, none⟩ = some (.pointer p) ∧ W.cell? ⟨w.heap.size, 2, none⟩ = some (.int .i64 b) ∧ W.cell? ⟨w.heap.size, 3, none⟩ = some (.pointer r) ∧ W.cell? ⟨w.heap.size + 1, 0, none⟩ = some (.int .i64 c) ∧ W.cell? ⟨w.heap.size + 1, 1, none⟩ = some (.pointer s) ∧ W.cell? ⟨w.heap.size + 1, 2, none⟩ = some (.int .i64 d) ∧ W.cell? ⟨w.heap.size + 1, 3, none⟩ = some (.pointer t) ∧ W.cell? ⟨g6, 0, none⟩ = some (.int .i64 y6) ∧ W.cell? ⟨g6, 1, none⟩ = some (.pointer p6) ∧ W.cell? ⟨g7, 0, none⟩ = some (.int .i64 y7) ∧ W.cell? ⟨g7, 1, none⟩ = some (.pointer p7) ∧ Below wd.heap.size wd W))
    have HPX := Lib.hid (fun (W : World) (h : W.cell? ⟨w.heap.size, 0, none⟩ = some (.int .i64 a) ∧ W.cell? ⟨w.heap.size, 1, none⟩ = some (.pointer p) ∧ W.cell? ⟨w.heap.size, 2, none⟩ = some (.int .i64 b) ∧ W.cell? ⟨w.heap.size, 3, none⟩ = some (.pointer r) ∧ W.cell? ⟨w.heap.size + 1, 0, none⟩ = some (.int .i64 c) ∧ W.cell? ⟨w.heap.size + 1, 1, none⟩ = some (.pointer s) ∧ W.cell? ⟨w.heap.size + 1, 2, none⟩ = some (.int .i64 d) ∧ W.cell? ⟨w.heap.size + 1, 3, none⟩ = some (.pointer t) ∧ W.cell? ⟨g6, 0, none⟩ = some (.int .i64 y6) ∧ W.cell? ⟨g6, 1, none⟩ = some (.pointer p6) ∧ W.cell? ⟨g7, 0, none⟩ = some (.int .i64 y7) ∧ W.cell? ⟨g7, 1, none⟩ = some (.pointer p7) ∧ Below wd.heap.size wd W) => h.2.2.2.2.2.2.2.2.2.2.2.2)
    have hs : Below wd.heap.size wd wd.drew := (Below.refl _ _).drew
    go_upto_region 3 with (fail)
    go_cut [8] (fun s8 wx => AllocRel1 wd T s8 wx)
    case first =>
      go_region_held3 (fun w' => w'.cell? ⟨w.heap.size, 0, none⟩ = some (.int .i64 a) ∧ w'.cell? ⟨w.heap.size, 1, none⟩ = some (.pointer p) ∧ w'.cell? ⟨w.heap.size, 2, none⟩ = some (.int .i64 b) ∧ w'.cell? ⟨w.heap.size, 3, none⟩ = some (.pointer r) ∧ w'.cell? ⟨w.heap.size + 1, 0, none⟩ = some (.int .i64 c) ∧ w'.cell? ⟨w.heap.size + 1, 1, none⟩ = some (.pointer s) ∧ w'.cell? ⟨w.heap.size + 1, 2, none⟩ = some (.int .i64 d) ∧ w'.cell? ⟨w.heap.size + 1, 3, none⟩ = some (.pointer t) ∧ w'.cell? ⟨g6, 0, none⟩ = some (.int .i64 y6) ∧ w'.cell? ⟨g6, 1, none⟩ = some (.pointer p6) ∧ w'.cell? ⟨g7, 0, none⟩ = some (.int .i64 y7) ∧ w'.cell? ⟨g7, 1, none⟩ = some (.pointer p7) ∧ Below wd.heap.size wd w') (first | (with_reducible exact HMK.out _ hs) | ((with_reducible refine HMK.out _ ?_); repeat (first | (with_reducible exact hs) | (with_reducible exact Below.refl _ _) | with_reducible apply Below.drew | with_reducible apply Below.alloc' | ((with_reducible refine Below.put1 ?_ ?_) <;> try omega))) | fail) (first | (go_at_call 121; (with_reducible refine (mulI_any (K := K) (HA.out.below (HPX.out _ (by assumption))) (HV7.out.below (HPX.out _ (by assumption))) hK HK.out.1.1 HP.out.2.2.2.1).mono ?_); rintro e w1 ⟨v1, rfl, hv1, hb1⟩; have hs := below_trans (HPX.out _ (by assumption)) hb1; have zs1 := hb1.size; (try simp at zs1); (try (have zl10 : wd.heap.size < w1.heap.size := by omega)); (try (have zk10 : wd.heap.size + 1 < w1.heap.size := by omega)); (try (have zm10 : wd.heap.size ≤ w1.heap.size := by omega)); obtain ⟨bc1, bf1⟩ := bcell hb1) | (go_at_call 121; (with_reducible refine (mulI_any (K := K) (HC.out.below (HPX.out _ (by assumption))) (HV6.out.below (HPX.out _ (by assumption))) hK HK.out.2.1.1 HP.out.2.2.2.2).mono ?_); rintro e w2 ⟨v2, rfl, hv2, hb2⟩; have hs := below_trans (HPX.out _ (by assumption)) hb2; have zs2 := hb2.size; (try simp at zs2); (try (have zl20 : wd.heap.size < w2.heap.size := by omega)); (try (have zk20 : wd.heap.size + 1 < w2.heap.size := by omega)); (try (have zm20 : wd.heap.size ≤ w2.heap.size := by omega)); (try (have zl21 : w1.heap.size < w2.heap.size := by omega)); (try (have zk21 : w1.heap.size + 1 < w2.heap.size := by omega)); (try (have zm21 : w1.heap.size ≤ w2.heap.size := by omega)); obtain ⟨bc2, bf2⟩ := bcell hb2; (first | (have hv1 := hv1.below hb2) | (have hv1 := (hv1.below (below_box _ _ _)).below hb2))) | (go_at_call 123; (with_reducible refine (add_at hv1 hv2 hK4 HT.out.2.1 HT.out.2.2.1 HE.out.2.2.1).mono ?_); rintro e w3 ⟨v3, rfl, hv3, hb3⟩; have hs := below_trans (HPX.out _ (by assumption)) hb3; have zs3 := hb3.size; (try simp at zs3); (try (have zl30 : wd.heap.size < w3.heap.size := by omega)); (try (have zk30 : wd.heap.size + 1 < w3.heap.size := by omega)); (try (have zm30 : wd.heap.size ≤ w3.heap.size := by omega)); (try (have zl31 : w1.heap.size < w3.heap.size := by omega)); (try (have zk31 : w1.heap.size + 1 < w3.heap.size := by omega)); (try (have zm31 : w1.heap.size ≤ w3.heap.size := by omega)); (try (have zl32 : w2.heap.size < w3.heap.size := by omega)); (try (have zk32 : w2.heap.size + 1 < w3.heap.size := by omega)); (try (have zm32 : w2.heap.size ≤ w3.heap.size := by omega)); obtain ⟨bc3, bf3⟩ := bcell hb3; obtain ⟨y8, p8, rfl⟩ := hv3.two) | (go_at_call 123; (with_reducible refine (add_at (hv1.below (below_box _ _ _)) (hv2.below (below_box _ _ _)) hK4 HT.out.2.1 HT.out.2.2.1 HE.out.2.2.1).mono ?_); rintro e w3 ⟨v3, rfl, hv3, hb3⟩; have hs := below_trans (HPX.out _ (by assumption)) hb3; have zs3 := hb3.size; (try simp at zs3); (try (have zl30 : wd.heap.size < w3.heap.size := by omega)); (try (have zk30 : wd.heap.size + 1 < w3.heap.size := by omega)); (try (have zm30 : wd.heap.size ≤ w3.heap.size := by omega)); (try (have zl31 : w1.heap.size < w3.heap.size := by omega)); (try (have zk31 : w1.heap.size + 1 < w3.heap.size := by omega)); (try (have zm31 : w1.heap.size ≤ w3.heap.size := by omega)); (try (have zl32 : w2.heap.size < w3.heap.size := by omega)); (try (have zk32 : w2.heap.size + 1 < w3.heap.size := by omega)); (try (have zm32 : w2.heap.size ≤ w3.heap.size := by omega)); obtain ⟨bc3, bf3⟩ := bcell hb3; obtain ⟨y8, p8, rfl⟩ := hv3.two) | fail)
      all_goals
        go_wp2_with fail
        go_meet
        case rel =>
          refine ⟨_, y8, p8, rfl, by omega, ?_, ?_, ?_⟩
          all_goals
            repeat' (first | (with_reducible exact hv3) | (with_reducible exact hs) | (with_reducible exact Below.refl _ _) | ((with_reducible refine K2.mk_new ?_); simp; done) | (with_reducible refine K2.st0 ?_) | ((with_reducible refine K2.o2 ?_ ?_ _ _) <;> try omega) | (with_reducible refine IntV.st0 ?_ ?_) | (with_reducible refine K2.below ?_ (below_box _ _ _)) | (with_reducible refine IntV.below ?_ (below_box _ _ _)) | (with_reducible refine K2.below ?_ hb3) | (with_reducible refine IntV.below ?_ hb3) | (with_reducible refine K2.below ?_ hb2) | (with_reducible refine IntV.below ?_ hb2) | (with_reducible refine K2.below ?_ hb1) | (with_reducible refine IntV.below ?_ hb1) | (with_reducible apply K2.drew') | with_reducible apply Below.drew | with_reducible apply Below.alloc' | ((with_reducible refine Below.put1 ?_ ?_) <;> try omega))
    case rest =>
      obtain ⟨g8, y8, p8, rfl, h8, j8, hv8, hbd⟩ := hcut
      clear HMK HPX hs ek00 ek01 ek02 ek03 ek10 ek11 ek12 ek13 ej60 ej61 ej70 ej71
      have k0 := k0.below hbd
      have k1 := k1.below hbd
      have k2 := k2.below hbd
      have j5 := j5.below hbd
      have j6 := j6.below hbd
      have j7 := j7.below hbd
      have HW3 := Lib.hid (HW2.out.trans (hbd.mono HW2.out.size))
      have HA := Lib.hid (HA.out.below hbd)
      have HB := Lib.hid (HB.out.below hbd)
      have HC := Lib.hid (HC.out.below hbd)
      have HD := Lib.hid (HD.out.below hbd)
      have HG := Lib.hid (HG.out.below hbd)
      have HV6 := Lib.hid (HV6.out.below hbd)
      have HV7 := Lib.hid (HV7.out.below hbd)
      have HTB := Lib.hid (tabs_below HTB.out hbd)
      have HV8 := Lib.hid hv8
      have hwd := hbd.size
      clear hbd hv8
      have ek00 := k0.c0
      have ek01 := k0.c1
      have ek02 := k0.c2
      have ek03 := k0.c3
      have ek10 := k1.c0
      have ek11 := k1.c1
      have ek12 := k1.c2
      have ek13 := k1.c3
      have ej50 := j5.c0
      have ej51 := j5.c1
      have ej80 := j8.c0
      have ej81 := j8.c1
      go_wp2_with fail
      refine (gcd_in HV8.out HG.out HTB.out hK3 HT.out.1 HP.out.1.2.2 HE.out.2.2.2).mono ?_
      rintro e wh ⟨vm, rfl, hvm, hbm⟩
      obtain ⟨y9, p9, rfl⟩ := hvm.two
      obtain ⟨wi, hwi, hbi, j9, hzi⟩ := box1 wh #[.int .i64 y9, .pointer p9] 63 (ip2 _ _)
      have j9 : K2 (wh.heap.size) y9 p9 wi := j9
      have hwe := hbm.size
      have hvm := hvm.below hbi
      have hbm := below_trans hbm hbi
      have k0 := k0.below hbm
      have k1 := k1.below hbm
      have k2 := k2.below hbm
      have j6 := j6.below hbm
      have j8 := j8.below hbm
      have hs := below_trans HW3.out hbm
      have HB := Lib.hid (HB.out.below hbm)
      have HD := Lib.hid (HD.out.below hbm)
      have HV6 := Lib.hid (HV6.out.below hbm)
      have HV8 := Lib.hid (HV8.out.below hbm)
      have HM := Lib.hid hvm
      clear hbm hbi hvm hzi HA HC HG HTB HW HW2 HW3 ek00 ek01 ek02 ek03 ek10 ek11 ek12 ek13 ej50 ej51 ej80 ej81 j5 j7
      have ek00 := k0.c0
      have ek01 := k0.c1
      have ek02 := k0.c2
      have ek03 := k0.c3
      have ek10 := k1.c0
      have ek11 := k1.c1
      have ek12 := k1.c2
      have ek13 := k1.c3
      have ej60 := j6.c0
      have ej61 := j6.c1
      have ej80 := j8.c0
      have ej81 := j8.c1
      have ej90 := j9.c0
      have ej91 := j9.c1
      go_wp2_with fail
      have k0 : K4 (w.heap.size) a p b r wi.drew := k0
      have k1 : K4 (w.heap.size + 1) c s d t wi.drew := k1
      have j6 : K2 (g6) y6 p6 wi.drew := j6
      have j8 : K2 (g8) y8 p8 wi.drew := j8
      have j9 : K2 (wh.heap.size) y9 p9 wi.drew := j9
      have k2 : K4 (w.heap.size + 2) 0 none 0 none wi.drew := k2
      have hs : Below w.heap.size w wi.drew := hs.drew
      have hc : Below wi.heap.size wi wi.drew := (Below.refl _ _).drew
      have n_k0 : w.heap.size ≠ w.heap.size + 2 := by omega
      have n_k1 : w.heap.size + 1 ≠ w.heap.size + 2 := by omega
      have n_j6 : g6 ≠ w.heap.size + 2 := by omega
      have n_j8 : g8 ≠ w.heap.size + 2 := by omega
      have n_j9 : wh.heap.size ≠ w.heap.size + 2 := by omega
      go_region_held3 (fun w' => w'.cell? ⟨w.heap.size, 0, none⟩ = some (.int .i64 a) ∧ w'.cell? ⟨w.heap.size, 1, none⟩ = some (.pointer p) ∧ w'.cell? ⟨w.heap.size, 2, none⟩ = some (.int .i64 b) ∧ w'.cell? ⟨w.heap.size, 3, none⟩ = some (.pointer r) ∧ w'.cell? ⟨w.heap.size + 1, 0, none⟩ = some (.int .i64 c) ∧ w'.cell? ⟨w.heap.size + 1, 1, none⟩ = some (.pointer s) ∧ w'.cell? ⟨w.heap.size + 1, 2, none⟩ = some (.int .i64 d) ∧ w'.cell? ⟨w.heap.size + 1, 3, none⟩ = some (.pointer t) ∧ w'.cell? ⟨g6, 0, none⟩ = some (.int .i64 y6) ∧ w'.cell? ⟨g6, 1, none⟩ = some (.pointer p6) ∧ w'.cell? ⟨g8, 0, none⟩ = some (.int .i64 y8) ∧ w'.cell? ⟨g8, 1, none⟩ = some (.pointer p8) ∧ w'.cell? ⟨wh.heap.size, 0, none⟩ = some (.int .i64 y9) ∧ w'.cell? ⟨wh.heap.size, 1, none⟩ = some (.pointer p9) ∧ Below w.heap.size w w') (first | (with_reducible exact ⟨k0.c0, k0.c1, k0.c2, k0.c3, k1.c0, k1.c1, k1.c2, k1.c3, j6.c0, j6.c1, j8.c0, j8.c1, j9.c0, j9.c1, hs⟩) | (with_reducible exact ⟨(k0.o4 n_k0 _ _ _ _).c0, (k0.o4 n_k0 _ _ _ _).c1, (k0.o4 n_k0 _ _ _ _).c2, (k0.o4 n_k0 _ _ _ _).c3, (k1.o4 n_k1 _ _ _ _).c0, (k1.o4 n_k1 _ _ _ _).c1, (k1.o4 n_k1 _ _ _ _).c2, (k1.o4 n_k1 _ _ _ _).c3, (j6.o4 n_j6 _ _ _ _).c0, (j6.o4 n_j6 _ _ _ _).c1, (j8.o4 n_j8 _ _ _ _).c0, (j8.o4 n_j8 _ _ _ _).c1, (j9.o4 n_j9 _ _ _ _).c0, (j9.o4 n_j9 _ _ _ _).c1, hs.st4 hg _ _ _ _⟩) | fail) (first | (go_at_call 115; (with_reducible refine (cancel_any (HV8.out.below hc) (HM.out.below hc) HT.out.2.2.2.1 hK3 HT.out.1 HT.out.2.2.2.2.1).mono ?_); rintro e w3 ⟨v3, rfl, hv3, hb3⟩; have k0 := k0.below hb3; have k1 := k1.below hb3; have j6 := j6.below hb3; have j8 := j8.below hb3; have j9 := j9.below hb3; have k2 := k2.below hb3; have hs := hs.trans (hb3.mono hs.size); have hc := hc.trans (hb3.mono hc.size)) | (go_at_call 115; (with_reducible refine (cancel_nat (HD.out.below hc) (HM.out.below hc) HT.out.2.2.2.1 hK3 HT.out.2.2.2.2.2.1 HT.out.2.2.2.2.1).mono ?_); rintro e w4 ⟨v4, rfl, hv4, hb4⟩; have k0 := k0.below hb4; have k1 := k1.below hb4; have j6 := j6.below hb4; have j8 := j8.below hb4; have j9 := j9.below hb4; have k2 := k2.below hb4; have hs := hs.trans (hb4.mono hs.size); have hc := hc.trans (hb4.mono hc.size); have hv3 := hv3.below hb4) | (go_at_call 121; (with_reducible refine (mul_nat (HV6.out.below hc) hv4 hK HP.out.2.1 HT.out.2.2.2.2.2.2).mono ?_); rintro e w5 ⟨v5, rfl, hv5, hb5⟩; have k0 := k0.below hb5; have k1 := k1.below hb5; have j6 := j6.below hb5; have j8 := j8.below hb5; have j9 := j9.below hb5; have k2 := k2.below hb5; have hs := hs.trans (hb5.mono hs.size); have hc := hc.trans (hb5.mono hc.size); have hv3 := hv3.below hb5; obtain ⟨y3, p3, rfl⟩ := hv3.two; obtain ⟨y5', p5', rfl⟩ := hv5.two; have c0 := k2.c0; have c1 := k2.c1; have c2 := k2.c2; have c3 := k2.c3; have f0 := k2.f 0; have f1 := k2.f 1; have f2 := k2.f 2; have f3 := k2.f 3) | fail)
      obtain ⟨W, hW⟩ : ∃ W, (((w5.setCell ⟨w.heap.size + 2, 0, none⟩ (.int .i64 y3)).setCell ⟨w.heap.size + 2, 1, none⟩ (.pointer p3)).setCell ⟨w.heap.size + 2, 2, none⟩ (.int .i64 y5')).setCell ⟨w.heap.size + 2, 3, none⟩ (.pointer p5') = W := ⟨_, rfl⟩
      rw [hW]
      obtain ⟨z0, z1, z2, z3, z4⟩ := ret_box4 (r := q1 + q2) k2 (by rw [HRA.out.1]; exact hv3) (by rw [HRA.out.2]; exact hv5) hs hg hW
      have HZ := Lib.hid z4
      clear hs c0 c1 c2 c3 f0 f1 f2 f3 hW z4 k0 k1 k2 j6 j8 j9 hc hb3 hb4 hb5 hv3 hv4 hv5
      go_wp2_with fail
      exact bodyPost_ret (v := .agg #[.int .i64 y3, .pointer p3, .int .i64 y5', .pointer p5']) (by simp [results, Tryz.results84, go_sem, z0, z1, z2, z3]) rfl HZ.out
end Go.Proofs.YtekghemhccfhkaaGreatDoor
