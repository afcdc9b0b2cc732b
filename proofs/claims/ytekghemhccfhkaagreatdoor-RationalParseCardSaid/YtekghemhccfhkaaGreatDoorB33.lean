/-
  Walks of the program's functions: FracF, FracG, FracH, FracI, FracJ, FracK, Api, Api2, Pars.
-/
import Derived.Test.YtekghemhccfhkaaGreatDoorB32
import Derived.Deep.CutRange
import Derived.Test.YtekghemhccfhkaaGreatDoorShelf
namespace Go.Proofs.YtekghemhccfhkaaGreatDoor
open Go.RowKit Go.Big
theorem _root_.Go.RowKit.Below.alloc' {a w : World} (h : Below a.heap.size a w) (o : Obj) : Below a.heap.size a (w.alloc o) := h.alloc h.size o
theorem _root_.Go.RowKit.Below.put1 {B : Nat} {a w : World} {g i : Nat} {v : Value} (h : Below B a w) (hg : B ≤ g) : Below B a (w.setCell ⟨g, i, none⟩ v) := h.setCell hg v
theorem _root_.Go.Big.K2.mk_new {W : World} {g : Nat} {x : Int} {p : Option Addr} (h : W.heap.size = g) : K2 g x p (W.alloc (.cells #[.int .i64 x, .pointer p] 63)) := by
  subst h; exact Bx.new W 63 (ip2 x p)
theorem _root_.Go.Big.K2.st0 {w : World} {g : Nat} {y : Int} {q : Option Addr} (h : K2 g 0 none w) : K2 g y q (st2 w g y q) := (Bx.set h 0 (IP.int y)).set 1 (IP.ptr q)
theorem _root_.Go.Big.IntV.st0 {w : World} {g : Nat} {y : Int} {q : Option Addr} {v : Value} {n : Int} (k : K2 g 0 none w) (h : IntV w v n) : IntV (Go.Big.st2 w g y q) v n := h.set2 (i := 0) k
def AllocRel (w0 : World) (L R : Int) (s5 s6 : Value) (wx : World) : Prop := ∃ g5 g6 y1 p1 y2 p2, s5 = .pointer (some ⟨g5, 0, none⟩) ∧ s6 = .pointer (some ⟨g6, 0, none⟩) ∧ w0.heap.size ≤ g5 ∧ w0.heap.size ≤ g6 ∧
  K2 g5 y1 p1 wx ∧ K2 g6 y2 p2 wx ∧ IntV wx (.agg #[.int .i64 y1, .pointer p1]) L ∧ IntV wx (.agg #[.int .i64 y2, .pointer p2]) R ∧ Below w0.heap.size w0 wx
theorem bcell {W w1 : World} (hb : Below W.heap.size W w1) : (∀ b o, b < W.heap.size → w1.cell? ⟨b, o, none⟩ = W.cell? ⟨b, o, none⟩) ∧ (∀ b o, b < W.heap.size → w1.frozen? ⟨b, o, none⟩ = W.frozen? ⟨b, o, none⟩) :=
  ⟨fun b o h => hb.cell (p := ⟨b, o, none⟩) h, fun b o h => hb.frozen (p := ⟨b, o, none⟩) h⟩
theorem gcd_in {vx vy : Value} {n : Int} {d K G : Nat} {w : World} (hx : IntV w vx n) (hy : IntV w vy (d : Int)) (hT : Tabs w) (hK : K < 239) (hn : n.natAbs < B64 ^ K) (hd : d < B64 ^ K) (hG : Nat.gcd n.natAbs d = G) :
    Calls Tryz.prog 99 #[vx, vy] w (RetInt w (G : Nat)) := gcdI_at hx hy hT hK hn (by rw [Int.natAbs_natCast]; exact hd) (by rw [Int.natAbs_natCast]; exact hG)
set_option maxRecDepth 100000 in
set_option maxHeartbeats 4000000 in
theorem mulF_any {v v' : Value} {q1 q2 : Rat} {K : Nat} {w : World} (h : FracV w v q1) (h' : FracV w v' q2) (hT : Tabs w) (hK : K < 100) (s1 : Sz K q1) (s2 : Sz K q2) : Calls Tryz.prog 81 #[v, v'] w (RetF w (q1 * q2)) := by
  obtain ⟨a, p, b, r, rfl, ha, hb⟩ := h
  obtain ⟨c, s, d, t, rfl, hc, hd⟩ := h'
  obtain ⟨w0, hw0, hs, k0, k1, k2, hz⟩ := boxes3 w #[.int .i64 a, .pointer p, .int .i64 b, .pointer r] 65 #[.int .i64 c, .pointer s, .int .i64 d, .pointer t] 65 #[.int .i64 0, .pointer none, .int .i64 0, .pointer none] 65 (ip4 _ _ _ _) (ip4 _ _ _ _) (ip4 _ _ _ _)
  have k0 : K4 (w.heap.size) a p b r w0 := k0
  have k1 : K4 (w.heap.size + 1) c s d t w0 := k1
  have k2 : K4 (w.heap.size + 2) 0 none 0 none w0 := k2
  have HA := Lib.hid (ha.below hs)
  have HB := Lib.hid (hb.below hs)
  have HC := Lib.hid (hc.below hs)
  have HD := Lib.hid (hd.below hs)
  obtain ⟨L, hL⟩ : ∃ L, Nat.gcd q1.num.natAbs q2.den = L := ⟨_, rfl⟩
  obtain ⟨R, hR⟩ : ∃ R, Nat.gcd q2.num.natAbs q1.den = R := ⟨_, rfl⟩
  have HK := Lib.hid (And.intro (show q1.num.natAbs < B64 ^ K ∧ q1.den < B64 ^ K from s1) (And.intro (show q2.num.natAbs < B64 ^ K ∧ q2.den < B64 ^ K from s2) (And.intro hL (And.intro hR (tabs_below hT hs)))))
  have hg : w.heap.size ≤ w.heap.size + 2 := by omega
  have hK2 : K < 239 := by omega
  clear ha hb hc hd hz
  have ek00 := k0.c0
  have ek01 := k0.c1
  have ek02 := k0.c2
  have ek03 := k0.c3
  have ek10 := k1.c0
  have ek11 := k1.c1
  have ek12 := k1.c2
  have ek13 := k1.c3
  have HRM := Lib.hid (rat_mul_of q1 q2 hL hR)
  have HG := Lib.hid (show 0 < L ∧ L < B64 ^ K ∧ 0 < R ∧ R < B64 ^ K from ⟨by rw [← hL]; exact Nat.gcd_pos_of_pos_right _ (rat_den_pos q2), Nat.lt_of_le_of_lt (by rw [← hL]; exact Nat.gcd_le_right _ (rat_den_pos q2)) s2.2, by rw [← hR]; exact Nat.gcd_pos_of_pos_right _ (rat_den_pos q1), Nat.lt_of_le_of_lt (by rw [← hR]; exact Nat.gcd_le_right _ (rat_den_pos q1)) s1.2⟩)
  have HQ := Lib.hid (show (q1.num / (L : Int)).natAbs < B64 ^ K ∧ (q2.num / (R : Int)).natAbs < B64 ^ K ∧ q1.den / R < B64 ^ K ∧ q2.den / L < B64 ^ K from ⟨Nat.lt_of_le_of_lt (natAbs_div_le _ _) s1.1, Nat.lt_of_le_of_lt (natAbs_div_le _ _) s2.1, Nat.lt_of_le_of_lt (Nat.div_le_self _ _) s1.2, Nat.lt_of_le_of_lt (Nat.div_le_self _ _) s2.2⟩)
  have HK2B := Lib.hid k2
  clear hL hR s1 s2 hT
  have HMK := Lib.hid (fun (W : World) (h : Below w0.heap.size w0 W) => (⟨(k0.below h).c0, (k0.below h).c1, (k0.below h).c2, (k0.below h).c3, (k1.below h).c0, (k1.below h).c1, (k1.below h).c2, (k1.below h).c3, h⟩ : W.cell? ⟨w.heap.size, 0, none⟩ = some (.int .i64 a) ∧ W.cell? ⟨w.heap.size, 1, none⟩ = some (.pointer p) ∧ W.cell? ⟨w.heap.size, 2, none⟩ = some (.int .i64 b) ∧ W.cell? ⟨w.heap.size, 3, none⟩ = some (.pointer r) ∧ W.cell? ⟨w.heap.size + 1, 0, none⟩ = some (.int .i64 c) ∧ W.cell? ⟨w.heap.size + 1, 1, none⟩ = some (.pointer s) ∧ W.cell? ⟨w.heap.size + 1, 2, none⟩ = some (.int .i64 d) ∧ W.cell? ⟨w.heap.size + 1, 3, none⟩ = some (.pointer t) ∧ Below w0.heap.size w0 W))
  have HPX := Lib.hid (fun (W : World) (h : W.cell? ⟨w.heap.size, 0, none⟩ = some (.int .i64 a) ∧ W.cell? ⟨w.heap.size, 1, none⟩ = some (.pointer p) ∧ W.cell? ⟨w.heap.size, 2, none⟩ = some (.int .i64 b) ∧ W.cell? ⟨w.heap.size, 3, none⟩ = some (.pointer r) ∧ W.cell? ⟨w.heap.size + 1, 0, none⟩ = some (.int .i64 c) ∧ W.cell? ⟨w.heap.size + 1, 1, none⟩ = some (.pointer s) ∧ W.cell? ⟨w.heap.size + 1, 2, none⟩ = some (.int .i64 d) ∧ W.cell? ⟨w.heap.size + 1, 3, none⟩ = some (.pointer t) ∧ Below w0.heap.size w0 W) => h.2.2.2.2.2.2.2.2)
  have HW := Lib.hid hs
  have hs : Below w0.heap.size w0 w0.drew := (Below.refl _ _).drew
  go_enter Tryz.func81, Tryz.ntmps81
  go_upto_region 1 with (fail)
  go_cut [5, 6] (fun s5 s6 wx => AllocRel w0 L R s5 s6 wx)
  case first =>
    go_region_held3 (fun w' => w'.cell? ⟨w.heap.size, 0, none⟩ = some (.int .i64 a) ∧ w'.cell? ⟨w.heap.size, 1, none⟩ = some (.pointer p) ∧ w'.cell? ⟨w.heap.size, 2, none⟩ = some (.int .i64 b) ∧ w'.cell? ⟨w.heap.size, 3, none⟩ = some (.pointer r) ∧ w'.cell? ⟨w.heap.size + 1, 0, none⟩ = some (.int .i64 c) ∧ w'.cell? ⟨w.heap.size + 1, 1, none⟩ = some (.pointer s) ∧ w'.cell? ⟨w.heap.size + 1, 2, none⟩ = some (.int .i64 d) ∧ w'.cell? ⟨w.heap.size + 1, 3, none⟩ = some (.pointer t) ∧ Below w0.heap.size w0 w') (first | (with_reducible exact HMK.out _ hs) | ((with_reducible refine HMK.out _ ?_); repeat (first | (with_reducible exact hs) | (with_reducible exact Below.refl _ _) | with_reducible apply Below.drew | with_reducible apply Below.alloc' | ((with_reducible refine Below.put1 ?_ ?_) <;> try omega))) | fail) (first | (go_at_call 99; (with_reducible refine (gcd_in (HA.out.below (HPX.out _ (by assumption))) (HD.out.below (HPX.out _ (by assumption))) (tabs_below HK.out.2.2.2.2 (HPX.out _ (by assumption))) hK2 HK.out.1.1 HK.out.2.1.2 HK.out.2.2.1).mono ?_); rintro e w1 ⟨v1, rfl, hv1, hb1⟩; have hs := below_trans (HPX.out _ (by assumption)) hb1; have zs1 := hb1.size; (try simp at zs1); (try (have zl10 : w0.heap.size < w1.heap.size := by omega)); (try (have zk10 : w0.heap.size + 1 < w1.heap.size := by omega)); (try (have zm10 : w0.heap.size ≤ w1.heap.size := by omega)); obtain ⟨bc1, bf1⟩ := bcell hb1; obtain ⟨y1, p1, rfl⟩ := hv1.two) | (go_at_call 99; (with_reducible refine (gcd_in (HC.out.below (HPX.out _ (by assumption))) (HB.out.below (HPX.out _ (by assumption))) (tabs_below HK.out.2.2.2.2 (HPX.out _ (by assumption))) hK2 HK.out.2.1.1 HK.out.1.2 HK.out.2.2.2.1).mono ?_); rintro e w2 ⟨v2, rfl, hv2, hb2⟩; have hs := below_trans (HPX.out _ (by assumption)) hb2; have zs2 := hb2.size; (try simp at zs2); (try (have zl20 : w0.heap.size < w2.heap.size := by omega)); (try (have zk20 : w0.heap.size + 1 < w2.heap.size := by omega)); (try (have zm20 : w0.heap.size ≤ w2.heap.size := by omega)); (try (have zl21 : w1.heap.size < w2.heap.size := by omega)); (try (have zk21 : w1.heap.size + 1 < w2.heap.size := by omega)); (try (have zm21 : w1.heap.size ≤ w2.heap.size := by omega)); obtain ⟨bc2, bf2⟩ := bcell hb2; obtain ⟨y2, p2, rfl⟩ := hv2.two) | fail)
    all_goals
      go_wp2_with fail
      go_meet
      case rel =>
        refine ⟨_, _, y1, p1, y2, p2, rfl, rfl, by omega, by omega, ?_, ?_, ?_, ?_, ?_⟩
        all_goals
          repeat' (first | (with_reducible exact hv1) | (with_reducible exact hv2) | (with_reducible exact hs) | (with_reducible exact Below.refl _ _) | ((with_reducible refine K2.mk_new ?_); simp; done) | (with_reducible refine K2.st0 ?_) | ((with_reducible refine K2.o2 ?_ ?_ _ _) <;> try omega) | (with_reducible refine IntV.st0 ?_ ?_) | (with_reducible refine K2.below ?_ (below_box _ _ _)) | (with_reducible refine IntV.below ?_ (below_box _ _ _)) | (with_reducible refine K2.below ?_ hb2) | (with_reducible refine IntV.below ?_ hb2) | (with_reducible refine K2.below ?_ hb1) | (with_reducible apply K2.drew') | with_reducible apply Below.drew | with_reducible apply Below.alloc' | ((with_reducible refine Below.put1 ?_ ?_) <;> try omega))
  case rest =>
    obtain ⟨g5, g6, y1, p1, y2, p2, rfl, rfl, h5, h6, j5, j6, hv1, hv2, hbc⟩ := hcut
    clear HMK HPX hs ek00 ek01 ek02 ek03 ek10 ek11 ek12 ek13
    have k0 := k0.below hbc
    have k1 := k1.below hbc
    have k2 := k2.below hbc
    have hs := below_trans HW.out hbc
    have hlt : w.heap.size + 2 < w0.heap.size := Bx.lt HK2B.out
    have HA := Lib.hid (HA.out.below hbc)
    have HB := Lib.hid (HB.out.below hbc)
    have HC := Lib.hid (HC.out.below hbc)
    have HD := Lib.hid (HD.out.below hbc)
    have HV1 := Lib.hid hv1
    have HV2 := Lib.hid hv2
    clear hbc hv1 hv2
    go_wp2_with fail
    have k0 : K4 (w.heap.size) a p b r wc.drew := k0
    have k1 : K4 (w.heap.size + 1) c s d t wc.drew := k1
    have j5 : K2 (g5) y1 p1 wc.drew := j5
    have j6 : K2 (g6) y2 p2 wc.drew := j6
    have k2 : K4 (w.heap.size + 2) 0 none 0 none wc.drew := k2
    have hs : Below w.heap.size w wc.drew := hs.drew
    have hc : Below wc.heap.size wc wc.drew := (Below.refl _ _).drew
    have n_k0 : w.heap.size ≠ w.heap.size + 2 := by omega
    have n_k1 : w.heap.size + 1 ≠ w.heap.size + 2 := by omega
    have n_j5 : g5 ≠ w.heap.size + 2 := by omega
    have n_j6 : g6 ≠ w.heap.size + 2 := by omega
    go_region_held3 (fun w' => w'.cell? ⟨w.heap.size, 0, none⟩ = some (.int .i64 a) ∧ w'.cell? ⟨w.heap.size, 1, none⟩ = some (.pointer p) ∧ w'.cell? ⟨w.heap.size, 2, none⟩ = some (.int .i64 b) ∧ w'.cell? ⟨w.heap.size, 3, none⟩ = some (.pointer r) ∧ w'.cell? ⟨w.heap.size + 1, 0, none⟩ = some (.int .i64 c) ∧ w'.cell? ⟨w.heap.size + 1, 1, none⟩ = some (.pointer s) ∧ w'.cell? ⟨w.heap.size + 1, 2, none⟩ = some (.int .i64 d) ∧ w'.cell? ⟨w.heap.size + 1, 3, none⟩ = some (.pointer t) ∧ w'.cell? ⟨g5, 0, none⟩ = some (.int .i64 y1) ∧ w'.cell? ⟨g5, 1, none⟩ = some (.pointer p1) ∧ w'.cell? ⟨g6, 0, none⟩ = some (.int .i64 y2) ∧ w'.cell? ⟨g6, 1, none⟩ = some (.pointer p2) ∧ Below w.heap.size w w') (first | (with_reducible exact ⟨k0.c0, k0.c1, k0.c2, k0.c3, k1.c0, k1.c1, k1.c2, k1.c3, j5.c0, j5.c1, j6.c0, j6.c1, hs⟩) | (with_reducible exact ⟨(k0.o4 n_k0 _ _ _ _).c0, (k0.o4 n_k0 _ _ _ _).c1, (k0.o4 n_k0 _ _ _ _).c2, (k0.o4 n_k0 _ _ _ _).c3, (k1.o4 n_k1 _ _ _ _).c0, (k1.o4 n_k1 _ _ _ _).c1, (k1.o4 n_k1 _ _ _ _).c2, (k1.o4 n_k1 _ _ _ _).c3, (j5.o4 n_j5 _ _ _ _).c0, (j5.o4 n_j5 _ _ _ _).c1, (j6.o4 n_j6 _ _ _ _).c0, (j6.o4 n_j6 _ _ _ _).c1, hs.st4 hg _ _ _ _⟩) | fail) (first | (go_at_call 115; (with_reducible refine (cancel_any (HA.out.below hc) (HV1.out.below hc) HG.out.1 hK2 HK.out.1.1 HG.out.2.1).mono ?_); rintro e w3 ⟨v3, rfl, hv3, hb3⟩; have k0 := k0.below hb3; have k1 := k1.below hb3; have j5 := j5.below hb3; have j6 := j6.below hb3; have k2 := k2.below hb3; have hs := hs.trans (hb3.mono hs.size); have hc := hc.trans (hb3.mono hc.size)) | (go_at_call 115; (with_reducible refine (cancel_any (HC.out.below hc) (HV2.out.below hc) HG.out.2.2.1 hK2 HK.out.2.1.1 HG.out.2.2.2).mono ?_); rintro e w4 ⟨v4, rfl, hv4, hb4⟩; have k0 := k0.below hb4; have k1 := k1.below hb4; have j5 := j5.below hb4; have j6 := j6.below hb4; have k2 := k2.below hb4; have hs := hs.trans (hb4.mono hs.size); have hc := hc.trans (hb4.mono hc.size); have hv3 := hv3.below hb4) | (go_at_call 121; (with_reducible refine (mulI_any hv3 hv4 hK HQ.out.1 HQ.out.2.1).mono ?_); rintro e w5 ⟨v5, rfl, hv5, hb5⟩; have k0 := k0.below hb5; have k1 := k1.below hb5; have j5 := j5.below hb5; have j6 := j6.below hb5; have k2 := k2.below hb5; have hs := hs.trans (hb5.mono hs.size); have hc := hc.trans (hb5.mono hc.size)) | (go_at_call 115; (with_reducible refine (cancel_nat (HB.out.below hc) (HV2.out.below hc) HG.out.2.2.1 hK2 HK.out.1.2 HG.out.2.2.2).mono ?_); rintro e w6 ⟨v6, rfl, hv6, hb6⟩; have k0 := k0.below hb6; have k1 := k1.below hb6; have j5 := j5.below hb6; have j6 := j6.below hb6; have k2 := k2.below hb6; have hs := hs.trans (hb6.mono hs.size); have hc := hc.trans (hb6.mono hc.size); have hv5 := hv5.below hb6) | (go_at_call 115; (with_reducible refine (cancel_nat (HD.out.below hc) (HV1.out.below hc) HG.out.1 hK2 HK.out.2.1.2 HG.out.2.1).mono ?_); rintro e w7 ⟨v7, rfl, hv7, hb7⟩; have k0 := k0.below hb7; have k1 := k1.below hb7; have j5 := j5.below hb7; have j6 := j6.below hb7; have k2 := k2.below hb7; have hs := hs.trans (hb7.mono hs.size); have hc := hc.trans (hb7.mono hc.size); have hv5 := hv5.below hb7; have hv6 := hv6.below hb7) | (go_at_call 121; (with_reducible refine (mul_nat hv6 hv7 hK HQ.out.2.2.1 HQ.out.2.2.2).mono ?_); rintro e w8 ⟨v8, rfl, hv8, hb8⟩; have k0 := k0.below hb8; have k1 := k1.below hb8; have j5 := j5.below hb8; have j6 := j6.below hb8; have k2 := k2.below hb8; have hs := hs.trans (hb8.mono hs.size); have hc := hc.trans (hb8.mono hc.size); have hv5 := hv5.below hb8; obtain ⟨y5, p5, rfl⟩ := hv5.two; obtain ⟨y8, p8, rfl⟩ := hv8.two; have c0 := k2.c0; have c1 := k2.c1; have c2 := k2.c2; have c3 := k2.c3; have f0 := k2.f 0; have f1 := k2.f 1; have f2 := k2.f 2; have f3 := k2.f 3) | fail)
    obtain ⟨W, hW⟩ : ∃ W, (((w8.setCell ⟨w.heap.size + 2, 0, none⟩ (.int .i64 y5)).setCell ⟨w.heap.size + 2, 1, none⟩ (.pointer p5)).setCell ⟨w.heap.size + 2, 2, none⟩ (.int .i64 y8)).setCell ⟨w.heap.size + 2, 3, none⟩ (.pointer p8) = W := ⟨_, rfl⟩
    rw [hW]
    obtain ⟨z0, z1, z2, z3, z4⟩ := ret_box4 (r := q1 * q2) k2 (by rw [HRM.out.1]; exact hv5) (by rw [HRM.out.2]; exact hv8) hs hg hW
    have HZ := Lib.hid z4
    clear hs c0 c1 c2 c3 f0 f1 f2 f3 hW z4 k0 k1 k2 j5 j6 hc hb3 hb4 hb5 hb6 hb7 hb8 hv3 hv4 hv5 hv6 hv7 hv8
    go_wp2_with fail
    exact bodyPost_ret (v := .agg #[.int .i64 y5, .pointer p5, .int .i64 y8, .pointer p8]) (by simp [results, Tryz.results81, go_sem, z0, z1, z2, z3]) rfl HZ.out
end Go.Proofs.YtekghemhccfhkaaGreatDoor
namespace Go.Proofs.YtekghemhccfhkaaGreatDoor
open Go.RowKit Go.Big
def AllocRel1 (w0 : World) (L : Int) (s5 : Value) (wx : World) : Prop := ∃ g5 y1 p1, s5 = .pointer (some ⟨g5, 0, none⟩) ∧ w0.heap.size ≤ g5 ∧ K2 g5 y1 p1 wx ∧ IntV wx (.agg #[.int .i64 y1, .pointer p1]) L ∧ Below w0.heap.size w0 wx
theorem gcd_nn {vx vy : Value} {n d K G : Nat} {w : World} (hx : IntV w vx (n : Int)) (hy : IntV w vy (d : Int)) (hT : Tabs w) (hK : K < 239) (hn : n < B64 ^ K) (hd : d < B64 ^ K) (hG : Nat.gcd n d = G) :
    Calls Tryz.prog 99 #[vx, vy] w (RetInt w (G : Nat)) := gcd_in hx hy hT hK (by rw [Int.natAbs_natCast]; exact hn) hd (by rw [Int.natAbs_natCast]; exact hG)
theorem cancel_at {vx vy : Value} {n c K X : Nat} {w : World} (hx : IntV w vx (n : Int)) (hy : IntV w vy (c : Int)) (hc0 : 0 < c) (hK : K < 239) (hn : n < B64 ^ K) (hc : c < B64 ^ K) (hX : n / c = X) : Calls Tryz.prog 115 #[vx, vy] w (RetInt w (X : Int)) := by
  rw [← hX]; exact cancel_nat hx hy hc0 hK hn hc
theorem add_at {vx vy : Value} {n m s : Int} {K : Nat} {w : World} (hx : IntV w vx n) (hy : IntV w vy m) (hK : K < 1099511627776) (hn : n.natAbs < B64 ^ K) (hm : m.natAbs < B64 ^ K) (h : n + m = s) :
    Calls Tryz.prog 123 #[vx, vy] w (RetInt w s) := by rw [← h]; exact addI_any hx hy hK hn hm
set_option maxRecDepth 100000 in
set_option maxHeartbeats 4000000 in
theorem addF_any {v v' : Value} {q1 q2 : Rat} {K : Nat} {w : World} (h : FracV w v q1) (h' : FracV w v' q2) (hT : Tabs w) (hK : K < 100) (s1 : Sz K q1) (s2 : Sz K q2) : Calls Tryz.prog 84 #[v, v'] w (RetF w (q1 + q2)) := by
  obtain ⟨a, p, b, r, rfl, ha, hb⟩ := h
  obtain ⟨c, s, d, t, rfl, hc, hd⟩ := h'
  obtain ⟨w0, hw0, hs, k0, k1, k2, hz⟩ := boxes3 w #[.int .i64 a, .pointer p, .int .i64 b, .pointer r] 65 #[.int .i64 c, .pointer s, .int .i64 d, .pointer t] 65 #[.int .i64 0, .pointer none, .int .i64 0, .pointer none] 65 (ip4 _ _ _ _) (ip4 _ _ _ _) (ip4 _ _ _ _)
  have k0 : K4 (w.heap.size) a p b r w0 := k0
  have k1 : K4 (w.heap.size + 1) c s d t w0 := k1
  have k2 : K4 (w.heap.size + 2) 0 none 0 none w0 := k2
  have HA := Lib.hid (ha.below hs)
  have HB := Lib.hid (hb.below hs)
  have HC := Lib.hid (hc.below hs)
  have HD := Lib.hid (hd.below hs)
  obtain ⟨G, hG⟩ : ∃ G, Nat.gcd q1.den q2.den = G := ⟨_, rfl⟩
  obtain ⟨X, hX⟩ : ∃ X, q1.den / G = X := ⟨_, rfl⟩
  obtain ⟨Y, hY⟩ : ∃ Y, q2.den / G = Y := ⟨_, rfl⟩
  obtain ⟨T, hT2⟩ : ∃ T : Int, q1.num * Y + q2.num * X = T := ⟨_, rfl⟩
  obtain ⟨M, hM⟩ : ∃ M, Nat.gcd T.natAbs G = M := ⟨_, rfl⟩
  have HRA := Lib.hid (rat_add_of q1 q2 hG hX hY hT2 hM)
  have hG0 : 0 < G := by rw [← hG]; exact Nat.gcd_pos_of_pos_left _ (rat_den_pos q1)
  have hGl : G < B64 ^ K := Nat.lt_of_le_of_lt (by rw [← hG]; exact Nat.gcd_le_left _ (rat_den_pos q1)) s1.2
  have hXl : X ≤ q1.den := by rw [← hX]; exact Nat.div_le_self _ _
  have hYl : Y ≤ q2.den := by rw [← hY]; exact Nat.div_le_self _ _
  have hTl : T.natAbs < B64 ^ (K + K + 1) := by rw [← hT2]; exact add_sum_lt s1 s2 hXl hYl
  have hM0 : 0 < M := by rw [← hM]; exact Nat.gcd_pos_of_pos_right _ hG0
  have hMl : M ≤ G := by rw [← hM]; exact Nat.gcd_le_right _ hG0
  have hm1 := bw_mono (show K ≤ K + K + 1 by omega)
  have hm2 := bw_mono (show K + K ≤ K + K + 1 by omega)
  have hp1 : (q1.num * (Y : Int)).natAbs < B64 ^ (K + K + 1) := Nat.lt_of_lt_of_le (by rw [Int.natAbs_mul, Int.natAbs_natCast]; exact mul_lt_pow s1.1 (Nat.lt_of_le_of_lt hYl s2.2)) hm2
  have hp2 : (q2.num * (X : Int)).natAbs < B64 ^ (K + K + 1) := Nat.lt_of_lt_of_le (by rw [Int.natAbs_mul, Int.natAbs_natCast]; exact mul_lt_pow s2.1 (Nat.lt_of_le_of_lt hXl s1.2)) hm2
  have HK := Lib.hid (And.intro (show q1.num.natAbs < B64 ^ K ∧ q1.den < B64 ^ K from s1) (And.intro (show q2.num.natAbs < B64 ^ K ∧ q2.den < B64 ^ K from s2) (And.intro hG (tabs_below hT hs))))
  have HE := Lib.hid (And.intro hX (And.intro hY (And.intro hT2 hM)))
  have HP := Lib.hid (show (0 < G ∧ G < B64 ^ K ∧ G < B64 ^ (K + K + 1)) ∧ X < B64 ^ K ∧ Y < B64 ^ K ∧ (Y : Int).natAbs < B64 ^ K ∧ (X : Int).natAbs < B64 ^ K from ⟨⟨hG0, hGl, Nat.lt_of_lt_of_le hGl hm1⟩, Nat.lt_of_le_of_lt hXl s1.2, Nat.lt_of_le_of_lt hYl s2.2, by rw [Int.natAbs_natCast]; exact Nat.lt_of_le_of_lt hYl s2.2, by rw [Int.natAbs_natCast]; exact Nat.lt_of_le_of_lt hXl s1.2⟩)
  have HT := Lib.hid (show T.natAbs < B64 ^ (K + K + 1) ∧ (q1.num * (Y : Int)).natAbs < B64 ^ (K + K + 1) ∧ (q2.num * (X : Int)).natAbs < B64 ^ (K + K + 1) ∧ 0 < M ∧ M < B64 ^ (K + K + 1) ∧ q2.den < B64 ^ (K + K + 1) ∧ q2.den / M < B64 ^ K from
    ⟨hTl, hp1, hp2, hM0, Nat.lt_of_lt_of_le (Nat.lt_of_le_of_lt hMl hGl) hm1, Nat.lt_of_lt_of_le s2.2 hm1, Nat.lt_of_le_of_lt (Nat.div_le_self _ _) s2.2⟩)
  have hK2 : K < 239 := by omega
  have hK3 : K + K + 1 < 239 := by omega
  have hK4 : K + K + 1 < 1099511627776 := by omega
  have hg : w.heap.size ≤ w.heap.size + 2 := by omega
  have HGC := Lib.hid (gcd_nn (HB.out.below (Below.refl w0.heap.size w0)) (HD.out.below (Below.refl w0.heap.size w0)) HK.out.2.2.2 hK2 HK.out.1.2 HK.out.2.1.2 HK.out.2.2.1)
  have HLT := Lib.hid k2
  clear ha hb hc hd hz hG hX hY hT2 hM hG0 hGl hXl hYl hTl hM0 hMl hm1 hm2 hp1 hp2 s1 s2 hT
  have ek00 := k0.c0
  have ek01 := k0.c1
  have ek02 := k0.c2
  have ek03 := k0.c3
  have ek10 := k1.c0
  have ek11 := k1.c1
  have ek12 := k1.c2
  have ek13 := k1.c3
  go_enter Tryz.func84, Tryz.ntmps84
  go_wp2_with fail
  refine HGC.out.mono ?_
  rintro e wg ⟨vg, rfl, hvg, hbg⟩
  obtain ⟨y5, p5, rfl⟩ := hvg.two
  obtain ⟨wa, hwa, hba, j5, hza⟩ := box1 wg #[.int .i64 y5, .pointer p5] 63 (ip2 _ _)
  have hb0 := below_trans hbg hba
  have j5 : K2 (wg.heap.size) y5 p5 wa := j5
  have hvg := hvg.below hba
  have hlt := Bx.lt (K4.below k2 hbg)
  have k0 := k0.below hb0
  have k1 := k1.below hb0
  have k2 := k2.below hb0
  have HW := Lib.hid (below_trans hs hb0)
  have HA := Lib.hid (HA.out.below hb0)
  have HB := Lib.hid (HB.out.below hb0)
  have HC := Lib.hid (HC.out.below hb0)
  have HD := Lib.hid (HD.out.below hb0)
  have HG := Lib.hid hvg
  have HTB := Lib.hid (tabs_below HK.out.2.2.2 hb0)
  clear hs hb0 hbg hba hvg HGC ek00 ek01 ek02 ek03 ek10 ek11 ek12 ek13
  have ek00 := k0.c0
  have ek01 := k0.c1
  have ek02 := k0.c2
  have ek03 := k0.c3
  have ek10 := k1.c0
  have ek11 := k1.c1
  have ek12 := k1.c2
  have ek13 := k1.c3
  have ej50 := j5.c0
  have ej51 := j5.c1
  have h5a : wg.heap.size < wa.heap.size := Bx.lt j5
  clear hza
  have HMK := Lib.hid (fun (W : World) (h : Below wa.heap.size wa W) => (⟨(k0.below h).c0, (k0.below h).c1, (k0.below h).c2, (k0.below h).c3, (k1.below h).c0, (k1.below h).c1, (k1.below h).c2, (k1.below h).c3, (j5.below h).c0, (j5.below h).c1, h⟩ : W.cell? ⟨w.heap.size, 0, none⟩ = some (.int .i64 a) ∧ W.cell? ⟨w.heap.size, 1, none⟩ = some (.pointer p) ∧ W.cell? ⟨w.heap.size, 2, none⟩ = some (.int .i64 b) ∧ W.cell? ⟨w.heap.size, 3, none⟩ = some (.pointer r) ∧ W.cell? ⟨w.heap.size + 1, 0, none⟩ = some (.int .i64 c) ∧ W.cell? ⟨w.heap.size + 1, 1, none⟩ = some (.pointer s) ∧ W.cell? ⟨w.heap.size + 1, 2, none⟩ = some (.int .i64 d) ∧ W.cell? ⟨w.heap.size + 1, 3, none⟩ = some (.pointer t) ∧ W.cell? ⟨wg.heap.size, 0, none⟩ = some (.int .i64 y5) ∧ W.cell? ⟨wg.heap.size, 1, none⟩ = some (.pointer p5) ∧ Below wa.heap.size wa W))
  have HPX := Lib.hid (fun (W : World) (h : W.cell? ⟨w.heap.size, 0, none⟩ = some (.int .i64 a) ∧ W.cell? ⟨w.heap.size, 1, none⟩ = some (.pointer p) ∧ W.cell? ⟨w.heap.size, 2, none⟩ = some (.int .i64 b) ∧ W.cell? ⟨w.heap.size, 3, none⟩ = some (.pointer r) ∧ W.cell? ⟨w.heap.size + 1, 0, none⟩ = some (.int .i64 c) ∧ W.cell? ⟨w.heap.size + 1, 1, none⟩ = some (.pointer s) ∧ W.cell? ⟨w.heap.size + 1, 2, none⟩ = some (.int .i64 d) ∧ W.cell? ⟨w.heap.size + 1, 3, none⟩ = some (.pointer t) ∧ W.cell? ⟨wg.heap.size, 0, none⟩ = some (.int .i64 y5) ∧ W.cell? ⟨wg.heap.size, 1, none⟩ = some (.pointer p5) ∧ Below wa.heap.size wa W) => h.2.2.2.2.2.2.2.2.2.2)
  have hs : Below wa.heap.size wa wa.drew := (Below.refl _ _).drew
  go_upto_region 2 with (fail)
  go_cut [6, 7] (fun s6 s7 wx => AllocRel wa (X : Int) (Y : Int) s6 s7 wx)
  case first =>
    go_region_held3 (fun w' => w'.cell? ⟨w.heap.size, 0, none⟩ = some (.int .i64 a) ∧ w'.cell? ⟨w.heap.size, 1, none⟩ = some (.pointer p) ∧ w'.cell? ⟨w.heap.size, 2, none⟩ = some (.int .i64 b) ∧ w'.cell? ⟨w.heap.size, 3, none⟩ = some (.pointer r) ∧ w'.cell? ⟨w.heap.size + 1, 0, none⟩ = some (.int .i64 c) ∧ w'.cell? ⟨w.heap.size + 1, 1, none⟩ = some (.pointer s) ∧ w'.cell? ⟨w.heap.size + 1, 2, none⟩ = some (.int .i64 d) ∧ w'.cell? ⟨w.heap.size + 1, 3, none⟩ = some (.pointer t) ∧ w'.cell? ⟨wg.heap.size, 0, none⟩ = some (.int .i64 y5) ∧ w'.cell? ⟨wg.heap.size, 1, none⟩ = some (.pointer p5) ∧ Below wa.heap.size wa w') (first | (with_reducible exact HMK.out _ hs) | ((with_reducible refine HMK.out _ ?_); repeat (first | (with_reducible exact hs) | (with_reducible exact Below.refl _ _) | with_reducible apply Below.drew | with_reducible apply Below.alloc' | ((with_reducible refine Below.put1 ?_ ?_) <;> try omega))) | fail) (first | (go_at_call 115; (with_reducible refine (cancel_at (HB.out.below (HPX.out _ (by assumption))) (HG.out.below (HPX.out _ (by assumption))) HP.out.1.1 hK2 HK.out.1.2 HP.out.1.2.1 HE.out.1).mono ?_); rintro e w1 ⟨v1, rfl, hv1, hb1⟩; have hs := below_trans (HPX.out _ (by assumption)) hb1; have zs1 := hb1.size; (try simp at zs1); (try (have zl10 : wa.heap.size < w1.heap.size := by omega)); (try (have zk10 : wa.heap.size + 1 < w1.heap.size := by omega)); (try (have zm10 : wa.heap.size ≤ w1.heap.size := by omega)); obtain ⟨bc1, bf1⟩ := bcell hb1; obtain ⟨y1, p1, rfl⟩ := hv1.two) | (go_at_call 115; (with_reducible refine (cancel_at (HD.out.below (HPX.out _ (by assumption))) (HG.out.below (HPX.out _ (by assumption))) HP.out.1.1 hK2 HK.out.2.1.2 HP.out.1.2.1 HE.out.2.1).mono ?_); rintro e w2 ⟨v2, rfl, hv2, hb2⟩; have hs := below_trans (HPX.out _ (by assumption)) hb2; have zs2 := hb2.size; (try simp at zs2); (try (have zl20 : wa.heap.size < w2.heap.size := by omega)); (try (have zk20 : wa.heap.size + 1 < w2.heap.size := by omega)); (try (have zm20 : wa.heap.size ≤ w2.heap.size := by omega)); (try (have zl21 : w1.heap.size < w2.heap.size := by omega)); (try (have zk21 : w1.heap.size + 1 < w2.heap.size := by omega)); (try (have zm21 : w1.heap.size ≤ w2.heap.size := by omega)); obtain ⟨bc2, bf2⟩ := bcell hb2; obtain ⟨y2, p2, rfl⟩ := hv2.two) | fail)
    all_goals
      go_wp2_with fail
      go_meet
      case rel =>
        refine ⟨_, _, y1, p1, y2, p2, rfl, rfl, by omega, by omega, ?_, ?_, ?_, ?_, ?_⟩
        all_goals
          repeat' (first | (with_reducible exact hv1) | (with_reducible exact hv2) | (with_reducible exact hs) | (with_reducible exact Below.refl _ _) | ((with_reducible refine K2.mk_new ?_); simp; done) | (with_reducible refine K2.st0 ?_) | ((with_reducible refine K2.o2 ?_ ?_ _ _) <;> try omega) | (with_reducible refine IntV.st0 ?_ ?_) | (with_reducible refine K2.below ?_ (below_box _ _ _)) | (with_reducible refine IntV.below ?_ (below_box _ _ _)) | (with_reducible refine K2.below ?_ hb2) | (with_reducible refine IntV.below ?_ hb2) | (with_reducible refine K2.below ?_ hb1) | (with_reducible refine IntV.below ?_ hb1) | (with_reducible apply K2.drew') | with_reducible apply Below.drew | with_reducible apply Below.alloc' | ((with_reducible refine Below.put1 ?_ ?_) <;> try omega))
  case rest =>
    have hwd0 : wa.heap.size ≤ wc.heap.size := by obtain ⟨_, _, _, _, _, _, _, _, _, _, _, _, _, _, hx⟩ := hcut; exact hx.size
    obtain ⟨wd, hwd'⟩ : ∃ wd, wd = wc := ⟨_, rfl⟩
    subst hwd'
    obtain ⟨g6, g7, y6, p6, y7, p7, rfl, rfl, h6, h7, j6, j7, hv6, hv7, hbc⟩ := hcut
    clear HMK HPX hs ek00 ek01 ek02 ek03 ek10 ek11 ek12 ek13 ej50 ej51
    have k0 := k0.below hbc
    have k1 := k1.below hbc
    have k2 := k2.below hbc
    have j5 := j5.below hbc
    have HW2 := Lib.hid (HW.out.trans (hbc.mono HW.out.size))
    have HA := Lib.hid (HA.out.below hbc)
    have HB := Lib.hid (HB.out.below hbc)
    have HC := Lib.hid (HC.out.below hbc)
    have HD := Lib.hid (HD.out.below hbc)
    have HG := Lib.hid (HG.out.below hbc)
    have HTB := Lib.hid (tabs_below HTB.out hbc)
    have HV6 := Lib.hid hv6
    have HV7 := Lib.hid hv7
    clear hbc hv6 hv7
    have ek00 := k0.c0
    have ek01 := k0.c1
    have ek02 := k0.c2
    have ek03 := k0.c3
    have ek10 := k1.c0
    have ek11 := k1.c1
    have ek12 := k1.c2
    have ek13 := k1.c3
    have ej60 := j6.c0
    have ej61 := j6.c1
    have ej70 := j7.c0
    have ej71 := j7.c1
    have HMK := Lib.hid (fun (W : World) (h : Below wd.heap.size wd W) => (⟨(k0.below h).c0, (k0.below h).c1, (k0.below h).c2, (k0.below h).c3, (k1.below h).c0, (k1.below h).c1, (k1.below h).c2, (k1.below h).c3, (j6.below h).c0, (j6.below h).c1, (j7.below h).c0, (j7.below h).c1, h⟩ : W.cell? ⟨w.heap.size, 0, none⟩ = some (.int .i64 a) ∧ W.cell? ⟨w.heap.size, 1, none⟩ = some (.pointer p) ∧ W.cell? ⟨w.heap.size, 2, none⟩ = some (.int .i64 b) ∧ W.cell? ⟨w.heap.size, 3, none⟩ = some (.pointer r) ∧ W.cell? ⟨w.heap.size + 1, 0, none⟩ = some (.int .i64 c) ∧ W.cell? ⟨w.heap.size + 1, 1, none⟩ = some (.pointer s) ∧ W.cell? ⟨w.heap.size + 1, 2, none⟩ = some (.int .i64 d) ∧ W.cell? ⟨w.heap.size + 1, 3, none⟩ = some (.pointer t) ∧ W.cell? ⟨g6, 0, none⟩ = some (.int .i64 y6) ∧ W.cell? ⟨g6, 1, none⟩ = some (.pointer p6) ∧ W.cell? ⟨g7, 0, none⟩ = some (.int .i64 y7) ∧ W.cell? ⟨g7, 1, none⟩ = some (.pointer p7) ∧ Below wd.heap.size wd W))
    have HPX := Lib.hid (fun (W : World) (h : W.cell? ⟨w.heap.size, 0, none⟩ = some (.int .i64 a) ∧ W.cell? ⟨w.heap.size, 1, none⟩ = some (.pointer p) ∧ W.cell? ⟨w.heap.size, 2, none⟩ = some (.int .i64 b) ∧ W.cell? ⟨w.heap.size, 3, none⟩ = some (.pointer r) ∧ W.cell? ⟨w.heap.size + 1, 0, none⟩ = some (.int .i64 c) ∧ W.cell? ⟨w.heap.size + 1, 1, none⟩ = some (.pointer s) ∧ W.cell? ⟨w.heap.size + 1, 2, none⟩ = some (.int .i64 d) ∧ W.cell? ⟨w.heap.size + 1, 3, none⟩ = some (.pointer t) ∧ W.cell? ⟨g6, 0, none⟩ = some (.int .i64 y6) ∧ W.cell? ⟨g6, 1, none⟩ = some (.pointer p6) ∧ W.cell? ⟨g7, 0, none⟩ = some (.int .i64 y7) ∧ W.cell? ⟨g7, 1, none⟩ = some (.pointer p7) ∧ Below wd.heap.size wd W) => h.2.2.2.2.2.2.2.2.2.2.2.2)
    have hs : Below wd.heap.size wd wd.drew := (Below.refl _ _).drew
    go_upto_region 3 with (fail)
    go_cut [8] (fun s8 wx => AllocRel1 wd T s8 wx)
    case first =>
      go_region_held3 (fun w' => w'.cell? ⟨w.heap.size, 0, none⟩ = some (.int .i64 a) ∧ w'.cell? ⟨w.heap.size, 1, none⟩ = some (.pointer p) ∧ w'.cell? ⟨w.heap.size, 2, none⟩ = some (.int .i64 b) ∧ w'.cell? ⟨w.heap.size, 3, none⟩ = some (.pointer r) ∧ w'.cell? ⟨w.heap.size + 1, 0, none⟩ = some (.int .i64 c) ∧ w'.cell? ⟨w.heap.size + 1, 1, none⟩ = some (.pointer s) ∧ w'.cell? ⟨w.heap.size + 1, 2, none⟩ = some (.int .i64 d) ∧ w'.cell? ⟨w.heap.size + 1, 3, none⟩ = some (.pointer t) ∧ w'.cell? ⟨g6, 0, none⟩ = some (.int .i64 y6) ∧ w'.cell? ⟨g6, 1, none⟩ = some (.pointer p6) ∧ w'.cell? ⟨g7, 0, none⟩ = some (.int .i64 y7) ∧ w'.cell? ⟨g7, 1, none⟩ = some (.pointer p7) ∧ Below wd.heap.size wd w') (first | (with_reducible exact HMK.out _ hs) | ((with_reducible refine HMK.out _ ?_); repeat (first | (with_reducible exact hs) | (with_reducible exact Below.refl _ _) | with_reducible apply Below.drew | with_reducible apply Below.alloc' | ((with_reducible refine Below.put1 ?_ ?_) <;> try omega))) | fail) (first | (go_at_call 121; (with_reducible refine (mulI_any (K := K) (HA.out.below (HPX.out _ (by assumption))) (HV7.out.below (HPX.out _ (by assumption))) hK HK.out.1.1 HP.out.2.2.2.1).mono ?_); rintro e w1 ⟨v1, rfl, hv1, hb1⟩; have hs := below_trans (HPX.out _ (by assumption)) hb1; have zs1 := hb1.size; (try simp at zs1); (try (have zl10 : wd.heap.size < w1.heap.size := by omega)); (try (have zk10 : wd.heap.size + 1 < w1.heap.size := by omega)); (try (have zm10 : wd.heap.size ≤ w1.heap.size := by omega)); obtain ⟨bc1, bf1⟩ := bcell hb1) | (go_at_call 121; (with_reducible refine (mulI_any (K := K) (HC.out.below (HPX.out _ (by assumption))) (HV6.out.below (HPX.out _ (by assumption))) hK HK.out.2.1.1 HP.out.2.2.2.2).mono ?_); rintro e w2 ⟨v2, rfl, hv2, hb2⟩; have hs := below_trans (HPX.out _ (by assumption)) hb2; have zs2 := hb2.size; (try simp at zs2); (try (have zl20 : wd.heap.size < w2.heap.size := by omega)); (try (have zk20 : wd.heap.size + 1 < w2.heap.size := by omega)); (try (have zm20 : wd.heap.size ≤ w2.heap.size := by omega)); (try (have zl21 : w1.heap.size < w2.heap.size := by omega)); (try (have zk21 : w1.heap.size + 1 < w2.heap.size := by omega)); (try (have zm21 : w1.heap.size ≤ w2.heap.size := by omega)); obtain ⟨bc2, bf2⟩ := bcell hb2; (first | (have hv1 := hv1.below hb2) | (have hv1 := (hv1.below (below_box _ _ _)).below hb2))) | (go_at_call 123; (with_reducible refine (add_at hv1 hv2 hK4 HT.out.2.1 HT.out.2.2.1 HE.out.2.2.1).mono ?_); rintro e w3 ⟨v3, rfl, hv3, hb3⟩; have hs := below_trans (HPX.out _ (by assumption)) hb3; have zs3 := hb3.size; (try simp at zs3); (try (have zl30 : wd.heap.size < w3.heap.size := by omega)); (try (have zk30 : wd.heap.size + 1 < w3.heap.size := by omega)); (try (have zm30 : wd.heap.size ≤ w3.heap.size := by omega)); (try (have zl31 : w1.heap.size < w3.heap.size := by omega)); (try (have zk31 : w1.heap.size + 1 < w3.heap.size := by omega)); (try (have zm31 : w1.heap.size ≤ w3.heap.size := by omega)); (try (have zl32 : w2.heap.size < w3.heap.size := by omega)); (try (have zk32 : w2.heap.size + 1 < w3.heap.size := by omega)); (try (have zm32 : w2.heap.size ≤ w3.heap.size := by omega)); obtain ⟨bc3, bf3⟩ := bcell hb3; obtain ⟨y8, p8, rfl⟩ := hv3.two) | (go_at_call 123; (with_reducible refine (add_at (hv1.below (below_box _ _ _)) (hv2.below (below_box _ _ _)) hK4 HT.out.2.1 HT.out.2.2.1 HE.out.2.2.1).mono ?_); rintro e w3 ⟨v3, rfl, hv3, hb3⟩; have hs := below_trans (HPX.out _ (by assumption)) hb3; have zs3 := hb3.size; (try simp at zs3); (try (have zl30 : wd.heap.size < w3.heap.size := by omega)); (try (have zk30 : wd.heap.size + 1 < w3.heap.size := by omega)); (try (have zm30 : wd.heap.size ≤ w3.heap.size := by omega)); (try (have zl31 : w1.heap.size < w3.heap.size := by omega)); (try (have zk31 : w1.heap.size + 1 < w3.heap.size := by omega)); (try (have zm31 : w1.heap.size ≤ w3.heap.size := by omega)); (try (have zl32 : w2.heap.size < w3.heap.size := by omega)); (try (have zk32 : w2.heap.size + 1 < w3.heap.size := by omega)); (try (have zm32 : w2.heap.size ≤ w3.heap.size := by omega)); obtain ⟨bc3, bf3⟩ := bcell hb3; obtain ⟨y8, p8, rfl⟩ := hv3.two) | fail)
      all_goals
        go_wp2_with fail
        go_meet
        case rel =>
          refine ⟨_, y8, p8, rfl, by omega, ?_, ?_, ?_⟩
          all_goals
            repeat' (first | (with_reducible exact hv3) | (with_reducible exact hs) | (with_reducible exact Below.refl _ _) | ((with_reducible refine K2.mk_new ?_); simp; done) | (with_reducible refine K2.st0 ?_) | ((with_reducible refine K2.o2 ?_ ?_ _ _) <;> try omega) | (with_reducible refine IntV.st0 ?_ ?_) | (with_reducible refine K2.below ?_ (below_box _ _ _)) | (with_reducible refine IntV.below ?_ (below_box _ _ _)) | (with_reducible refine K2.below ?_ hb3) | (with_reducible refine IntV.below ?_ hb3) | (with_reducible refine K2.below ?_ hb2) | (with_reducible refine IntV.below ?_ hb2) | (with_reducible refine K2.below ?_ hb1) | (with_reducible refine IntV.below ?_ hb1) | (with_reducible apply K2.drew') | with_reducible apply Below.drew | with_reducible apply Below.alloc' | ((with_reducible refine Below.put1 ?_ ?_) <;> try omega))
    case rest =>
      obtain ⟨g8, y8, p8, rfl, h8, j8, hv8, hbd⟩ := hcut
      clear HMK HPX hs ek00 ek01 ek02 ek03 ek10 ek11 ek12 ek13 ej60 ej61 ej70 ej71
      have k0 := k0.below hbd
      have k1 := k1.below hbd
      have k2 := k2.below hbd
      have j5 := j5.below hbd
      have j6 := j6.below hbd
      have j7 := j7.below hbd
      have HW3 := Lib.hid (HW2.out.trans (hbd.mono HW2.out.size))
      have HA := Lib.hid (HA.out.below hbd)
      have HB := Lib.hid (HB.out.below hbd)
      have HC := Lib.hid (HC.out.below hbd)
      have HD := Lib.hid (HD.out.below hbd)
      have HG := Lib.hid (HG.out.below hbd)
      have HV6 := Lib.hid (HV6.out.below hbd)
      have HV7 := Lib.hid (HV7.out.below hbd)
      have HTB := Lib.hid (tabs_below HTB.out hbd)
      have HV8 := Lib.hid hv8
      have hwd := hbd.size
      clear hbd hv8
      have ek00 := k0.c0
      have ek01 := k0.c1
      have ek02 := k0.c2
      have ek03 := k0.c3
      have ek10 := k1.c0
      have ek11 := k1.c1
      have ek12 := k1.c2
      have ek13 := k1.c3
      have ej50 := j5.c0
      have ej51 := j5.c1
      have ej80 := j8.c0
      have ej81 := j8.c1
      go_wp2_with fail
      refine (gcd_in HV8.out HG.out HTB.out hK3 HT.out.1 HP.out.1.2.2 HE.out.2.2.2).mono ?_
      rintro e wh ⟨vm, rfl, hvm, hbm⟩
      obtain ⟨y9, p9, rfl⟩ := hvm.two
      obtain ⟨wi, hwi, hbi, j9, hzi⟩ := box1 wh #[.int .i64 y9, .pointer p9] 63 (ip2 _ _)
      have j9 : K2 (wh.heap.size) y9 p9 wi := j9
      have hwe := hbm.size
      have hvm := hvm.below hbi
      have hbm := below_trans hbm hbi
      have k0 := k0.below hbm
      have k1 := k1.below hbm
      have k2 := k2.below hbm
      have j6 := j6.below hbm
      have j8 := j8.below hbm
      have hs := below_trans HW3.out hbm
      have HB := Lib.hid (HB.out.below hbm)
      have HD := Lib.hid (HD.out.below hbm)
      have HV6 := Lib.hid (HV6.out.below hbm)
      have HV8 := Lib.hid (HV8.out.below hbm)
      have HM := Lib.hid hvm
      clear hbm hbi hvm hzi HA HC HG HTB HW HW2 HW3 ek00 ek01 ek02 ek03 ek10 ek11 ek12 ek13 ej50 ej51 ej80 ej81 j5 j7
      have ek00 := k0.c0
      have ek01 := k0.c1
      have ek02 := k0.c2
      have ek03 := k0.c3
      have ek10 := k1.c0
      have ek11 := k1.c1
      have ek12 := k1.c2
      have ek13 := k1.c3
      have ej60 := j6.c0
      have ej61 := j6.c1
      have ej80 := j8.c0
      have ej81 := j8.c1
      have ej90 := j9.c0
      have ej91 := j9.c1
      go_wp2_with fail
      have k0 : K4 (w.heap.size) a p b r wi.drew := k0
      have k1 : K4 (w.heap.size + 1) c s d t wi.drew := k1
      have j6 : K2 (g6) y6 p6 wi.drew := j6
      have j8 : K2 (g8) y8 p8 wi.drew := j8
      have j9 : K2 (wh.heap.size) y9 p9 wi.drew := j9
      have k2 : K4 (w.heap.size + 2) 0 none 0 none wi.drew := k2
      have hs : Below w.heap.size w wi.drew := hs.drew
      have hc : Below wi.heap.size wi wi.drew := (Below.refl _ _).drew
      have n_k0 : w.heap.size ≠ w.heap.size + 2 := by omega
      have n_k1 : w.heap.size + 1 ≠ w.heap.size + 2 := by omega
      have n_j6 : g6 ≠ w.heap.size + 2 := by omega
      have n_j8 : g8 ≠ w.heap.size + 2 := by omega
      have n_j9 : wh.heap.size ≠ w.heap.size + 2 := by omega
      go_region_held3 (fun w' => w'.cell? ⟨w.heap.size, 0, none⟩ = some (.int .i64 a) ∧ w'.cell? ⟨w.heap.size, 1, none⟩ = some (.pointer p) ∧ w'.cell? ⟨w.heap.size, 2, none⟩ = some (.int .i64 b) ∧ w'.cell? ⟨w.heap.size, 3, none⟩ = some (.pointer r) ∧ w'.cell? ⟨w.heap.size + 1, 0, none⟩ = some (.int .i64 c) ∧ w'.cell? ⟨w.heap.size + 1, 1, none⟩ = some (.pointer s) ∧ w'.cell? ⟨w.heap.size + 1, 2, none⟩ = some (.int .i64 d) ∧ w'.cell? ⟨w.heap.size + 1, 3, none⟩ = some (.pointer t) ∧ w'.cell? ⟨g6, 0, none⟩ = some (.int .i64 y6) ∧ w'.cell? ⟨g6, 1, none⟩ = some (.pointer p6) ∧ w'.cell? ⟨g8, 0, none⟩ = some (.int .i64 y8) ∧ w'.cell? ⟨g8, 1, none⟩ = some (.pointer p8) ∧ w'.cell? ⟨wh.heap.size, 0, none⟩ = some (.int .i64 y9) ∧ w'.cell? ⟨wh.heap.size, 1, none⟩ = some (.pointer p9) ∧ Below w.heap.size w w') (first | (with_reducible exact ⟨k0.c0, k0.c1, k0.c2, k0.c3, k1.c0, k1.c1, k1.c2, k1.c3, j6.c0, j6.c1, j8.c0, j8.c1, j9.c0, j9.c1, hs⟩) | (with_reducible exact ⟨(k0.o4 n_k0 _ _ _ _).c0, (k0.o4 n_k0 _ _ _ _).c1, (k0.o4 n_k0 _ _ _ _).c2, (k0.o4 n_k0 _ _ _ _).c3, (k1.o4 n_k1 _ _ _ _).c0, (k1.o4 n_k1 _ _ _ _).c1, (k1.o4 n_k1 _ _ _ _).c2, (k1.o4 n_k1 _ _ _ _).c3, (j6.o4 n_j6 _ _ _ _).c0, (j6.o4 n_j6 _ _ _ _).c1, (j8.o4 n_j8 _ _ _ _).c0, (j8.o4 n_j8 _ _ _ _).c1, (j9.o4 n_j9 _ _ _ _).c0, (j9.o4 n_j9 _ _ _ _).c1, hs.st4 hg _ _ _ _⟩) | fail) (first | (go_at_call 115; (with_reducible refine (cancel_any (HV8.out.below hc) (HM.out.below hc) HT.out.2.2.2.1 hK3 HT.out.1 HT.out.2.2.2.2.1).mono ?_); rintro e w3 ⟨v3, rfl, hv3, hb3⟩; have k0 := k0.below hb3; have k1 := k1.below hb3; have j6 := j6.below hb3; have j8 := j8.below hb3; have j9 := j9.below hb3; have k2 := k2.below hb3; have hs := hs.trans (hb3.mono hs.size); have hc := hc.trans (hb3.mono hc.size)) | (go_at_call 115; (with_reducible refine (cancel_nat (HD.out.below hc) (HM.out.below hc) HT.out.2.2.2.1 hK3 HT.out.2.2.2.2.2.1 HT.out.2.2.2.2.1).mono ?_); rintro e w4 ⟨v4, rfl, hv4, hb4⟩; have k0 := k0.below hb4; have k1 := k1.below hb4; have j6 := j6.below hb4; have j8 := j8.below hb4; have j9 := j9.below hb4; have k2 := k2.below hb4; have hs := hs.trans (hb4.mono hs.size); have hc := hc.trans (hb4.mono hc.size); have hv3 := hv3.below hb4) | (go_at_call 121; (with_reducible refine (mul_nat (HV6.out.below hc) hv4 hK HP.out.2.1 HT.out.2.2.2.2.2.2).mono ?_); rintro e w5 ⟨v5, rfl, hv5, hb5⟩; have k0 := k0.below hb5; have k1 := k1.below hb5; have j6 := j6.below hb5; have j8 := j8.below hb5; have j9 := j9.below hb5; have k2 := k2.below hb5; have hs := hs.trans (hb5.mono hs.size); have hc := hc.trans (hb5.mono hc.size); have hv3 := hv3.below hb5; obtain ⟨y3, p3, rfl⟩ := hv3.two; obtain ⟨y5', p5', rfl⟩ := hv5.two; have c0 := k2.c0; have c1 := k2.c1; have c2 := k2.c2; have c3 := k2.c3; have f0 := k2.f 0; have f1 := k2.f 1; have f2 := k2.f 2; have f3 := k2.f 3) | fail)
      obtain ⟨W, hW⟩ : ∃ W, (((w5.setCell ⟨w.heap.size + 2, 0, none⟩ (.int .i64 y3)).setCell ⟨w.heap.size + 2, 1, none⟩ (.pointer p3)).setCell ⟨w.heap.size + 2, 2, none⟩ (.int .i64 y5')).setCell ⟨w.heap.size + 2, 3, none⟩ (.pointer p5') = W := ⟨_, rfl⟩
      rw [hW]
      obtain ⟨z0, z1, z2, z3, z4⟩ := ret_box4 (r := q1 + q2) k2 (by rw [HRA.out.1]; exact hv3) (by rw [HRA.out.2]; exact hv5) hs hg hW
      have HZ := Lib.hid z4
      clear hs c0 c1 c2 c3 f0 f1 f2 f3 hW z4 k0 k1 k2 j6 j8 j9 hc hb3 hb4 hb5 hv3 hv4 hv5
      go_wp2_with fail
      exact bodyPost_ret (v := .agg #[.int .i64 y3, .pointer p3, .int .i64 y5', .pointer p5']) (by simp [results, Tryz.results84, go_sem, z0, z1, z2, z3]) rfl HZ.out
end Go.Proofs.YtekghemhccfhkaaGreatDoor
namespace Go.Proofs.YtekghemhccfhkaaGreatDoor
open Go.RowKit Go.Big
def RiPost (s : ByteArray) (w : World) (e : Ending) (w' : World) : Prop :=
  ∃ (v : Value) (b : Bool) (n : Nat), e = .returned (.tuple #[v, .bool b]) ∧ Below w.heap.size w w' ∧ IntV w' v (n : Int) ∧ (b = true ∧ rdInt s.data.toList = some n ∨ b = false ∧ rdInt s.data.toList = none)
set_option maxRecDepth 100000 in
set_option maxHeartbeats 1000000 in
theorem ri_tail (s : ByteArray) (hl : s.size ≤ 608) (hc : 1 < s.size → s.data.toList.head? ≠ some 48) {e : Ending} {w w1 : World} (h : FdPost s w e w1) : RiPost s w e w1 := by
  obtain ⟨v, b, rfl, hb, hor⟩ := h
  have hsz : s.data.toList.length = s.size := (Lib.size_eq s).symm
  rcases hor with ⟨rfl, hd, h0, hv⟩ | ⟨rfl, hn, hv⟩
  · refine ⟨v, true, _, rfl, hb, hv, .inl ⟨rfl, ?_⟩⟩
    unfold rdInt
    rw [if_pos ⟨hd, fun e => (by rw [e] at hsz; simp at hsz; omega), fun h => hc (by omega)⟩]
  · refine ⟨v, false, 0, rfl, hb, hv, .inr ⟨rfl, ?_⟩⟩
    unfold rdInt
    rw [if_neg]
    rintro ⟨h1, h2, h3⟩
    refine hn ⟨h1, ?_⟩
    rcases Nat.eq_zero_or_pos s.size with h | h
    · exact absurd (List.length_eq_zero_iff.1 (hsz.trans h)) h2
    · exact h
theorem ri_lead (s : ByteArray) (h1 : 1 < s.size) (h : s.data.toList.head? = some 48) : rdInt s.data.toList = none := by
  have hsz : s.data.toList.length = s.size := (Lib.size_eq s).symm
  unfold rdInt
  rw [if_neg]
  rintro ⟨_, _, h3⟩
  exact h3 (by omega) h
theorem head_get (s : ByteArray) (h : 0 < s.size) : s.data.toList.head? = some s[0] := by
  have hsz : s.data.toList.length = s.size := (Lib.size_eq s).symm
  have hb : s[0] = s.data.toList[0]'(by omega) := by simp [ByteArray.getElem_eq_getElem_data]
  rw [hb, List.head?_eq_getElem?, List.getElem?_eq_getElem]
set_option maxRecDepth 100000 in
set_option maxHeartbeats 1000000 in
theorem readInteger_any (s : ByteArray) (hl : s.size ≤ 608) (w : World) : Calls Tryz.prog 97 #[.string s] w (RiPost s w) := by
  have HX := Lib.hid (Bx.new w (cs := #[.int .i64 0, .pointer none]) 63 (by simp [IP]))
  have HF := Lib.hid (fun w => fromDigits_any s hl w)
  by_cases h1 : 1 < s.size
  · have HH := Lib.hid (head_get s (by omega))
    obtain ⟨c, hc⟩ : ∃ c, s[0] = c := ⟨_, rfl⟩
    obtain ⟨d, hd⟩ : ∃ d : Nat, c.toNat = d := ⟨_, rfl⟩
    by_cases hz : d = 48
    · subst hz
      have HN := Lib.hid (ri_lead s h1 (by rw [HH.out, hc]; exact congrArg some (UInt8.toNat_inj.1 hd)))
      clear HF
      go_enter Tryz.func97, Tryz.ntmps97
      go_wp2_with fail
      refine bodyPost_ret (v := .tuple #[smInt 0, .bool false]) (by simp [results, Tryz.results97, go_sem, smInt]) rfl ⟨_, _, 0, rfl, below_box _ _ _, .inl ⟨⟨by omega, by omega⟩, rfl⟩, .inr ⟨rfl, HN.out⟩⟩
    · have HC := Lib.hid (show 1 < s.size → s.data.toList.head? ≠ some 48 from fun _ h => by rw [HH.out, hc] at h; simp at h; subst h; exact hz hd.symm)
      go_enter Tryz.func97, Tryz.ntmps97
      go_wp2_with fail
      refine (HF.out _).mono ?_
      intro e w1 h
      obtain ⟨v, b, n, rfl, hb, hv, hor⟩ := ri_tail s hl HC.out h
      obtain ⟨y, p, rfl⟩ := hv.two
      have hx1 := HX.out.below hb
      have HV := Lib.hid (hv.set2 (i := 0) (x := y) (p := p) hx1)
      have HB1 := Lib.hid (((below_trans (below_box _ _ _) hb).setCell (p := ⟨w.heap.size, 0, none⟩) (Nat.le_refl _) (.int .i64 y)).setCell (p := ⟨w.heap.size, 0 + 1, none⟩) (Nat.le_refl _) (.pointer p))
      have HOR := Lib.hid hor
      have c0 := hx1.cell 0
      have c1 := hx1.cell 1
      have f0 := hx1.frozen 0
      have f1 := hx1.frozen 1
      have HX2 := Lib.hid ((hx1.set 0 (IP.int y)).set 1 (IP.ptr p))
      clear hv hx1 h hb hor
      go_wp2_with fail
      refine bodyPost_ret (v := .tuple #[.agg #[.int .i64 y, .pointer p], .bool b]) (by
        have g0 := HX2.out.cell 0
        have g1 := HX2.out.cell 1
        simp [results, Tryz.results97, go_sem, g0, g1]) rfl ⟨_, _, n, rfl, HB1.out, HV.out, HOR.out⟩
  · have HC := Lib.hid (show 1 < s.size → s.data.toList.head? ≠ some 48 from fun h => absurd h h1)
    go_enter Tryz.func97, Tryz.ntmps97
    go_wp2_with fail
    refine (HF.out _).mono ?_
    intro e w1 h
    obtain ⟨v, b, n, rfl, hb, hv, hor⟩ := ri_tail s hl HC.out h
    obtain ⟨y, p, rfl⟩ := hv.two
    have hx1 := HX.out.below hb
    have HV := Lib.hid (hv.set2 (i := 0) (x := y) (p := p) hx1)
    have HB1 := Lib.hid (((below_trans (below_box _ _ _) hb).setCell (p := ⟨w.heap.size, 0, none⟩) (Nat.le_refl _) (.int .i64 y)).setCell (p := ⟨w.heap.size, 0 + 1, none⟩) (Nat.le_refl _) (.pointer p))
    have HOR := Lib.hid hor
    have c0 := hx1.cell 0
    have c1 := hx1.cell 1
    have f0 := hx1.frozen 0
    have f1 := hx1.frozen 1
    have HX2 := Lib.hid ((hx1.set 0 (IP.int y)).set 1 (IP.ptr p))
    clear hv hx1 h hb hor
    go_wp2_with fail
    refine bodyPost_ret (v := .tuple #[.agg #[.int .i64 y, .pointer p], .bool b]) (by
      have g0 := HX2.out.cell 0
      have g1 := HX2.out.cell 1
      simp [results, Tryz.results97, go_sem, g0, g1]) rfl ⟨_, _, n, rfl, HB1.out, HV.out, HOR.out⟩
end Go.Proofs.YtekghemhccfhkaaGreatDoor
namespace Go.Big
open Go Go.RowKit
theorem index_slash {l : List UInt8} : (slash l = none → Lib.indexByte l 47 = -1) ∧ (∀ a b, slash l = some (a, b) → Lib.indexByte l 47 = (a.length : Int)) := by
  induction l with
  | nil => exact ⟨fun _ => rfl, fun a b h => by simp [slash] at h⟩
  | cons x m ih =>
    rw [slash, Lib.indexByte]
    by_cases hx : x = 47
    · rw [if_pos hx, if_pos (by simp [hx])]
      exact ⟨fun h => (by cases h), fun a b h => by simp at h; rw [h.1]; rfl⟩
    · rw [if_neg hx, if_neg (by simp [hx])]
      constructor
      · intro h
        have h1 : slash m = none := (by cases hs : slash m with
          | none => rfl
          | some p => rw [hs] at h; simp at h)
        rw [ih.1 h1]; rfl
      · intro a b h
        cases hs : slash m with
        | none => rw [hs] at h; simp at h
        | some p =>
          rw [hs] at h; simp at h
          have := ih.2 p.1 p.2 (by rw [hs])
          rw [this, if_neg (by simp), ← h.1]
          simp
theorem unsign_cut (l : List UInt8) : Lib.trimPrefix l [45] = (unsign l).1 ∧ Lib.hasPrefix l [45] = (unsign l).2 := by
  cases l with
  | nil => exact ⟨rfl, rfl⟩
  | cons x m =>
    by_cases hx : x = 45
    · subst hx; exact ⟨rfl, rfl⟩
    · have hb : Lib.hasPrefix (x :: m) [45] = false := by
        have : ((45 : UInt8) == x) = false := by rw [beq_eq_false_iff_ne]; exact fun e => hx e.symm
        simp [Lib.hasPrefix, List.isPrefixOf, this]
      have hu : unsign (x :: m) = (x :: m, false) := by
        unfold unsign
        split
        · next h => simp at h; exact absurd h.1 hx
        · rfl
      unfold Lib.trimPrefix
      rw [hu, hb]; exact ⟨rfl, rfl⟩
theorem slash_len {l a b : List UInt8} (h : slash l = some (a, b)) : l.length = a.length + 1 + b.length := by
  rw [slash_eq h]; simp; omega
end Go.Big
namespace Go.Proofs.YtekghemhccfhkaaGreatDoor
open Go.RowKit Go.Big
def CutPost (s : ByteArray) (w : World) (e : Ending) (w' : World) : Prop :=
  ∃ (a b : ByteArray) (c : Bool), e = .returned (.tuple #[.string a, .string b, .bool c]) ∧ Below w.heap.size w w' ∧ (c = true ∧ slash s.data.toList = some (a.data.toList, b.data.toList) ∨ c = false ∧ a = s ∧ slash s.data.toList = none)
theorem cut_parts {s : ByteArray} {a b : List UInt8} {k : Nat} (h : slash s.data.toList = some (a, b)) (hk : a.length = k) : slash s.data.toList = some ((s.extract 0 k).data.toList, (s.extract (k + 1) s.size).data.toList) := by
  have hsz : s.data.toList.length = s.size := (Lib.size_eq s).symm
  rw [h]
  have e := slash_eq h
  have e1 : (s.extract 0 k).data.toList = a := by
    simp only [ByteArray.data_extract, Array.toList_extract, List.extract_eq_take_drop, e]
    rw [List.drop_zero, ← hk]; simp
  have e2 : (s.extract (k + 1) s.size).data.toList = b := by
    simp only [ByteArray.data_extract, Array.toList_extract, List.extract_eq_take_drop]
    rw [List.take_of_length_le (by rw [List.length_drop]; omega), e, ← hk]
    simp
  rw [e1, e2]
set_option maxRecDepth 100000 in
set_option maxHeartbeats 1000000 in
theorem cut1_any (s : ByteArray) (hl : s.size ≤ 1000000) (w : World) : Calls Tryz.prog 132 #[.string s, .string ⟨#[47]⟩] w (CutPost s w) := by
  have hsz : s.data.toList.length = s.size := (Lib.size_eq s).symm
  cases hs : slash s.data.toList with
  | none =>
    have HI := Lib.hid (fun w => Proofs.Tryz.stringslite_Index_one s 47 w)
    rw [index_slash.1 hs] at HI
    have HN := Lib.hid hs
    clear hs hsz
    go_enter Tryz.func132, Tryz.ntmps132
    go_wp2_with fail
    refine (HI.out _).mono ?_
    rintro e w1 ⟨rfl, rfl⟩
    go_wp2_with fail
    exact bodyPost_ret (v := .tuple #[.string s, .string ⟨#[]⟩, .bool false]) (by simp [results, Tryz.results132, go_sem]) rfl ⟨s, ⟨#[]⟩, false, rfl, Below.refl _ _, .inr ⟨rfl, rfl, HN.out⟩⟩
  | some p =>
    obtain ⟨a, b⟩ := p
    have HI := Lib.hid (fun w => Proofs.Tryz.stringslite_Index_one s 47 w)
    rw [index_slash.2 a b hs] at HI
    obtain ⟨k, hk⟩ : ∃ k, a.length = k := ⟨_, rfl⟩
    rw [hk] at HI
    have hlt : k < s.size := by have := slash_len hs; omega
    have HN := Lib.hid (And.intro hs hk)
    clear hs hsz hk
    go_enter Tryz.func132, Tryz.ntmps132
    go_wp2_with fail
    refine (HI.out _).mono ?_
    rintro e w1 ⟨rfl, rfl⟩
    go_wp2_with fail
    have e1 : (k : Int).toNat = k := by simp
    have e2 : ((k : Int) + 1).toNat = k + 1 := by omega
    go_quiet (fail)
    go_wp2_with fail
    exact bodyPost_ret (v := .tuple #[.string (s.extract 0 k), .string (s.extract (k + 1) s.size), .bool true]) (by simp [results, Tryz.results132, go_sem]) rfl ⟨_, _, true, rfl, below_drewN (Below.refl _ _) _, .inl ⟨rfl, cut_parts HN.out.1 HN.out.2⟩⟩
set_option maxRecDepth 100000 in
set_option maxHeartbeats 1000000 in
theorem cut_any (s : ByteArray) (hl : s.size ≤ 1000000) (w : World) : Calls Tryz.prog 96 #[.string s, .string ⟨#[47]⟩] w (CutPost s w) := by
  have HI := Lib.hid (fun w => cut1_any s hl w)
  go_enter Tryz.func96, Tryz.ntmps96
  go_wp2_with fail
  refine (HI.out _).mono ?_
  rintro e w1 ⟨a, b, c, rfl, hb, hor⟩
  have HB := Lib.hid (And.intro hb hor)
  clear hb hor
  go_wp2_with fail
  exact bodyPost_ret (v := .tuple #[.string a, .string b, .bool c]) (by simp [results, Tryz.results96, go_sem]) rfl ⟨a, b, c, rfl, HB.out⟩
end Go.Proofs.YtekghemhccfhkaaGreatDoor
namespace Go.Proofs.YtekghemhccfhkaaGreatDoor
open Go.RowKit Go.Big
def RdPost (s : ByteArray) (w : World) (e : Ending) (w' : World) : Prop :=
  ∃ x p y q b, e = .returned (.tuple #[.agg #[.int .i64 x, .pointer p, .int .i64 y, .pointer q], .bool b]) ∧ Below w.heap.size w w' ∧ (b = true ∧ (∃ r : Rat, rd s.data.toList = some (r.num, r.den) ∧ FracV w' (.agg #[.int .i64 x, .pointer p, .int .i64 y, .pointer q]) r) ∨ b = false ∧ rd s.data.toList = none)
theorem cutPrefix_at (s m : ByteArray) (neg : Bool) (hm : (unsign s.data.toList).1 = m.data.toList) (hn : (unsign s.data.toList).2 = neg) (w : World) :
    Calls Tryz.prog 63 #[.string s, .string ⟨#[45]⟩] w fun e w' => e = .returned (.tuple #[.string m, .bool neg]) ∧ w' = w := by
  have h := Proofs.Tryz.strings_CutPrefix s ⟨#[45]⟩ w
  have e1 := unsign_cut s.data.toList
  rw [show (⟨#[45]⟩ : ByteArray).data.toList = [45] from rfl, e1.1, e1.2, hm, hn] at h
  exact h
theorem unsign_len (l : List UInt8) : (unsign l).1.length ≤ l.length := by
  unfold unsign; split <;> simp
theorem rd_noslash {l m : List UInt8} {neg : Bool} (hm : (unsign l).1 = m) (hn : (unsign l).2 = neg) (h : slash m = none) :
    rd l = match rdInt m with | none => none | some n => if n = 0 ∧ l ≠ [48] then none else some (signed neg n, 1) := by
  unfold rd; rw [hm, hn, h]; rfl
theorem rd_slash {l m a b : List UInt8} {neg : Bool} (hm : (unsign l).1 = m) (hn : (unsign l).2 = neg) (h : slash m = some (a, b)) :
    rd l = match rdInt a, rdInt b with | some n, some d => if n = 0 ∨ d = 0 ∨ d = 1 ∨ Nat.gcd n d ≠ 1 then none else some (signed neg n, d) | _, _ => none := by
  unfold rd; rw [hm, hn, h]; rfl
def CT (m a b : ByteArray) (c : Bool) : Prop := c = true ∧ slash m.data.toList = some (a.data.toList, b.data.toList) ∨ c = false ∧ a = m ∧ slash m.data.toList = none
theorem rd_numfail {l : List UInt8} {m a b : ByteArray} {neg c : Bool} (hm : (unsign l).1 = m.data.toList) (hn : (unsign l).2 = neg) (h : CT m a b c) (ha : rdInt a.data.toList = none) : rd l = none := by
  rcases h with ⟨_, h⟩ | ⟨_, rfl, h⟩
  · rw [rd_slash hm hn h, ha]
  · rw [rd_noslash hm hn h, ha]
theorem rd_zero {l : List UInt8} {m a b : ByteArray} {neg c : Bool} (hm : (unsign l).1 = m.data.toList) (hn : (unsign l).2 = neg) (h : CT m a b c) (ha : rdInt a.data.toList = some 0) (h0 : l ≠ [48]) : rd l = none := by
  rcases h with ⟨_, h⟩ | ⟨_, rfl, h⟩
  · rw [rd_slash hm hn h, ha]
    cases rdInt b.data.toList with
    | none => rfl
    | some d => exact if_pos (.inl rfl)
  · rw [rd_noslash hm hn h, ha]; exact if_pos ⟨rfl, h0⟩
theorem ct_nz {l : List UInt8} {m a b : ByteArray} {n : Nat} (hm : (unsign l).1 = m.data.toList) (h : CT m a b true) (hp : n ≠ 0 ∨ l = [48]) : n ≠ 0 := by
  rcases hp with hp | rfl
  · exact hp
  · rcases h with ⟨_, h⟩ | ⟨h, _⟩
    · rw [← hm, show slash (unsign [48]).1 = none by decide] at h; cases h
    · cases h
theorem rd_whole {l : List UInt8} {m a b : ByteArray} {n : Nat} {neg : Bool} (hm : (unsign l).1 = m.data.toList) (hn : (unsign l).2 = neg) (h : CT m a b false) (ha : rdInt a.data.toList = some n) (hp : n ≠ 0 ∨ l = [48]) :
    rd l = some (((signed neg n : Int) : Rat).num, ((signed neg n : Int) : Rat).den) := by
  rcases h with ⟨h, _⟩ | ⟨_, rfl, h⟩
  · cases h
  · rw [rd_noslash hm hn h, ha, Rat.num_intCast, Rat.den_intCast]
    exact if_neg (fun hc => hp.elim (fun h => h hc.1) (fun h => hc.2 h))
theorem rd_frac {l : List UInt8} {m a b : ByteArray} {n : Nat} {neg : Bool} (hm : (unsign l).1 = m.data.toList) (hn : (unsign l).2 = neg) (h : CT m a b true) (ha : rdInt a.data.toList = some n) (h0 : n ≠ 0) :
    (rdInt b.data.toList = none → rd l = none) ∧ ∀ d, rdInt b.data.toList = some d → ((d = 0 ∨ d = 1 ∨ Nat.gcd n d ≠ 1) → rd l = none) ∧ (¬ (d = 0 ∨ d = 1 ∨ Nat.gcd n d ≠ 1) → ∃ q : Rat, rd l = some (q.num, q.den) ∧ q.num = signed neg n ∧ q.den = d) := by
  rcases h with ⟨_, h⟩ | ⟨h, _⟩
  · have e := rd_slash hm hn h
    rw [ha] at e
    refine ⟨fun hb => by rw [e, hb], fun d hb => ⟨fun hc => ?_, fun hc => ?_⟩⟩
    · rw [e, hb]; exact if_pos (.inr hc)
    · have e2 : rd l = some (signed neg n, d) := by rw [e, hb]; exact if_neg (fun hx => hx.elim h0 hc)
      obtain ⟨q, h1, h2, _⟩ := rd_some e2
      exact ⟨q, by rw [h1, h2]; exact e2, h1, h2⟩
  · cases h
theorem rd_bound {a : ByteArray} {n : Nat} (hl : a.size ≤ 608) (h : rdInt a.data.toList = some n) : n < B64 ^ 32 := by
  have h1 := rdInt_some h
  have h2 := dec_lt (dd_dig n)
  rw [dd_dec, ← h1, ← Lib.size_eq] at h2
  exact Nat.lt_of_lt_of_le h2 (Nat.le_trans (Nat.pow_le_pow_right (by decide) hl) (Nat.le_of_ble_eq_true (by kernel_rfl)))
theorem signed_natAbs (neg : Bool) (n : Nat) : (signed neg n).natAbs = n := by unfold signed; split <;> omega
set_option maxRecDepth 100000 in
set_option maxHeartbeats 4000000 in
theorem read_any (s : ByteArray) (hl : s.size ≤ 608) (w : World) (hT : Tabs w) : Calls Tryz.prog 55 #[.string s] w (RdPost s w) := by
  obtain ⟨m, hm⟩ : ∃ m : ByteArray, (unsign s.data.toList).1 = m.data.toList := ⟨⟨(unsign s.data.toList).1.toArray⟩, rfl⟩
  obtain ⟨neg, hn⟩ : ∃ neg, (unsign s.data.toList).2 = neg := ⟨_, rfl⟩
  have hml : m.size ≤ 608 := by
    have h1 := unsign_len s.data.toList
    have h2 : s.data.toList.length = s.size := (Lib.size_eq s).symm
    have h3 : m.data.toList.length = m.size := (Lib.size_eq m).symm
    rw [hm] at h1; omega
  have HP := Lib.hid (fun w => cutPrefix_at s m neg hm hn w)
  have HC := Lib.hid (fun w => cut_any m (by omega) w)
  have HS := Lib.hid (And.intro hm (And.intro hn hml))
  obtain ⟨w0, hw0, hs, k0, hz⟩ := box1 w #[.int .i64 0, .pointer none, .int .i64 0, .pointer none] 65 (ip4 _ _ _ _)
  have k0 : K4 w.heap.size 0 none 0 none w0 := k0
  clear hm hn hml hz
  have HT := Lib.hid (tabs_below hT hs)
  go_enter Tryz.func55, Tryz.ntmps55
  go_wp2_with fail
  refine (HP.out _).mono ?_
  rintro e w1 ⟨rfl, rfl⟩
  go_wp2_with fail
  refine (HC.out _).mono ?_
  rintro e w2 ⟨a, b, c, rfl, hb2, hor⟩
  have HCT := Lib.hid (show CT m a b c from hor)
  have hal : a.size ≤ 608 := by
    have h1 := HS.out.2.2
    have h3 : m.data.toList.length = m.size := (Lib.size_eq m).symm
    have h2 : a.data.toList.length = a.size := (Lib.size_eq a).symm
    rcases hor with ⟨_, h⟩ | ⟨_, rfl, _⟩
    · have := slash_len h; omega
    · exact h1
  have k0 := k0.below hb2
  have hs := below_trans hs hb2
  have HT := Lib.hid (tabs_below HT.out hb2)
  clear hor hb2
  have hbl : b.size ≤ 608 ∨ c = false := by
    have h1 := HS.out.2.2
    have h3 : m.data.toList.length = m.size := (Lib.size_eq m).symm
    have h2 : b.data.toList.length = b.size := (Lib.size_eq b).symm
    rcases HCT.out with ⟨_, h⟩ | ⟨h, _, _⟩
    · have := slash_len h; exact .inl (by omega)
    · exact .inr h
  have HBL := Lib.hid hbl
  clear hbl
  have HT0 := Lib.hid hT
  clear hT
  go_wp2_with fail
  refine (readInteger_any a hal _).mono ?_
  rintro e w3 ⟨v, ok, n, rfl, hb3, hv, hor⟩
  obtain ⟨y, p, rfl⟩ := hv.two
  obtain ⟨w4, hw4, hb4, j9, hz4⟩ := box1 w3 #[.int .i64 y, .pointer p] 63 (ip2 _ _)
  have j9 : K2 w3.heap.size y p w4 := j9
  have hlt := Bx.lt (K4.below k0 hb3)
  have hb5 := below_trans hb3 hb4
  have k0 := k0.below hb5
  have hs := below_trans hs hb5
  have HT := Lib.hid (tabs_below HT.out hb5)
  have HV := Lib.hid (hv.below hb4)
  have hlt9 : w3.heap.size < w4.heap.size := Bx.lt j9
  have HOR := Lib.hid hor
  clear hv hb3 hb4 hb5 hz4 hw0 hor
  go_upto_region 4 with (fail)
  go_cut [38] (fun s38 wx => ∃ b : Bool, s38 = .bool b ∧ Below w4.heap.size w4 wx ∧ (b = true ∧ rd s.data.toList = none ∨ b = false ∧ ok = true ∧ rdInt a.data.toList = some n ∧ (n ≠ 0 ∨ s.data.toList = [48])))
  case first =>
    cases ok with
    | true =>
      have hor : rdInt a.data.toList = some n := by
        rcases HOR.out with ⟨_, h⟩ | ⟨h, _⟩
        · exact h
        · cases h
      have HN := Lib.hid (And.intro hor (rd_bound hal hor))
      clear hor hal HOR
      have ej0 := j9.c0
      have ej1 := j9.c1
      by_cases hz : n = 0
      · subst hz
        go_wp2_with fail
        refine (sign_at HV.out (s := 0) rfl).mono ?_
        rintro e w5 ⟨rfl, hb5⟩
        clear ej0 ej1
        have HB5 := Lib.hid hb5
        clear hb5
        go_wp2_with fail
        go_meet
        case rel =>
          refine ⟨_, rfl, HB5.out, ?_⟩
          by_cases hs0 : s.data.toList = [48]
          · exact .inr ⟨by simp [Lib.toList_data, hs0], (by first | rfl | trivial), HN.out.1, .inr hs0⟩
          · exact .inl ⟨by simp [Lib.toList_data, hs0], rd_zero HS.out.1 HS.out.2.1 HCT.out HN.out.1 hs0⟩
      · have HSG := Lib.hid (show Int.sign (n : Int) = 1 from Int.sign_eq_one_of_pos (by omega))
        have HNZ := Lib.hid hz
        clear hz
        go_wp2_with fail
        refine (sign_at HV.out HSG.out).mono ?_
        rintro e w5 ⟨rfl, hb5⟩
        clear ej0 ej1
        have HB5 := Lib.hid hb5
        clear hb5
        go_wp2_with fail
        go_meet
        case rel => exact ⟨false, (by first | rfl | trivial), HB5.out, .inr ⟨rfl, (by first | rfl | trivial), HN.out.1, .inl HNZ.out⟩⟩
    | false =>
      have HN := Lib.hid (show rdInt a.data.toList = none by
        rcases HOR.out with ⟨h, _⟩ | ⟨_, h⟩
        · cases h
        · exact h)
      clear HOR hal
      go_wp2_with fail
      go_meet
      case rel => exact ⟨true, (by first | rfl | trivial), Below.refl _ _, .inl ⟨rfl, rd_numfail HS.out.1 HS.out.2.1 HCT.out HN.out⟩⟩
  case rest =>
    obtain ⟨bb, rfl, hbc, hor⟩ := hcut
    obtain ⟨wa, hwa⟩ : ∃ wa, wa = wc := ⟨_, rfl⟩
    subst hwa
    have k0 := k0.below hbc
    have j9 := j9.below hbc
    have hs := below_trans hs hbc
    have HV := Lib.hid (HV.out.below hbc)
    have HT := Lib.hid (tabs_below HT.out hbc)
    have hltc := Bx.lt j9
    clear hlt9 HOR hbc
    rcases hor with ⟨rfl, hno⟩ | ⟨rfl, rfl, hrd, hnz⟩
    · have HN := Lib.hid hno
      clear hno hal
      have c0 := k0.c0
      have c1 := k0.c1
      have c2 := k0.c2
      have c3 := k0.c3
      have f0 := k0.f 0
      have f1 := k0.f 1
      have f2 := k0.f 2
      have f3 := k0.f 3
      obtain ⟨WW, hWW⟩ : ∃ WW, (((wa.setCell ⟨w.heap.size, 0, none⟩ (.int .i64 0)).setCell ⟨w.heap.size, 1, none⟩ (.pointer none)).setCell ⟨w.heap.size, 2, none⟩ (.int .i64 0)).setCell ⟨w.heap.size, 3, none⟩ (.pointer none) = WW := ⟨_, rfl⟩
      obtain ⟨z0, z1, z2, z3, hbb⟩ := zero_box4 k0 hs (Nat.le_refl _) hWW
      have HF := Lib.hid (show RdPost s w (.returned (.tuple #[.agg #[.int .i64 0, .pointer none, .int .i64 0, .pointer none], .bool false])) WW from ⟨_, _, _, _, _, rfl, hbb, .inr ⟨rfl, HN.out⟩⟩)
      clear hs k0 hbb j9 hlt hltc
      go_wp2_with fail
      exact bodyPost_ret (v := .tuple #[.agg #[.int .i64 0, .pointer none, .int .i64 0, .pointer none], .bool false]) (by simp [results, Tryz.results55, go_sem, z0, z1, z2, z3]) rfl HF.out
    · have HN := Lib.hid (And.intro hrd (And.intro (rd_bound hal hrd) hnz))
      clear hrd hal hnz
      go_upto_if 40 with (fail)
      go_cut [9] (fun s9 wx => ∃ g9 y p, s9 = .pointer (some ⟨g9, 0, none⟩) ∧ w.heap.size < g9 ∧ K2 g9 y p wx ∧ IntV wx (.agg #[.int .i64 y, .pointer p]) (signed neg n) ∧ Below w.heap.size w wx ∧ K4 w.heap.size 0 none 0 none wx ∧ Tabs wx)
      case first =>
        have ej0 := j9.c0
        have ej1 := j9.c1
        have ef0 := j9.f 0
        have ef1 := j9.f 1
        cases neg with
        | false =>
          have HJ := Lib.hid j9
          have HKK := Lib.hid (And.intro hs k0)
          clear hs k0 j9
          go_wp2_with fail
          go_meet
          case rel => exact ⟨w3.heap.size, y, p, (by first | rfl | trivial), hlt, HJ.out, HV.out, HKK.out.1, HKK.out.2, HT.out⟩
        | true =>
          go_wp2_with fail
          refine (negI_any HV.out).mono ?_
          rintro e w6 ⟨v6, rfl, hv6, hb6⟩
          obtain ⟨y6, p6, rfl⟩ := hv6.two
          clear ej0 ej1 ef0 ef1
          have j6 := j9.below hb6
          have ej0 := j6.c0
          have ej1 := j6.c1
          have ef0 := j6.f 0
          have ef1 := j6.f 1
          have hs6 := below_trans hs hb6
          have k6 := k0.below hb6
          have hne : w.heap.size ≠ w3.heap.size := by omega
          have hle : w.heap.size ≤ w3.heap.size := by omega
          have HG := Lib.hid (show K2 w3.heap.size y6 p6 (Go.Big.st2 w6 w3.heap.size y6 p6) ∧ IntV (Go.Big.st2 w6 w3.heap.size y6 p6) (.agg #[.int .i64 y6, .pointer p6]) (-(n : Int)) ∧ Below w.heap.size w (Go.Big.st2 w6 w3.heap.size y6 p6) ∧ K4 w.heap.size 0 none 0 none (Go.Big.st2 w6 w3.heap.size y6 p6) from
            ⟨Bx.set (Bx.set j6 0 (IP.int y6)) 1 (IP.ptr p6), hv6.set2 (i := 0) j6, (hs6.setCell (p := ⟨w3.heap.size, 0, none⟩) hle (.int .i64 y6)).setCell (p := ⟨w3.heap.size, 1, none⟩) hle (.pointer p6), Bx.other (Bx.other k6 hne _ _) hne _ _⟩)
          clear hb6 hv6 j6 hs6 k6 hs k0 j9
          go_wp2_with fail
          go_meet
          case rel => exact ⟨w3.heap.size, y6, p6, (by first | rfl | trivial), hlt, HG.out.1, HG.out.2.1, HG.out.2.2.1, HG.out.2.2.2, tabs_below HT0.out HG.out.2.2.1⟩
      case rest =>
        clear hs k0 j9 hltc HV HT
        obtain ⟨g9, y9, p9, rfl, hlt9, i9, hv9, hs, k0, hT⟩ := hcut
        have HT := Lib.hid hT
        have HV9 := Lib.hid hv9
        clear hT hv9
        have ei0 := i9.c0
        have ei1 := i9.c1
        cases c with
        | false =>
          go_wp2_with fail
          refine (whole_any HV9.out).mono ?_
          rintro e w6 ⟨v6, rfl, hv6, hb6⟩
          obtain ⟨ya, pa, yb, pb, rfl, h1, h2⟩ := hv6
          have k0 := k0.below hb6
          have hs := below_trans hs hb6
          clear ei0 ei1 i9 hb6
          have c0 := k0.c0
          have c1 := k0.c1
          have c2 := k0.c2
          have c3 := k0.c3
          have f0 := k0.f 0
          have f1 := k0.f 1
          have f2 := k0.f 2
          have f3 := k0.f 3
          obtain ⟨WW, hWW⟩ : ∃ WW, (((w6.setCell ⟨w.heap.size, 0, none⟩ (.int .i64 ya)).setCell ⟨w.heap.size, 1, none⟩ (.pointer pa)).setCell ⟨w.heap.size, 2, none⟩ (.int .i64 yb)).setCell ⟨w.heap.size, 3, none⟩ (.pointer pb) = WW := ⟨_, rfl⟩
          obtain ⟨z0, z1, z2, z3, vv, hvv, hf, hbb⟩ := ret_box4 (r := ((signed neg n : Int) : Rat)) k0 (h1) (h2) hs (Nat.le_refl _) hWW
          cases hvv
          have HF := Lib.hid (show RdPost s w (.returned (.tuple #[.agg #[.int .i64 ya, .pointer pa, .int .i64 yb, .pointer pb], .bool true])) WW from ⟨_, _, _, _, _, rfl, hbb, .inl ⟨rfl, _, rd_whole HS.out.1 HS.out.2.1 HCT.out HN.out.1 HN.out.2.2, hf⟩⟩)
          clear hs k0 hbb hf h1 h2
          go_wp2_with fail
          exact bodyPost_ret (v := .tuple #[.agg #[.int .i64 ya, .pointer pa, .int .i64 yb, .pointer pb], .bool true]) (by simp [results, Tryz.results55, go_sem, z0, z1, z2, z3]) rfl HF.out
        | true =>
          go_wp2_with fail
          refine (readInteger_any b (HBL.out.resolve_right (fun h => by cases h)) _).mono ?_
          rintro e w7 ⟨v7, ok2, d, rfl, hb7, hv7, hor⟩
          obtain ⟨y7, p7, rfl⟩ := hv7.two
          obtain ⟨w8, hw8, hb8, j7, hz8⟩ := box1 w7 #[.int .i64 y7, .pointer p7] 63 (ip2 _ _)
          have j7 : K2 w7.heap.size y7 p7 w8 := j7
          have hb9 := below_trans hb7 hb8
          have hlt7 := Bx.lt (K2.below i9 hb7)
          have i9 := i9.below hb9
          have k0 := k0.below hb9
          have hs := below_trans hs hb9
          have HT := Lib.hid (tabs_below HT.out hb9)
          have HV9 := Lib.hid (HV9.out.below hb9)
          have HV7 := Lib.hid (hv7.below hb8)
          have HOR := Lib.hid hor
          clear ei0 ei1 hb7 hb8 hb9 hz8 hv7 hor
          have ei0 := i9.c0
          have ei1 := i9.c1
          have ej0 := j7.c0
          have ej1 := j7.c1
          go_upto_region 11 with (fail)
          go_cut [69] (fun s69 wx => ∃ bb : Bool, s69 = .bool bb ∧ Below w8.heap.size w8 wx ∧ (bb = true ∧ rd s.data.toList = none ∨ bb = false ∧ ∃ q : Rat, rd s.data.toList = some (q.num, q.den) ∧ q.num = signed neg n ∧ (q.den : Int) = d))
          case first =>
            clear hs k0
            have HR := Lib.hid (rd_frac HS.out.1 HS.out.2.1 HCT.out HN.out.1 (ct_nz HS.out.1 HCT.out HN.out.2.2))
            cases ok2 with
            | false =>
              have HNO := Lib.hid (show rdInt b.data.toList = none by
                rcases HOR.out with ⟨h, _⟩ | ⟨_, h⟩
                · cases h
                · exact h)
              clear HOR
              go_wp2_with fail
              go_meet
              case rel => exact ⟨true, (by first | rfl | trivial), Below.refl _ _, .inl ⟨(by first | rfl | trivial), HR.out.1 HNO.out⟩⟩
            | true =>
              have hor : rdInt b.data.toList = some d := by
                rcases HOR.out with ⟨_, h⟩ | ⟨h, _⟩
                · exact h
                · cases h
              have HD := Lib.hid (And.intro hor (rd_bound (HBL.out.resolve_right (fun h => by cases h)) hor))
              have HRD := Lib.hid (HR.out.2 d hor)
              clear hor HOR HR
              by_cases h0 : d = 0
              · subst h0
                go_wp2_with fail
                refine (sign_at HV7.out (s := 0) rfl).mono ?_
                rintro e wb ⟨rfl, hbb⟩
                have HB := Lib.hid hbb
                clear ei0 ei1 ej0 ej1 hbb i9 j7
                go_wp2_with fail
                go_meet
                case rel => exact ⟨true, (by first | rfl | trivial), HB.out, .inl ⟨(by first | rfl | trivial), HRD.out.1 (.inl (by first | rfl | trivial))⟩⟩
              · have HSG := Lib.hid (show Int.sign (d : Int) = 1 from Int.sign_eq_one_of_pos (by omega))
                have H0 := Lib.hid h0
                clear h0
                go_wp2_with fail
                refine (sign_at HV7.out HSG.out).mono ?_
                rintro e wb ⟨rfl, hbb⟩
                have i9 := i9.below hbb
                have j7 := j7.below hbb
                have HB := Lib.hid hbb
                have HV7 := Lib.hid (HV7.out.below hbb)
                have HV9 := Lib.hid (HV9.out.below hbb)
                have HT := Lib.hid (tabs_below HT.out hbb)
                clear ei0 ei1 ej0 ej1 hbb
                have ei0 := i9.c0
                have ei1 := i9.c1
                have ej0 := j7.c0
                have ej1 := j7.c1
                by_cases h1 : d = 1
                · subst h1
                  go_wp2_with fail
                  refine (isOne_at HV7.out (b := true) rfl).mono ?_
                  rintro e wd ⟨rfl, hbd⟩
                  have HB2 := Lib.hid (below_trans HB.out hbd)
                  clear ei0 ei1 ej0 ej1 hbd i9 j7
                  go_wp2_with fail
                  go_meet
                  case rel => exact ⟨true, (by first | rfl | trivial), HB2.out, .inl ⟨(by first | rfl | trivial), HRD.out.1 (.inr (.inl (by first | rfl | trivial)))⟩⟩
                · have H1 := Lib.hid h1
                  have HDO := Lib.hid (show decide ((d : Int) = 1) = false from decide_eq_false (by omega))
                  clear h1
                  go_wp2_with fail
                  refine (isOne_at HV7.out (b := false) HDO.out).mono ?_
                  rintro e wd ⟨rfl, hbd⟩
                  have i9 := i9.below hbd
                  have j7 := j7.below hbd
                  have HB2 := Lib.hid (below_trans HB.out hbd)
                  have HV7 := Lib.hid (HV7.out.below hbd)
                  have HV9 := Lib.hid (HV9.out.below hbd)
                  have HT := Lib.hid (tabs_below HT.out hbd)
                  clear ei0 ei1 ej0 ej1 hbd
                  have ei0 := i9.c0
                  have ei1 := i9.c1
                  have ej0 := j7.c0
                  have ej1 := j7.c1
                  obtain ⟨G, hG⟩ : ∃ G, Nat.gcd n d = G := ⟨_, rfl⟩
                  have HG := Lib.hid hG
                  have HGC := Lib.hid (gcd_in (K := 32) (G := G) HV9.out HV7.out HT.out (by decide) (by rw [signed_natAbs]; exact HN.out.2.1) HD.out.2 (by rw [signed_natAbs]; exact hG))
                  clear hG
                  go_wp2_with fail
                  refine HGC.out.mono ?_
                  rintro e wf ⟨vg, rfl, hvg, hbf⟩
                  obtain ⟨yg, pg, rfl⟩ := hvg.two
                  have HVG := Lib.hid hvg
                  have HB3 := Lib.hid (below_trans HB2.out hbf)
                  clear ei0 ei1 ej0 ej1 hbf hvg i9 j7
                  obtain ⟨o, ho⟩ : ∃ o, decide ((G : Int) = 1) = o := ⟨_, rfl⟩
                  have HO := Lib.hid ho
                  clear ho
                  go_wp2_with fail
                  refine (isOne_at HVG.out HO.out).mono ?_
                  rintro e wg ⟨rfl, hbg⟩
                  have HB4 := Lib.hid (below_trans HB3.out hbg)
                  clear hbg
                  cases o with
                  | true =>
                    go_wp2_with fail
                    go_meet
                    case rel =>
                      have e1 : G = 1 := by have := of_decide_eq_true HO.out; omega
                      obtain ⟨q, hq1, hq2, hq3⟩ := HRD.out.2 (by rintro (h | h | h); exact H0.out h; exact H1.out h; exact h (by rw [HG.out]; exact e1))
                      exact ⟨false, (by first | rfl | trivial), HB4.out, .inr ⟨(by first | rfl | trivial), q, hq1, hq2, by rw [hq3]⟩⟩
                  | false =>
                    go_wp2_with fail
                    go_meet
                    case rel =>
                      have e1 : Nat.gcd n d ≠ 1 := by have := of_decide_eq_false HO.out; rw [HG.out]; omega
                      exact ⟨true, (by first | rfl | trivial), HB4.out, .inl ⟨(by first | rfl | trivial), HRD.out.1 (.inr (.inr e1))⟩⟩
          case rest =>
            obtain ⟨bb, rfl, hbc, hor⟩ := hcut
            have k0 := k0.below hbc
            have i9 := i9.below hbc
            have j7 := j7.below hbc
            have hs := below_trans hs hbc
            have HV7 := Lib.hid (HV7.out.below hbc)
            have HV9 := Lib.hid (HV9.out.below hbc)
            clear ei0 ei1 ej0 ej1 hbc HOR
            rcases hor with ⟨rfl, hno⟩ | ⟨rfl, q, hq1, hq2, hq3⟩
            · have HNO := Lib.hid hno
              clear hno
              have c0 := k0.c0
              have c1 := k0.c1
              have c2 := k0.c2
              have c3 := k0.c3
              have f0 := k0.f 0
              have f1 := k0.f 1
              have f2 := k0.f 2
              have f3 := k0.f 3
              obtain ⟨WW, hWW⟩ : ∃ WW, (((wc.setCell ⟨w.heap.size, 0, none⟩ (.int .i64 0)).setCell ⟨w.heap.size, 1, none⟩ (.pointer none)).setCell ⟨w.heap.size, 2, none⟩ (.int .i64 0)).setCell ⟨w.heap.size, 3, none⟩ (.pointer none) = WW := ⟨_, rfl⟩
              obtain ⟨z0, z1, z2, z3, hbb⟩ := zero_box4 k0 hs (Nat.le_refl _) hWW
              have HF := Lib.hid (show RdPost s w (.returned (.tuple #[.agg #[.int .i64 0, .pointer none, .int .i64 0, .pointer none], .bool false])) WW from ⟨_, _, _, _, _, rfl, hbb, .inr ⟨rfl, HNO.out⟩⟩)
              clear hs k0 hbb i9 j7 hlt9 hlt7
              go_wp2_with fail
              exact bodyPost_ret (v := .tuple #[.agg #[.int .i64 0, .pointer none, .int .i64 0, .pointer none], .bool false]) (by simp [results, Tryz.results55, go_sem, z0, z1, z2, z3]) rfl HF.out
            · have HQ := Lib.hid (And.intro hq1 (And.intro hq2 hq3))
              clear hq1 hq2 hq3
              have ei0 := i9.c0
              have ei1 := i9.c1
              have ej0 := j7.c0
              have ej1 := j7.c1
              have c0 := k0.c0
              have c1 := k0.c1
              have c2 := k0.c2
              have c3 := k0.c3
              have f0 := k0.f 0
              have f1 := k0.f 1
              have f2 := k0.f 2
              have f3 := k0.f 3
              obtain ⟨WW, hWW⟩ : ∃ WW, (((wc.setCell ⟨w.heap.size, 0, none⟩ (.int .i64 y9)).setCell ⟨w.heap.size, 1, none⟩ (.pointer p9)).setCell ⟨w.heap.size, 2, none⟩ (.int .i64 y7)).setCell ⟨w.heap.size, 3, none⟩ (.pointer p7) = WW := ⟨_, rfl⟩
              obtain ⟨z0, z1, z2, z3, vv, hvv, hf, hbb⟩ := ret_box4 (r := q) k0 (by rw [HQ.out.2.1]; exact HV9.out) (by rw [HQ.out.2.2]; exact HV7.out) hs (Nat.le_refl _) hWW
              cases hvv
              have HF := Lib.hid (show RdPost s w (.returned (.tuple #[.agg #[.int .i64 y9, .pointer p9, .int .i64 y7, .pointer p7], .bool true])) WW from ⟨_, _, _, _, _, rfl, hbb, .inl ⟨rfl, _, HQ.out.1, hf⟩⟩)
              clear hs k0 hbb hf 
              go_wp2_with fail
              exact bodyPost_ret (v := .tuple #[.agg #[.int .i64 y9, .pointer p9, .int .i64 y7, .pointer p7], .bool true]) (by simp [results, Tryz.results55, go_sem, z0, z1, z2, z3]) rfl HF.out
end Go.Proofs.YtekghemhccfhkaaGreatDoor
namespace Go.Big
open Go Go.RowKit
/-- The value of a text, and the canonical text of a number, as Go strings. -/
noncomputable def qv (s : ByteArray) : Rat := qval s.data.toList
def rs (q : Rat) : ByteArray := ⟨(rtext q).toArray⟩
theorem qv_rd {s : ByteArray} {r : Rat} (h : rd s.data.toList = some (r.num, r.den)) : qv s = r := by
  have := qval_rd h
  exact Rat.ext this.1 this.2
theorem qv_none {s : ByteArray} (h : rd s.data.toList = none) : qv s = 0 := qval_none h
end Go.Big
namespace Go.Proofs.YtekghemhccfhkaaGreatDoor
open Go.RowKit Go.Big
set_option maxRecDepth 100000 in
set_option maxHeartbeats 4000000 in
theorem value_any (s : ByteArray) (hl : s.size ≤ 608) (w : World) (hT : Tabs w) : Calls Tryz.prog 76 #[.string s] w (RetF w (qv s)) := by
  obtain ⟨w0, hw0, hs, k0, hz⟩ := box1 w #[.int .i64 0, .pointer none, .int .i64 0, .pointer none] 65 (ip4 _ _ _ _)
  have k0 : K4 w.heap.size 0 none 0 none w0 := k0
  have HR := Lib.hid (read_any s hl w0 (tabs_below hT hs))
  clear hT hz
  go_enter Tryz.func76, Tryz.ntmps76
  go_wp2_with fail
  refine HR.out.mono ?_
  rintro e w1 ⟨x, p, y, q, b, rfl, hb1, hor⟩
  obtain ⟨w2, hw2, hb2, j3, hz2⟩ := box1 w1 #[.int .i64 x, .pointer p, .int .i64 y, .pointer q] 65 (ip4 _ _ _ _)
  have j3 : K4 w1.heap.size x p y q w2 := j3
  have hb3 := below_trans hb1 hb2
  have k0 := k0.below hb3
  have hs := below_trans hs hb3
  rcases hor with ⟨rfl, r, hrd, hv⟩ | ⟨rfl, hrd⟩
  · have HF := Lib.hid (And.intro (qv_rd hrd) (hv.below hb2))
    clear hb1 hb2 hb3 hz2 hv hrd HR
    have e0 := j3.c0
    have e1 := j3.c1
    have e2 := j3.c2
    have e3 := j3.c3
    have c0 := k0.c0
    have c1 := k0.c1
    have c2 := k0.c2
    have c3 := k0.c3
    have f0 := k0.f 0
    have f1 := k0.f 1
    have f2 := k0.f 2
    have f3 := k0.f 3
    obtain ⟨WW, hWW⟩ : ∃ WW, (((w2.setCell ⟨w.heap.size, 0, none⟩ (.int .i64 x)).setCell ⟨w.heap.size, 1, none⟩ (.pointer p)).setCell ⟨w.heap.size, 2, none⟩ (.int .i64 y)).setCell ⟨w.heap.size, 3, none⟩ (.pointer q) = WW := ⟨_, rfl⟩
    obtain ⟨x', p', y', q', e, h1, h2⟩ := HF.out.2
    cases e
    obtain ⟨z0, z1, z2, z3, z4⟩ := ret_box4 (r := r) k0 h1 h2 hs (Nat.le_refl _) hWW
    have HZ := Lib.hid z4
    clear hs k0 h1 h2 z4 j3
    go_wp2_with fail
    exact bodyPost_ret (v := .agg #[.int .i64 x, .pointer p, .int .i64 y, .pointer q]) (by simp [results, Tryz.results76, go_sem, z0, z1, z2, z3]) rfl (by rw [HF.out.1]; exact HZ.out)
  · have HN := Lib.hid (qv_none hrd)
    have HW := Lib.hid (whole_any (n := 0) (v := .agg #[.int .i64 0, .pointer none]) (w := w2) (.inl ⟨⟨by omega, by omega⟩, rfl⟩))
    clear hb1 hb2 hb3 hz2 hrd HR j3
    go_wp2_with fail
    refine HW.out.mono ?_
    rintro e w6 ⟨v6, rfl, hv6, hb6⟩
    obtain ⟨ya, pa, yb, pb, rfl, h1, h2⟩ := hv6
    have k0 := k0.below hb6
    have hs := below_trans hs hb6
    have c0 := k0.c0
    have c1 := k0.c1
    have c2 := k0.c2
    have c3 := k0.c3
    have f0 := k0.f 0
    have f1 := k0.f 1
    have f2 := k0.f 2
    have f3 := k0.f 3
    obtain ⟨WW, hWW⟩ : ∃ WW, (((w6.setCell ⟨w.heap.size, 0, none⟩ (.int .i64 ya)).setCell ⟨w.heap.size, 1, none⟩ (.pointer pa)).setCell ⟨w.heap.size, 2, none⟩ (.int .i64 yb)).setCell ⟨w.heap.size, 3, none⟩ (.pointer pb) = WW := ⟨_, rfl⟩
    obtain ⟨z0, z1, z2, z3, z4⟩ := ret_box4 (r := ((0 : Int) : Rat)) k0 h1 h2 hs (Nat.le_refl _) hWW
    have HZ := Lib.hid z4
    clear hs k0 h1 h2 z4 hb6 HW
    go_wp2_with fail
    exact bodyPost_ret (v := .agg #[.int .i64 ya, .pointer pa, .int .i64 yb, .pointer pb]) (by simp [results, Tryz.results76, go_sem, z0, z1, z2, z3]) rfl (by rw [HN.out]; exact HZ.out)
end Go.Proofs.YtekghemhccfhkaaGreatDoor
namespace Go.Proofs.YtekghemhccfhkaaGreatDoor
open Go.RowKit Go.Big
def RetQ (w : World) (q : Rat) (e : Ending) (w' : World) : Prop := e = .returned (.string (rs q)) ∧ Below w.heap.size w w'
theorem text_at {v : Value} {q : Rat} {w : World} (h : FracV w v q) (hT : TabsA w) (sq : Sz 31 q) : Calls Tryz.prog 68 #[v] w (RetQ w q) := textF_any h hT sq
set_option maxRecDepth 100000 in
set_option maxHeartbeats 1000000 in
theorem mulA {s t : ByteArray} {K : Nat} (hs : s.size ≤ 608) (ht : t.size ≤ 608) (hK : K < 100) (s1 : Sz K (qv s)) (s2 : Sz K (qv t)) (sr : Sz 31 (qv s * qv t)) {w : World} (hT : TabsA w) : Calls Tryz.prog 41 #[.string s, .string t] w (RetQ w (qv s * qv t)) := by
  have HL := Lib.hid (And.intro hs ht)
  have HK := Lib.hid hK
  have HZ := Lib.hid (And.intro s1 s2)
  have HR := Lib.hid sr
  have HT := Lib.hid hT
  clear hT hs ht hK s1 s2 sr
  go_enter Tryz.func41, Tryz.ntmps41
  go_wp2_with fail
  refine (value_any s HL.out.1 _ HT.out.1).mono ?_
  rintro e w1 ⟨v1, rfl, hv1, hb1⟩
  have HV1 := Lib.hid hv1
  have HT := Lib.hid (HT.out.below hb1)
  have HB := Lib.hid hb1
  clear hv1 hb1
  go_wp2_with fail
  refine (value_any t HL.out.2 _ HT.out.1).mono ?_
  rintro e w2 ⟨v2, rfl, hv2, hb2⟩
  have HV1 := Lib.hid (HV1.out.below hb2)
  have HV2 := Lib.hid hv2
  have HT := Lib.hid (HT.out.below hb2)
  have HB := Lib.hid (below_trans HB.out hb2)
  clear hv2 hb2
  go_wp2_with fail
  refine (mulF_any HV1.out HV2.out HT.out.1 HK.out HZ.out.1 HZ.out.2).mono ?_
  rintro e w3 ⟨v3, rfl, hv3, hb3⟩
  have HV1 := Lib.hid (HV1.out.below hb3)
  have HV2 := Lib.hid (HV2.out.below hb3)
  have HV3 := Lib.hid hv3
  have HT := Lib.hid (HT.out.below hb3)
  have HB := Lib.hid (below_trans HB.out hb3)
  clear hv3 hb3
  go_wp2_with fail
  refine (text_at HV3.out HT.out HR.out).mono ?_
  rintro e w4 ⟨rfl, hb4⟩
  have HV1 := Lib.hid (HV1.out.below hb4)
  have HV2 := Lib.hid (HV2.out.below hb4)
  have HV3 := Lib.hid (HV3.out.below hb4)
  have HT := Lib.hid (HT.out.below hb4)
  have HB := Lib.hid (below_trans HB.out hb4)
  clear hb4
  go_wp2_with fail
  go_ret
  exact ⟨rfl, HB.out⟩
set_option maxRecDepth 100000 in
set_option maxHeartbeats 1000000 in
theorem addA {s t : ByteArray} {K : Nat} (hs : s.size ≤ 608) (ht : t.size ≤ 608) (hK : K < 100) (s1 : Sz K (qv s)) (s2 : Sz K (qv t)) (sr : Sz 31 (qv s + qv t)) {w : World} (hT : TabsA w) : Calls Tryz.prog 37 #[.string s, .string t] w (RetQ w (qv s + qv t)) := by
  have HL := Lib.hid (And.intro hs ht)
  have HK := Lib.hid hK
  have HZ := Lib.hid (And.intro s1 s2)
  have HR := Lib.hid sr
  have HT := Lib.hid hT
  clear hT hs ht hK s1 s2 sr
  go_enter Tryz.func37, Tryz.ntmps37
  go_wp2_with fail
  refine (value_any s HL.out.1 _ HT.out.1).mono ?_
  rintro e w1 ⟨v1, rfl, hv1, hb1⟩
  have HV1 := Lib.hid hv1
  have HT := Lib.hid (HT.out.below hb1)
  have HB := Lib.hid hb1
  clear hv1 hb1
  go_wp2_with fail
  refine (value_any t HL.out.2 _ HT.out.1).mono ?_
  rintro e w2 ⟨v2, rfl, hv2, hb2⟩
  have HV1 := Lib.hid (HV1.out.below hb2)
  have HV2 := Lib.hid hv2
  have HT := Lib.hid (HT.out.below hb2)
  have HB := Lib.hid (below_trans HB.out hb2)
  clear hv2 hb2
  go_wp2_with fail
  refine (addF_any HV1.out HV2.out HT.out.1 HK.out HZ.out.1 HZ.out.2).mono ?_
  rintro e w3 ⟨v3, rfl, hv3, hb3⟩
  have HV1 := Lib.hid (HV1.out.below hb3)
  have HV2 := Lib.hid (HV2.out.below hb3)
  have HV3 := Lib.hid hv3
  have HT := Lib.hid (HT.out.below hb3)
  have HB := Lib.hid (below_trans HB.out hb3)
  clear hv3 hb3
  go_wp2_with fail
  refine (text_at HV3.out HT.out HR.out).mono ?_
  rintro e w4 ⟨rfl, hb4⟩
  have HV1 := Lib.hid (HV1.out.below hb4)
  have HV2 := Lib.hid (HV2.out.below hb4)
  have HV3 := Lib.hid (HV3.out.below hb4)
  have HT := Lib.hid (HT.out.below hb4)
  have HB := Lib.hid (below_trans HB.out hb4)
  clear hb4
  go_wp2_with fail
  go_ret
  exact ⟨rfl, HB.out⟩
set_option maxRecDepth 100000 in
set_option maxHeartbeats 1000000 in
theorem compareA {s t : ByteArray} {K : Nat} (hs : s.size ≤ 608) (ht : t.size ≤ 608) (hK : K < 100) (s1 : Sz K (qv s)) (s2 : Sz K (qv t)) {w : World} (hT : TabsA w) : Calls Tryz.prog 31 #[.string s, .string t] w (RetI w (cmpInt ((qv s).num * (qv t).den) ((qv t).num * (qv s).den))) := by
  have HL := Lib.hid (And.intro hs ht)
  have HK := Lib.hid hK
  have HZ := Lib.hid (And.intro s1 s2)
  have HT := Lib.hid hT
  clear hT hs ht hK s1 s2
  go_enter Tryz.func31, Tryz.ntmps31
  go_wp2_with fail
  refine (value_any s HL.out.1 _ HT.out.1).mono ?_
  rintro e w1 ⟨v1, rfl, hv1, hb1⟩
  have HV1 := Lib.hid hv1
  have HT := Lib.hid (HT.out.below hb1)
  have HB := Lib.hid hb1
  clear hv1 hb1
  go_wp2_with fail
  refine (value_any t HL.out.2 _ HT.out.1).mono ?_
  rintro e w2 ⟨v2, rfl, hv2, hb2⟩
  have HV1 := Lib.hid (HV1.out.below hb2)
  have HV2 := Lib.hid hv2
  have HT := Lib.hid (HT.out.below hb2)
  have HB := Lib.hid (below_trans HB.out hb2)
  clear hv2 hb2
  go_wp2_with fail
  refine (compareF_any HV1.out HV2.out HK.out HZ.out.1 HZ.out.2).mono ?_
  rintro e w3 ⟨rfl, hb3⟩
  have HV1 := Lib.hid (HV1.out.below hb3)
  have HV2 := Lib.hid (HV2.out.below hb3)
  have HT := Lib.hid (HT.out.below hb3)
  have HB := Lib.hid (below_trans HB.out hb3)
  clear hb3
  go_wp2_with fail
  go_ret
  exact ⟨rfl, HB.out⟩
end Go.Proofs.YtekghemhccfhkaaGreatDoor
namespace Go.Big
open Go Go.RowKit
end Go.Big
namespace Go.Proofs.YtekghemhccfhkaaGreatDoor
open Go.RowKit Go.Big
theorem _root_.Go.Proofs.YtekghemhccfhkaaGreatDoor.TabsA.tabs {w : World} (h : TabsA w) : Tabs w := h.1
theorem FracV.mk4 {w : World} {a b : Int} {p r : Option Addr} {q : Rat} (h1 : IntV w (.agg #[.int .i64 a, .pointer p]) q.num) (h2 : IntV w (.agg #[.int .i64 b, .pointer r]) (q.den : Int)) : FracV w (.agg #[.int .i64 a, .pointer p, .int .i64 b, .pointer r]) q := ⟨_, _, _, _, rfl, h1, h2⟩
def DivPost (w : World) (a b : Rat) (e : Ending) (w' : World) : Prop := Below w.heap.size w w' ∧ (b = 0 ∧ e = .returned (.tuple #[.string ⟨#[]⟩, .bool false]) ∨ b ≠ 0 ∧ e = .returned (.tuple #[.string (rs (a * b⁻¹)), .bool true]))
set_option maxRecDepth 100000 in
set_option maxHeartbeats 4000000 in
theorem divA {s t : ByteArray} {K : Nat} (hs : s.size ≤ 608) (ht : t.size ≤ 608) (hK : K < 100) (s1 : Sz K (qv s)) (s2 : Sz K (qv t)) (sr : Sz 31 (qv s * (qv t)⁻¹)) {w : World} (hT : TabsA w) : Calls Tryz.prog 35 #[.string s, .string t] w (DivPost w (qv s) (qv t)) := by
  have HL := Lib.hid (And.intro hs ht)
  have HT := Lib.hid hT
  have HK := Lib.hid hK
  have HZ := Lib.hid (And.intro s1 (And.intro s2 sr))
  clear hs ht hT hK s1 s2 sr
  go_enter Tryz.func35, Tryz.ntmps35
  go_wp2_with fail
  refine (value_any t HL.out.2 _ HT.out.1).mono ?_
  rintro e w1 ⟨v1, rfl, ⟨a, p, b, r, rfl, h1, h2⟩, hb1⟩
  obtain ⟨w0, hw0, hb0, k1, hz0⟩ := box1 w1 #[.int .i64 a, .pointer p, .int .i64 b, .pointer r] 65 (ip4 _ _ _ _)
  have k1 : K4 w1.heap.size a p b r w0 := k1
  have hs := below_trans hb1 hb0
  have HT := Lib.hid (HT.out.below hs)
  have HA := Lib.hid (h1.below hb0)
  have HD := Lib.hid (h2.below hb0)
  clear h1 h2 hb1 hz0
  have ek10 := k1.c0
  have ek11 := k1.c1
  have ek12 := k1.c2
  have ek13 := k1.c3
  obtain ⟨d, hd⟩ : ∃ d, Int.sign (qv t).num = d := ⟨_, rfl⟩
  have HDD := Lib.hid hd
  clear hd
  go_wp2_with fail
  refine (sign_at HA.out HDD.out).mono ?_
  rintro e w2 ⟨rfl, hb2⟩
  have k1 := k1.below hb2
  have hs := below_trans hs hb2
  have HT := Lib.hid (HT.out.below hb2)
  have HA := Lib.hid (HA.out.below hb2)
  have HD := Lib.hid (HD.out.below hb2)
  clear ek10 ek11 ek12 ek13 hb2
  by_cases h0 : d = 0
  · subst h0
    have HF := Lib.hid hs
    clear hs k1
    go_wp2_with fail
    exact bodyPost_ret (v := .tuple #[.string ⟨#[]⟩, .bool false]) (by simp [results, Tryz.results35, go_sem]) rfl ⟨HF.out, .inl ⟨Rat.num_eq_zero.1 (Int.sign_eq_zero_iff_zero.1 HDD.out), rfl⟩⟩
  · have HQ := Lib.hid (show qv t ≠ 0 from fun h => h0 (by rw [← HDD.out, h]; rfl))
    have hz : (d == 0) = false := by rw [beq_eq_false_iff_ne]; exact h0
    have ek10 := k1.c0
    have ek11 := k1.c1
    have ek12 := k1.c2
    have ek13 := k1.c3
    go_wp2_with fail
    have k1 : K4 (w1.heap.size) a p b r w2.drew := k1
    have hc : Below w2.heap.size w2 w2.drew := (Below.refl _ _).drew
    have hs : Below w.heap.size w w2.drew := hs.drew
    go_region_held3 (fun w' => w'.cell? ⟨w1.heap.size, 0, none⟩ = some (.int .i64 a) ∧ w'.cell? ⟨w1.heap.size, 1, none⟩ = some (.pointer p) ∧ w'.cell? ⟨w1.heap.size, 2, none⟩ = some (.int .i64 b) ∧ w'.cell? ⟨w1.heap.size, 3, none⟩ = some (.pointer r) ∧ Below w.heap.size w w') (first | (with_reducible exact ⟨k1.c0, k1.c1, k1.c2, k1.c3, hs⟩) | fail) (first | (go_at_call 76; (with_reducible refine (value_any s HL.out.1 _ (HT.out.below hc).tabs).mono ?_); rintro e w3 ⟨v3, rfl, hv3, hb3⟩; have k1 := k1.below hb3; have hs := hs.trans (hb3.mono hs.size); have hc := hc.trans (hb3.mono hc.size)) | (go_at_call 82; (with_reducible refine (inverse_any (FracV.mk4 (HA.out.below hc) (HD.out.below hc)) HQ.out).mono ?_); rintro e w4 ⟨v4, rfl, hv4, hb4⟩; have k1 := k1.below hb4; have hs := hs.trans (hb4.mono hs.size); have hc := hc.trans (hb4.mono hc.size); have hv3 := hv3.below hb4) | (go_at_call 81; (with_reducible refine (mulF_any hv3 hv4 (HT.out.below hc).tabs HK.out HZ.out.1 (HZ.out.2.1.inv HQ.out)).mono ?_); rintro e w5 ⟨v5, rfl, hv5, hb5⟩; have k1 := k1.below hb5; have hs := hs.trans (hb5.mono hs.size); have hc := hc.trans (hb5.mono hc.size)) | (go_at_call 68; (with_reducible refine (text_at hv5 (HT.out.below hc) HZ.out.2.2).mono ?_); rintro e w6 ⟨rfl, hb6⟩; have k1 := k1.below hb6; have hs := hs.trans (hb6.mono hs.size); have hc := hc.trans (hb6.mono hc.size)) | fail)
    have HF := Lib.hid hs
    clear k1 hs hb3 hb4 hb5 hb6 hv3 hv4 hv5 hc
    go_wp2_with fail
    exact bodyPost_ret (v := .tuple #[.string (rs (qv s * (qv t)⁻¹)), .bool true]) (by simp [results, Tryz.results35, go_sem]) rfl ⟨HF.out, .inr ⟨HQ.out, rfl⟩⟩
end Go.Proofs.YtekghemhccfhkaaGreatDoor
namespace Go.Big
open Go Go.RowKit
def FdOk (l : List UInt8) : Prop := Dig l ∧ l ≠ []
def IxOk (s : ByteArray) (i : Int) : Prop := ∀ w : World, Calls Go.Proofs.Tryz.prog 109 #[.string s, .string ⟨#[47, 46]⟩] w fun e w' => e = .returned (.int .i64 i) ∧ Below w.heap.size w w'
end Go.Big
namespace Go.Proofs.YtekghemhccfhkaaGreatDoor
open Go.RowKit Go.Big
def PuPost (R : Nat → Nat → Prop) (w : World) (e : Ending) (w' : World) : Prop :=
  ∃ x p y q b, e = .returned (.tuple #[.agg #[.int .i64 x, .pointer p], .agg #[.int .i64 y, .pointer q], .bool b]) ∧ Below w.heap.size w w' ∧
    (b = true ∧ (∃ n d : Nat, R n d ∧ IntV w' (.agg #[.int .i64 x, .pointer p]) (n : Int) ∧ IntV w' (.agg #[.int .i64 y, .pointer q]) (d : Int)) ∨ b = false ∧ ∀ n d, ¬ R n d)
def SlashR (a b : List UInt8) (n d : Nat) : Prop := FdOk a ∧ FdOk b ∧ n = dec a ∧ d = dec b
theorem fd_shape {s : ByteArray} {w : World} {v : Value} {o : Bool} (h : o = true ∧ Dig s.data.toList ∧ 0 < s.size ∧ IntV w v (dec s.data.toList) ∨ o = false ∧ ¬ (Dig s.data.toList ∧ 0 < s.size) ∧ IntV w v 0) :
    ∃ x p, v = .agg #[.int .i64 x, .pointer p] ∧ (o = true ∧ FdOk s.data.toList ∧ IntV w (.agg #[.int .i64 x, .pointer p]) (dec s.data.toList) ∨ o = false ∧ ¬ FdOk s.data.toList) := by
  have hsz : s.data.toList.length = s.size := (Lib.size_eq s).symm
  rcases h with ⟨h1, h2, h3, h4⟩ | ⟨h1, h2, h4⟩
  · obtain ⟨x, p, rfl⟩ := h4.two
    exact ⟨x, p, rfl, .inl ⟨h1, ⟨h2, fun e => by rw [e] at hsz; simp at hsz; omega⟩, h4⟩⟩
  · obtain ⟨x, p, rfl⟩ := h4.two
    refine ⟨x, p, rfl, .inr ⟨h1, fun h => h2 ⟨h.1, ?_⟩⟩⟩
    rcases Nat.eq_zero_or_pos s.size with h0 | h0
    · exact absurd (List.length_eq_zero_iff.1 (hsz.trans h0)) h.2
    · exact h0
set_option maxRecDepth 100000 in
set_option maxHeartbeats 4000000 in
theorem parseUnsigned_slash {s : ByteArray} {i : Nat} (hl : s.size ≤ 608) (hi : i < s.size) (hb : s[i] = 47) (hx : IxOk s i) (hfa : FdOk (s.extract 0 i).data.toList) (w : World) : Calls Tryz.prog 64 #[.string s] w (PuPost (SlashR (s.extract 0 i).data.toList (s.extract (i + 1) s.size).data.toList) w) := by
  obtain ⟨a, ha⟩ : ∃ a, s.extract 0 i = a := ⟨_, rfl⟩
  obtain ⟨b, hbb⟩ : ∃ b, s.extract (i + 1) s.size = b := ⟨_, rfl⟩
  have hal : a.size ≤ 608 := by rw [← ha, ByteArray.size_extract]; omega
  have hbl : b.size ≤ 608 := by rw [← hbb, ByteArray.size_extract]; omega
  rw [ha] at hfa
  rw [ha, hbb]
  have HFA := Lib.hid hfa
  clear hfa
  obtain ⟨w0, hw0, hs, k0, k1, hz⟩ := boxes2 w #[.int .i64 0, .pointer none] 63 #[.int .i64 0, .pointer none] 63 (ip2 _ _) (ip2 _ _)
  have k0 : K2 w.heap.size 0 none w0 := k0
  have k1 : K2 (w.heap.size + 1) 0 none w0 := k1
  have HX := Lib.hid hx
  have hc : ((s[i].toNat : Nat) : Int) = 47 := by rw [hb]; rfl
  have e1 : ((i : Int)).toNat = i := by simp
  have e2 : ((i : Int) + 1).toNat = i + 1 := by omega
  clear hx hz
  go_enter Tryz.func64, Tryz.ntmps64
  go_wp2_with fail
  refine (HX.out _).mono ?_
  rintro e w1 ⟨rfl, hb1⟩
  have k0 := k0.below hb1
  have k1 := k1.below hb1
  have hs := below_trans hs hb1
  clear hb1
  go_wp2_with fail
  refine (fromDigits_any a hal _).mono ?_
  rintro e w2 ⟨v2, o2, rfl, hb2, hor2⟩
  have hv2 : ∃ x p, v2 = .agg #[.int .i64 x, .pointer p] ∧ (o2 = true ∧ FdOk a.data.toList ∧ IntV w2 (.agg #[.int .i64 x, .pointer p]) (dec a.data.toList) ∨ o2 = false ∧ ¬ FdOk a.data.toList) := fd_shape hor2
  obtain ⟨x, p, rfl, hq2⟩ := hv2
  obtain ⟨w3, hw3, hb3, j8, hz3⟩ := box1 w2 #[.int .i64 x, .pointer p] 63 (ip2 _ _)
  have j8 : K2 w2.heap.size x p w3 := j8
  have hlt8 := Bx.lt (K2.below k1 hb2)
  have hb23 := below_trans hb2 hb3
  have k0 := k0.below hb23
  have k1 := k1.below hb23
  have hs := below_trans hs hb23
  have HO2 := Lib.hid (hq2.imp_left (fun h => And.intro h.1 (And.intro h.2.1 (h.2.2.below hb3))))
  clear hb2 hb3 hb23 hz3 hor2 hq2 hc
  go_wp2_with fail
  refine (fromDigits_any b hbl _).mono ?_
  rintro e w4 ⟨v4, o4, rfl, hb4, hor4⟩
  obtain ⟨y, q, rfl, hq4⟩ := fd_shape hor4
  obtain ⟨w5, hw5, hb5, j10, hz5⟩ := box1 w4 #[.int .i64 y, .pointer q] 63 (ip2 _ _)
  have j10 : K2 w4.heap.size y q w5 := j10
  have hlt10 := Bx.lt (K2.below j8 hb4)
  have hb45 := below_trans hb4 hb5
  have k0 := k0.below hb45
  have k1 := k1.below hb45
  have j8 := j8.below hb45
  have hs := below_trans hs hb45
  have HO2 := Lib.hid (HO2.out.imp_left (fun h => And.intro h.1 (And.intro h.2.1 (h.2.2.below hb45))))
  have HO4 := Lib.hid (hq4.imp_left (fun h => And.intro h.1 (And.intro h.2.1 (h.2.2.below hb5))))
  clear hb4 hb5 hb45 hz5 hor4 hq4
  have c0 := k0.c0
  have c1 := k0.c1
  have d0 := k1.c0
  have d1 := k1.c1
  have f0 := k0.f 0
  have f1 := k0.f 1
  have g0 := k1.f 0
  have g1 := k1.f 1
  have m0 := j8.c0
  have m1 := j8.c1
  have n0 := j10.c0
  have n1 := j10.c1
  have hlt4 : w2.heap.size < w4.heap.size := hlt10
  have ho : o2 = true := by
    rcases HO2.out with ⟨h, _⟩ | ⟨_, h⟩
    · exact h
    · exact absurd HFA.out h
  subst ho
  obtain ⟨WW, hWW⟩ : ∃ WW, (((w5.setCell ⟨w.heap.size, 0, none⟩ (.int .i64 x)).setCell ⟨w.heap.size, 1, none⟩ (.pointer p)).setCell ⟨w.heap.size + 1, 0, none⟩ (.int .i64 y)).setCell ⟨w.heap.size + 1, 1, none⟩ (.pointer q) = WW := ⟨_, rfl⟩
  have hne : w.heap.size + 1 ≠ w.heap.size := by omega
  have k1' : K2 (w.heap.size + 1) 0 none (Go.Big.st2 w5 w.heap.size x p) := Bx.other (Bx.other k1 hne _ _) hne _ _
  have k0' : K2 w.heap.size x p (Go.Big.st2 w5 w.heap.size x p) := Bx.set (Bx.set k0 0 (IP.int x)) 1 (IP.ptr p)
  have k0'' : K2 w.heap.size x p WW := by rw [← hWW]; exact Bx.other (Bx.other k0' hne.symm _ _) hne.symm _ _
  have k1'' : K2 (w.heap.size + 1) y q WW := by rw [← hWW]; exact Bx.set (Bx.set k1' 0 (IP.int y)) 1 (IP.ptr q)
  have z0 := k0''.c0
  have z1 := k0''.c1
  have z2 := k1''.c0
  have z3 := k1''.c1
  have hsW : Below w.heap.size w WW := by rw [← hWW]; exact (((hs.setCell (p := ⟨w.heap.size, 0, none⟩) (Nat.le_refl _) (.int .i64 x)).setCell (p := ⟨w.heap.size, 1, none⟩) (Nat.le_refl _) (.pointer p)).setCell (p := ⟨w.heap.size + 1, 0, none⟩) (Nat.le_succ _) (.int .i64 y)).setCell (p := ⟨w.heap.size + 1, 1, none⟩) (Nat.le_succ _) (.pointer q)
  have hmv : ∀ v n, IntV w5 v n → IntV WW.drew v n := fun v n h => by
    rw [← hWW]
    exact ((h.set2 (i := 0) (x := x) (p := p) k0).set2 (i := 0) (x := y) (p := q) k1').drewN 1
  have HFIN := Lib.hid (show PuPost (SlashR a.data.toList b.data.toList) w (.returned (.tuple #[.agg #[.int .i64 x, .pointer p], .agg #[.int .i64 y, .pointer q], .bool o4])) WW.drew from by
    refine ⟨x, p, y, q, o4, rfl, hsW.drew, ?_⟩
    rcases HO2.out with ⟨_, h2, h3⟩ | ⟨h, _⟩
    · rcases HO4.out with ⟨h4, h5, h6⟩ | ⟨h4, h5⟩
      · exact .inl ⟨h4, _, _, ⟨h2, h5, rfl, rfl⟩, hmv _ _ h3, hmv _ _ h6⟩
      · exact .inr ⟨h4, fun n d h => h5 h.2.1⟩
    · cases h)
  clear k0 k1 k0' k1' k0'' k1'' hsW hmv j8 j10 hs
  go_wp2_with fail
  go_region_with (fail)
  all_goals
    go_wp2_with fail
    exact bodyPost_ret (v := .tuple #[.agg #[.int .i64 x, .pointer p], .agg #[.int .i64 y, .pointer q], .bool o4]) (by simp [results, Tryz.results64, go_sem, z0, z1, z2, z3]) rfl HFIN.out
end Go.Proofs.YtekghemhccfhkaaGreatDoor
