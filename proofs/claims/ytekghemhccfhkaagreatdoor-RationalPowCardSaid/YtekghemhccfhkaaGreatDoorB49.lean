/-
  Walks of the program's functions: PowA, LawPow.
-/
import Derived.Test.YtekghemhccfhkaaGreatDoorB32
import Derived.Test.YtekghemhccfhkaaGreatDoorB38
import Derived.Test.YtekghemhccfhkaaGreatDoorB48
import Derived.Test.YtekghemhccfhkaaGreatDoorB33
import Derived.Test.YtekghemhccfhkaaGreatDoorB21
import Derived.Test.YtekghemhccfhkaaGreatDoorB34
namespace Go.Proofs.YtekghemhccfhkaaGreatDoor
open Go.RowKit Go.Big
theorem powFC {v : Value} {q P : Rat} {t : Nat} {x : Int} {w : World} (h : FracV w v q) (ht : t ≤ 1000) (h1 : q.num.natAbs ^ t < B64 ^ 62) (h2 : q.den ^ t < B64 ^ 62) (hP : q ^ t = P) (hx : x = (t : Int)) : Calls Tryz.prog 85 #[v, .int .u64 x] w (RetF w P) := by
  subst hx; rw [← hP]; exact powF_any h (by omega) (by decide) (by decide) h1 h2
theorem textFC {v : Value} {P : Rat} {S : ByteArray} {w : World} (h : FracV w v P) (hT : TabsA w) (sP : Sz 62 P) (hS : rs P = S) : Calls Tryz.prog 68 #[v] w (fun e w' => e = .returned (.string S) ∧ Below w.heap.size w w') := by
  rw [← hS]; exact textF_any62 h hT sP
theorem sz_pow {q P : Rat} {t : Nat} (h1 : q.num.natAbs ^ t < B64 ^ 62) (h2 : q.den ^ t < B64 ^ 62) (hP : q ^ t = P) : Sz 62 P := by
  subst hP
  exact ⟨by rw [Rat.num_pow, Int.natAbs_pow]; exact h1, by rw [Rat.den_pow]; exact h2⟩
set_option maxRecDepth 100000 in
set_option maxHeartbeats 4000000 in
theorem powA_out {s : ByteArray} {n : Int} (hs : s.size ≤ 608) (hn : n < -1000 ∨ 1000 < n) {w : World} (hT : TabsA w) : Calls Tryz.prog 43 #[.string s, .int .i64 n] w (RetT w ⟨#[]⟩ false) := by
  obtain ⟨q, hq⟩ : ∃ q, qv s = q := ⟨_, rfl⟩
  have HL := Lib.hid (And.intro hs hq)
  have HT := Lib.hid hT
  clear hs hq hT
  go_enter Tryz.func43, Tryz.ntmps43
  go_wp2_with fail
  refine (value_any s HL.out.1 _ HT.out.1).mono ?_
  rintro e w1 ⟨v1, rfl, hv1, hb1⟩
  rw [HL.out.2] at hv1
  obtain ⟨a, p, b, r, rfl, ha, hb⟩ := hv1
  obtain ⟨w2, hw2, hb2, k0, hz2⟩ := box1 w1 #[.int .i64 a, .pointer p, .int .i64 b, .pointer r] 65 (ip4 _ _ _ _)
  have k0 : K4 w1.heap.size a p b r w2 := k0
  have HT := Lib.hid (HT.out.below (below_trans hb1 hb2))
  have HB := Lib.hid (below_trans hb1 hb2)
  have HX : Hid (FracV w2 (.agg #[.int .i64 a, .pointer p, .int .i64 b, .pointer r]) q) := Lib.hid ⟨a, p, b, r, rfl, ha.below hb2, hb.below hb2⟩
  have HXN := Lib.hid (ha.below hb2)
  have y0 := k0.c0
  have y1 := k0.c1
  have y2 := k0.c2
  have y3 := k0.c3
  clear ha hb hb1 hb2 hz2 k0
  rcases hn with hn | hn
  · go_wp2_with fail
    exact bodyPost_ret (v := .tuple #[.string ⟨#[]⟩, .bool false]) (by simp [results, Tryz.results43, go_sem]) rfl ⟨rfl, HB.out⟩
  · have hn2 : ¬ n < -1000 := by omega
    go_wp2_with fail
    exact bodyPost_ret (v := .tuple #[.string ⟨#[]⟩, .bool false]) (by simp [results, Tryz.results43, go_sem]) rfl ⟨rfl, HB.out⟩
set_option maxRecDepth 100000 in
set_option maxHeartbeats 4000000 in
theorem powA_pos {s S : ByteArray} {N : Nat} {q P : Rat} (hs : s.size ≤ 608) (hq : qv s = q) (hN : N ≤ 1000) (h1 : q.num.natAbs ^ N < B64 ^ 62) (h2 : q.den ^ N < B64 ^ 62) (hP : q ^ N = P) (hS : rs P = S) {w : World} (hT : TabsA w) : Calls Tryz.prog 43 #[.string s, .int .i64 (N : Int)] w (RetT w S true) := by
  have HL := Lib.hid (And.intro hs hq)
  have HT := Lib.hid hT
  have HP := Lib.hid (And.intro h1 (And.intro h2 (And.intro hP (sz_pow h1 h2 hP))))
  have HS := Lib.hid hS
  have hn0 : ¬ (N : Int) < -1000 := by omega
  have hn1 : ¬ (1000 : Int) < (N : Int) := by omega
  have hn2 : (0 : Int) ≤ (N : Int) := by omega
  clear hs hq hT h1 h2 hP hS
  go_enter Tryz.func43, Tryz.ntmps43
  go_wp2_with fail
  refine (value_any s HL.out.1 _ HT.out.1).mono ?_
  rintro e w1 ⟨v1, rfl, hv1, hb1⟩
  rw [HL.out.2] at hv1
  obtain ⟨a, p, b, r, rfl, ha, hb⟩ := hv1
  obtain ⟨w2, hw2, hb2, k0, hz2⟩ := box1 w1 #[.int .i64 a, .pointer p, .int .i64 b, .pointer r] 65 (ip4 _ _ _ _)
  have k0 : K4 w1.heap.size a p b r w2 := k0
  have HT := Lib.hid (HT.out.below (below_trans hb1 hb2))
  have HB := Lib.hid (below_trans hb1 hb2)
  have HX : Hid (FracV w2 (.agg #[.int .i64 a, .pointer p, .int .i64 b, .pointer r]) q) := Lib.hid ⟨a, p, b, r, rfl, ha.below hb2, hb.below hb2⟩
  have HXN := Lib.hid (ha.below hb2)
  have y0 := k0.c0
  have y1 := k0.c1
  have y2 := k0.c2
  have y3 := k0.c3
  clear ha hb hb1 hb2 hz2 k0
  go_wp2_with fail
  refine (powFC HX.out hN HP.out.1 HP.out.2.1 HP.out.2.2.1 rfl).mono ?_
  rintro e w3 ⟨v3, rfl, hv3, hb3⟩
  have HV := Lib.hid hv3
  have HT := Lib.hid (HT.out.below hb3)
  have HB := Lib.hid (below_trans HB.out hb3)
  clear hv3 hb3 y0 y1 y2 y3
  go_wp2_with fail
  refine (textFC HV.out HT.out HP.out.2.2.2 HS.out).mono ?_
  rintro e w9 ⟨rfl, hb9⟩
  have HB := Lib.hid (below_trans HB.out hb9)
  clear hb9
  go_wp2_with fail
  exact bodyPost_ret (v := .tuple #[.string S, .bool true]) (by simp [results, Tryz.results43, go_sem]) rfl ⟨rfl, HB.out⟩
set_option maxRecDepth 100000 in
set_option maxHeartbeats 4000000 in
theorem powA_zero {s : ByteArray} {n : Int} {q : Rat} (hs : s.size ≤ 608) (hq : qv s = q) (h0 : q.num = 0) (hn1 : -1000 ≤ n) (hn2 : n < 0) {w : World} (hT : TabsA w) : Calls Tryz.prog 43 #[.string s, .int .i64 n] w (RetT w ⟨#[]⟩ false) := by
  have HL := Lib.hid (And.intro hs hq)
  have HT := Lib.hid hT
  have HS := Lib.hid (show Int.sign q.num = 0 by rw [h0]; rfl)
  have hn3 : ¬ n < -1000 := by omega
  have hn4 : ¬ 1000 < n := by omega
  have hn5 : ¬ 0 ≤ n := by omega
  clear hs hq h0 hT
  go_enter Tryz.func43, Tryz.ntmps43
  go_wp2_with fail
  refine (value_any s HL.out.1 _ HT.out.1).mono ?_
  rintro e w1 ⟨v1, rfl, hv1, hb1⟩
  rw [HL.out.2] at hv1
  obtain ⟨a, p, b, r, rfl, ha, hb⟩ := hv1
  obtain ⟨w2, hw2, hb2, k0, hz2⟩ := box1 w1 #[.int .i64 a, .pointer p, .int .i64 b, .pointer r] 65 (ip4 _ _ _ _)
  have k0 : K4 w1.heap.size a p b r w2 := k0
  have HT := Lib.hid (HT.out.below (below_trans hb1 hb2))
  have HB := Lib.hid (below_trans hb1 hb2)
  have HX : Hid (FracV w2 (.agg #[.int .i64 a, .pointer p, .int .i64 b, .pointer r]) q) := Lib.hid ⟨a, p, b, r, rfl, ha.below hb2, hb.below hb2⟩
  have HXN := Lib.hid (ha.below hb2)
  have y0 := k0.c0
  have y1 := k0.c1
  have y2 := k0.c2
  have y3 := k0.c3
  clear ha hb hb1 hb2 hz2 k0
  go_wp2_with fail
  refine (sign_at HXN.out HS.out).mono ?_
  rintro e w3 ⟨rfl, hb3⟩
  have HB := Lib.hid (below_trans HB.out hb3)
  clear hb3 y0 y1 y2 y3
  go_wp2_with fail
  exact bodyPost_ret (v := .tuple #[.string ⟨#[]⟩, .bool false]) (by simp [results, Tryz.results43, go_sem]) rfl ⟨rfl, HB.out⟩
set_option maxRecDepth 100000 in
set_option maxHeartbeats 4000000 in
theorem powA_neg {s S : ByteArray} {N : Nat} {q P : Rat} (hs : s.size ≤ 608) (hq : qv s = q) (h0 : q.num ≠ 0) (hN : N ≤ 1000) (hN0 : 0 < N) (h1 : (q⁻¹).num.natAbs ^ N < B64 ^ 62) (h2 : (q⁻¹).den ^ N < B64 ^ 62) (hP : q⁻¹ ^ N = P) (hS : rs P = S) {w : World} (hT : TabsA w) : Calls Tryz.prog 43 #[.string s, .int .i64 (-(N : Int))] w (RetT w S true) := by
  have HL := Lib.hid (And.intro hs hq)
  have HT := Lib.hid hT
  have HP := Lib.hid (And.intro h1 (And.intro h2 (And.intro hP (sz_pow h1 h2 hP))))
  have HS := Lib.hid hS
  have hq0 : q ≠ 0 := fun e => h0 (by rw [e]; rfl)
  have HQ := Lib.hid hq0
  have hne : ¬ Int.sign q.num = 0 := fun e => h0 (Int.sign_eq_zero_iff_zero.1 e)
  obtain ⟨sg, hsg⟩ : ∃ sg, Int.sign q.num = sg := ⟨_, rfl⟩
  rw [hsg] at hne
  have HSG := Lib.hid hsg
  obtain ⟨n, hn⟩ : ∃ n : Int, -(N : Int) = n := ⟨_, rfl⟩
  have hn0 : ¬ n < -1000 := by omega
  have hn1 : ¬ (1000 : Int) < n := by omega
  have hn2 : ¬ 0 ≤ n := by omega
  have ew : wrap64 (-n) = (N : Int) := by unfold wrap64; omega
  have ew2 : IntKind.i64.wrap (-n) = (N : Int) := by rw [IntKind.wrap_i64]; omega
  rw [hn]
  clear hs hq hT h1 h2 hP hS hq0 hsg h0 hn
  go_enter Tryz.func43, Tryz.ntmps43
  go_wp2_with fail
  refine (value_any s HL.out.1 _ HT.out.1).mono ?_
  rintro e w1 ⟨v1, rfl, hv1, hb1⟩
  rw [HL.out.2] at hv1
  obtain ⟨a, p, b, r, rfl, ha, hb⟩ := hv1
  obtain ⟨w2, hw2, hb2, k0, hz2⟩ := box1 w1 #[.int .i64 a, .pointer p, .int .i64 b, .pointer r] 65 (ip4 _ _ _ _)
  have k0 : K4 w1.heap.size a p b r w2 := k0
  have HT := Lib.hid (HT.out.below (below_trans hb1 hb2))
  have HB := Lib.hid (below_trans hb1 hb2)
  have HX : Hid (FracV w2 (.agg #[.int .i64 a, .pointer p, .int .i64 b, .pointer r]) q) := Lib.hid ⟨a, p, b, r, rfl, ha.below hb2, hb.below hb2⟩
  have HXN := Lib.hid (ha.below hb2)
  have y0 := k0.c0
  have y1 := k0.c1
  have y2 := k0.c2
  have y3 := k0.c3
  clear ha hb hb1 hb2 hz2 k0
  go_wp2_with fail
  refine (sign_at HXN.out HSG.out).mono ?_
  rintro e w3 ⟨rfl, hb3⟩
  have x0 := (hb3.cell (p := ⟨w1.heap.size, 0, none⟩) (World.block_lt_of_cell? w2 _ y0)).trans y0
  have x1 := (hb3.cell (p := ⟨w1.heap.size, 1, none⟩) (World.block_lt_of_cell? w2 _ y1)).trans y1
  have x2 := (hb3.cell (p := ⟨w1.heap.size, 2, none⟩) (World.block_lt_of_cell? w2 _ y2)).trans y2
  have x3 := (hb3.cell (p := ⟨w1.heap.size, 3, none⟩) (World.block_lt_of_cell? w2 _ y3)).trans y3
  have HX : Hid (FracV w3 (.agg #[.int .i64 a, .pointer p, .int .i64 b, .pointer r]) q) := Lib.hid (by obtain ⟨_, _, _, _, e, h1, h2⟩ := HX.out; exact ⟨_, _, _, _, e, h1.below hb3, h2.below hb3⟩)
  have HT := Lib.hid (HT.out.below hb3)
  have HB := Lib.hid (below_trans HB.out hb3)
  clear hb3 y0 y1 y2 y3
  go_wp2_with fail
  refine (inverse_any HX.out HQ.out).mono ?_
  rintro e w4 ⟨v4, rfl, hv4, hb4⟩
  have HV := Lib.hid hv4
  have HT := Lib.hid (HT.out.below hb4)
  have HB := Lib.hid (below_trans HB.out hb4)
  clear hv4 hb4 x0 x1 x2 x3
  go_wp2_with fail
  refine (powFC HV.out hN HP.out.1 HP.out.2.1 HP.out.2.2.1 rfl).mono ?_
  rintro e w5 ⟨v5, rfl, hv5, hb5⟩
  have HV := Lib.hid hv5
  have HT := Lib.hid (HT.out.below hb5)
  have HB := Lib.hid (below_trans HB.out hb5)
  clear hv5 hb5
  go_wp2_with fail
  refine (textFC HV.out HT.out HP.out.2.2.2 HS.out).mono ?_
  rintro e w9 ⟨rfl, hb9⟩
  have HB := Lib.hid (below_trans HB.out hb9)
  clear hb9
  go_wp2_with fail
  exact bodyPost_ret (v := .tuple #[.string S, .bool true]) (by simp [results, Tryz.results43, go_sem]) rfl ⟨rfl, HB.out⟩
end Go.Proofs.YtekghemhccfhkaaGreatDoor
namespace Go.Proofs.YtekghemhccfhkaaGreatDoor
open Go.RowKit Go.Big
/-- Both functions give the same. -/
def PowPair (a : ByteArray) (n : Int) (S : ByteArray) (b : Bool) : Prop :=
  (∀ w, TabsA w → Calls Tryz.prog 43 #[.string a, .int .i64 n] w (RetT w S b)) ∧ ∀ w, Calls Tryz.prog 44 #[.string a, .int .i64 n] w (RetT w S b)
theorem pow_pair {a : ByteArray} {n : Int} (hs : a.size ≤ 12) (hn : n < -1000 ∨ 1000 < n ∨ -60 ≤ n ∧ n ≤ 60) : ∃ S b, PowPair a n S b := by
  obtain ⟨q, hq⟩ : ∃ q, qv a = q := ⟨_, rfl⟩
  have hz := qv_size12 hs
  rw [hq] at hz
  have hs1 : a.size ≤ 608 := by omega
  have hs2 : a.size ≤ 10000 := by omega
  have h38 : B64 ^ 38 ≤ B64 ^ 62 := Nat.pow_le_pow_right (by decide) (by decide)
  rcases hn with hn | hn | ⟨hn1, hn2⟩
  · exact ⟨_, _, fun w hT => powA_out hs1 (.inl hn) hT, fun w => powR_out hs2 (.inl hn)⟩
  · exact ⟨_, _, fun w hT => powA_out hs1 (.inr hn) hT, fun w => powR_out hs2 (.inr hn)⟩
  · rcases Int.lt_or_le n 0 with h | h
    · by_cases h0 : q.num = 0
      · exact ⟨_, _, fun w hT => powA_zero hs1 hq h0 (by omega) h hT, fun w => powR_zero hs2 hq h0 (by omega) h⟩
      · obtain ⟨N, rfl⟩ : ∃ N : Nat, n = -(N : Int) := ⟨n.natAbs, by omega⟩
        have hq0 : q ≠ 0 := fun e => h0 (by rw [e]; rfl)
        obtain ⟨i1, i2⟩ := rat_inv q hq0
        have j1 : (q⁻¹).num.natAbs < 10 ^ 12 := by
          rw [i1]; split
          · rw [Int.natAbs_neg, Int.natAbs_natCast]; exact hz.2
          · rw [Int.natAbs_natCast]; exact hz.2
        have j2 : (q⁻¹).den < 10 ^ 12 := by rw [i2]; exact hz.1
        have e1 : ((1 : Int) : Rat) / q = q⁻¹ := by rw [Rat.div_def]; exact Rat.one_mul _
        exact ⟨_, _, fun w hT => powA_neg hs1 hq h0 (by omega) (by omega) (Nat.lt_of_lt_of_le (pow_b38 j1 (by omega)) h38) (Nat.lt_of_lt_of_le (pow_b38 j2 (by omega)) h38) rfl rfl hT,
          fun w => powR_neg (K := 2) hs2 hq h0 (by decide) (sn2q hz) (by omega) (by omega) (by omega) (by rw [e1]) rfl⟩
    · obtain ⟨N, rfl⟩ : ∃ N : Nat, n = (N : Int) := ⟨n.natAbs, by omega⟩
      exact ⟨_, _, fun w hT => powA_pos hs1 hq (by omega) (Nat.lt_of_lt_of_le (pow_b38 hz.1 (by omega)) h38) (Nat.lt_of_lt_of_le (pow_b38 hz.2 (by omega)) h38) rfl rfl hT,
        fun w => powR_pos (K := 2) hs2 hq (by decide) (sn2q hz) (by omega) (by omega) rfl rfl⟩
set_option maxRecDepth 100000 in
set_option maxHeartbeats 4000000 in
theorem rationalPow_walk (a : ByteArray) {n : Int} (hn : IsS n) {w : World} (hT : TabsA w) : Calls Tryz.prog 8 #[.string a, .int .i64 n] w (RetBool w true) := by
  have HT := Lib.hid hT
  clear hT
  rcases Nat.lt_or_ge 12 a.size with hs | hs
  · go_enter Tryz.func8, Tryz.ntmps8
    go_wp2_with fail
    refine (awake_any HT.out).mono ?_
    rintro e w2 ⟨rfl, hb2⟩
    have HB := Lib.hid hb2
    clear hb2
    go_wp2_with fail
    go_ret
    exact ⟨rfl, HB.out⟩
  have hcase : (60 < n ∧ n ≤ 1000 ∨ n < -60 ∧ -1000 ≤ n) ∨ (1000 < n ∨ n < -1000 ∨ -60 ≤ n ∧ n ≤ 60) := by omega
  rcases hcase with hc | hc
  · obtain ⟨m, hm⟩ : ∃ m, n % 121 - 60 = m := ⟨_, rfl⟩
    have hm1 : -60 ≤ m ∧ m ≤ 60 := by omega
    obtain ⟨S, b, hp⟩ := pow_pair (a := a) (n := m) hs (.inr (.inr hm1))
    have HP := Lib.hid hp
    obtain ⟨r, hr⟩ : ∃ r, n % 121 = r := ⟨_, rfl⟩
    have hrm : r - 60 = m := by omega
    have hr1 : 0 ≤ r := by omega
    have hr2 : r ≤ 120 := by omega
    have hm2 := hm1.1
    have hm3 := hm1.2
    have HM := Lib.hid (mod121 n)
    rw [hr] at HM
    clear hp hm hr hm1
    have hn1 := hn.1
    have hn2 := hn.2
    rcases hc with ⟨h1, h2⟩ | ⟨h1, h2⟩
    all_goals
      try have h3 : ¬ (60 : Int) < n := by omega
      go_enter Tryz.func8, Tryz.ntmps8
      go_wp2_with fail
      refine (HM.out _).mono ?_
      rintro e w2 ⟨rfl, rfl⟩
      go_wp2_with fail
      refine (HP.out.1 _ HT.out).mono ?_
      rintro e w3 ⟨rfl, hb3⟩
      have HT := Lib.hid (HT.out.below hb3)
      have HB := Lib.hid hb3
      clear hb3
      go_wp2_with fail
      refine (HP.out.2 _).mono ?_
      rintro e w4 ⟨rfl, hb4⟩
      have HT := Lib.hid (HT.out.below hb4)
      have HB := Lib.hid (below_trans HB.out hb4)
      clear hb4
      go_wp2_with fail
      refine (awake_any HT.out).mono ?_
      rintro e w5 ⟨rfl, hb5⟩
      have HB := Lib.hid (below_trans HB.out hb5)
      clear hb5
      go_wp2_with fail
      go_ret
      exact ⟨rfl, HB.out⟩
  · obtain ⟨S, b, hp⟩ := pow_pair (a := a) (n := n) hs (by omega)
    have HP := Lib.hid hp
    clear hp
    have hn1 := hn.1
    have hn2 := hn.2
    rcases hc with h1 | h1 | ⟨h1, h2⟩
    all_goals
      try have h3 : ¬ n ≤ 1000 := by omega
      try have h4 : ¬ -1000 ≤ n := by omega
      try have h5 : ¬ (60 : Int) < n := by omega
      try have h6 : ¬ n < -60 := by omega
      go_enter Tryz.func8, Tryz.ntmps8
      go_wp2_with fail
      refine (HP.out.1 _ HT.out).mono ?_
      rintro e w3 ⟨rfl, hb3⟩
      have HT := Lib.hid (HT.out.below hb3)
      have HB := Lib.hid hb3
      clear hb3
      go_wp2_with fail
      refine (HP.out.2 _).mono ?_
      rintro e w4 ⟨rfl, hb4⟩
      have HT := Lib.hid (HT.out.below hb4)
      have HB := Lib.hid (below_trans HB.out hb4)
      clear hb4
      go_wp2_with fail
      refine (awake_any HT.out).mono ?_
      rintro e w5 ⟨rfl, hb5⟩
      have HB := Lib.hid (below_trans HB.out hb5)
      clear hb5
      go_wp2_with fail
      go_ret
      exact ⟨rfl, HB.out⟩
end Go.Proofs.YtekghemhccfhkaaGreatDoor
