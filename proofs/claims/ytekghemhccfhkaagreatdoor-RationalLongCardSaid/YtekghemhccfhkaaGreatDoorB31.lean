/-
  Walks of the program's functions: IntH.
-/
import Derived.Test.YtekghemhccfhkaaGreatDoorB30
namespace Go.Big
open Go Go.RowKit
theorem gcd_lt64 {a b : Nat} (ha : a < 18446744073709551616) (hb : b < 18446744073709551616) : Nat.gcd a b < 18446744073709551616 := by
  rcases Nat.eq_zero_or_pos a with h | h
  · rw [h, Nat.gcd_zero_left]; exact hb
  · exact Nat.lt_of_le_of_lt (Nat.gcd_le_left b h) ha
theorem cmp_nn {n m : Int} (h1 : decide (n < 0) = false) (h2 : decide (m < 0) = false) : cmpInt (n.natAbs : Nat) (m.natAbs : Nat) = cmpInt n m := by
  simp at h1 h2
  rw [show (n.natAbs : Int) = n by omega, show (m.natAbs : Int) = m by omega]
theorem cmp_pp {n m : Int} (h1 : decide (n < 0) = true) (h2 : decide (m < 0) = true) : cmpInt (m.natAbs : Nat) (n.natAbs : Nat) = cmpInt n m := by
  simp at h1 h2
  rw [show (n.natAbs : Int) = -n by omega, show (m.natAbs : Int) = -m by omega]
  unfold cmpInt
  by_cases h : n < m
  · rw [if_pos (by omega), if_pos h]
  · rw [if_neg (by omega), if_neg h]
    by_cases h3 : m < n
    · rw [if_pos (by omega), if_pos (by omega)]
    · rw [if_neg (by omega), if_neg (by omega)]
theorem cmp_sg {n m : Int} (h : (decide (n < 0) == decide (m < 0)) = false) : cmpInt (Int.sign n) (Int.sign m) = cmpInt n m := by
  rw [beq_eq_false_iff_ne, ne_eq, Bool.eq_iff_iff] at h
  simp at h
  unfold cmpInt
  have sg : ∀ k : Int, k < 0 ∧ Int.sign k = -1 ∨ k = 0 ∧ Int.sign k = 0 ∨ 0 < k ∧ Int.sign k = 1 := fun k => by
    rcases Int.lt_trichotomy k 0 with h1 | h1 | h1
    · exact .inl ⟨h1, Int.sign_eq_neg_one_of_neg h1⟩
    · exact .inr (.inl ⟨h1, by rw [h1]; rfl⟩)
    · exact .inr (.inr ⟨h1, Int.sign_eq_one_of_pos h1⟩)
  have h1 := sg n
  have h2 := sg m
  generalize Int.sign n = a at *
  generalize Int.sign m = b at *
  repeat' split
  all_goals omega
end Go.Big
namespace Go.Proofs.YtekghemhccfhkaaGreatDoor
open Go.RowKit Go.Big
theorem isOne_at {v : Value} {n : Int} {w : World} (h : IntV w v n) {b : Bool} (hb : decide (n = 1) = b) : Calls Tryz.prog 56 #[v] w (RetBool w b) := by rw [← hb]; exact isOne_any h
set_option maxRecDepth 100000 in
set_option maxHeartbeats 1000000 in
theorem gcd_one1 {x y : Int} {p q : Option Addr} {n m : Int} {w : World} (hx : IntV w (.agg #[.int .i64 x, .pointer p]) n) (hy : IntV w (.agg #[.int .i64 y, .pointer q]) m) (hc : n = 1) : Calls Tryz.prog 99 #[.agg #[.int .i64 x, .pointer p], .agg #[.int .i64 y, .pointer q]] w (RetInt w 1) := by
  obtain ⟨w0, hw0, hb0, kx, ky, k2, hsz⟩ := three_boxes w x p y q
  have HVX := Lib.hid hx
  have HVY := Lib.hid hy
  have e1 := kx.c0
  have e2 := kx.c1
  have e3 := ky.c0
  have e4 := ky.c1
  have s1 : w0.cell? ⟨w.heap.size, 0, none⟩ = some (.int .i64 x) := kx.c0
  have s2 : w0.cell? ⟨w.heap.size, 1, none⟩ = some (.pointer p) := kx.c1
  have s3 : w0.cell? ⟨w.heap.size + 1, 0, none⟩ = some (.int .i64 y) := ky.c0
  have s4 : w0.cell? ⟨w.heap.size + 1, 1, none⟩ = some (.pointer q) := ky.c1
  have s5 := hb0
  have k2 : K2 (w.heap.size + 2) 0 none w0 := k2
  have HSZ := Lib.hid hsz
  have HC := Lib.hid hc
  clear hc
  clear kx ky hb0 hx hy hsz
  go_enter Tryz.func99, Tryz.ntmps99
  go_wp2_with fail
  refine (isOne_at (HVX.out.below s5) (b := true) (by rw [HC.out]; rfl)).mono ?_
  rintro e w1 ⟨rfl, hb1⟩
  obtain ⟨s1, s2, s3, s4, s5⟩ := s_step4 s1 s2 s3 s4 s5 hb1
  have k2 := k2.below hb1
  clear e1 e2 e3 e4
  go_wp2_with fail
  refine (fromInt64_any (n := 1) ⟨by omega, by omega⟩ _).mono ?_
  rintro e w2 ⟨v2, rfl, hv2, hb2⟩
  obtain ⟨s1, s2, s3, s4, s5⟩ := s_step4 s1 s2 s3 s4 s5 hb2
  have k2 := k2.below hb2
  obtain ⟨y', q', rfl⟩ := hv2.two
  have c0 := k2.c0
  have c1 := k2.c1
  have f0 := k2.f 0
  have f1 := k2.f 1
  obtain ⟨z1, z2, z3⟩ := ret_box k2 hv2 s5 (by omega)
  have HZ := Lib.hid z3
  clear s1 s2 s3 s4 s5 k2 hb1 hb2 hv2 z3
  go_wp2_with fail
  exact bodyPost_ret (v := .agg #[.int .i64 y', .pointer q']) (by simp [results, Tryz.results99, go_sem, z1, z2]) rfl HZ.out
set_option maxRecDepth 100000 in
set_option maxHeartbeats 1000000 in
theorem gcd_one2 {x y : Int} {p q : Option Addr} {n m : Int} {w : World} (hx : IntV w (.agg #[.int .i64 x, .pointer p]) n) (hy : IntV w (.agg #[.int .i64 y, .pointer q]) m) (hc : n ≠ 1) (hc2 : m = 1) : Calls Tryz.prog 99 #[.agg #[.int .i64 x, .pointer p], .agg #[.int .i64 y, .pointer q]] w (RetInt w 1) := by
  obtain ⟨w0, hw0, hb0, kx, ky, k2, hsz⟩ := three_boxes w x p y q
  have HVX := Lib.hid hx
  have HVY := Lib.hid hy
  have e1 := kx.c0
  have e2 := kx.c1
  have e3 := ky.c0
  have e4 := ky.c1
  have s1 : w0.cell? ⟨w.heap.size, 0, none⟩ = some (.int .i64 x) := kx.c0
  have s2 : w0.cell? ⟨w.heap.size, 1, none⟩ = some (.pointer p) := kx.c1
  have s3 : w0.cell? ⟨w.heap.size + 1, 0, none⟩ = some (.int .i64 y) := ky.c0
  have s4 : w0.cell? ⟨w.heap.size + 1, 1, none⟩ = some (.pointer q) := ky.c1
  have s5 := hb0
  have k2 : K2 (w.heap.size + 2) 0 none w0 := k2
  have HSZ := Lib.hid hsz
  have HC := Lib.hid hc
  have HC2 := Lib.hid hc2
  clear hc hc2
  clear kx ky hb0 hx hy hsz
  go_enter Tryz.func99, Tryz.ntmps99
  go_wp2_with fail
  refine (isOne_at (HVX.out.below s5) (b := false) (by rw [decide_eq_false_iff_not]; exact HC.out)).mono ?_
  rintro e w1 ⟨rfl, hb1⟩
  obtain ⟨s1, s2, s3, s4, s5⟩ := s_step4 s1 s2 s3 s4 s5 hb1
  have k2 := k2.below hb1
  clear e1 e2 e3 e4
  go_wp2_with fail
  refine (isOne_at (HVY.out.below s5) (b := true) (by rw [HC2.out]; rfl)).mono ?_
  rintro e w2 ⟨rfl, hb2⟩
  obtain ⟨s1, s2, s3, s4, s5⟩ := s_step4 s1 s2 s3 s4 s5 hb2
  have k2 := k2.below hb2
  go_wp2_with fail
  refine (fromInt64_any (n := 1) ⟨by omega, by omega⟩ _).mono ?_
  rintro e w3 ⟨v2, rfl, hv2, hb3⟩
  obtain ⟨s1, s2, s3, s4, s5⟩ := s_step4 s1 s2 s3 s4 s5 hb3
  have k2 := k2.below hb3
  obtain ⟨y', q', rfl⟩ := hv2.two
  have c0 := k2.c0
  have c1 := k2.c1
  have f0 := k2.f 0
  have f1 := k2.f 1
  obtain ⟨z1, z2, z3⟩ := ret_box k2 hv2 s5 (by omega)
  have HZ := Lib.hid z3
  clear s1 s2 s3 s4 s5 k2 hb1 hb2 hb3 hv2 z3
  go_wp2_with fail
  exact bodyPost_ret (v := .agg #[.int .i64 y', .pointer q']) (by simp [results, Tryz.results99, go_sem, z1, z2]) rfl HZ.out
set_option maxRecDepth 100000 in
set_option maxHeartbeats 1000000 in
theorem gcd_ww {x y : Int} {w : World} (hx0 : IsS x) (hy0 : IsS y) (hc : x ≠ 1) (hc2 : y ≠ 1) (hT : Tabs w) : Calls Tryz.prog 99 #[.agg #[.int .i64 x, .pointer none], .agg #[.int .i64 y, .pointer none]] w (RetInt w (Nat.gcd x.natAbs y.natAbs : Nat)) := by
  have hx : IntV w (.agg #[.int .i64 x, .pointer none]) x := .inl ⟨hx0, rfl⟩
  have hy : IntV w (.agg #[.int .i64 y, .pointer none]) y := .inl ⟨hy0, rfl⟩
  have hxl : x.natAbs < 18446744073709551616 := by unfold IsS at hx0; omega
  have hyl : y.natAbs < 18446744073709551616 := by unfold IsS at hy0; omega
  have hgl : Nat.gcd x.natAbs y.natAbs < 18446744073709551616 := gcd_lt64 hxl hyl
  obtain ⟨G, hG⟩ : ∃ G, Nat.gcd x.natAbs y.natAbs = G := ⟨_, rfl⟩
  have hgw : ∀ w', Below w.heap.size w w' → Calls Tryz.prog 134 #[.int .u64 (x.natAbs : Int), .int .u64 (y.natAbs : Int)] w' fun e w1 => e = .returned (.int .u64 (G : Int)) ∧ w1 = w' := fun w' hb => by
    rw [← hG]; exact gcdWords_any hxl hyl w' (tabs_below hT hb)
  rw [hG] at hgl ⊢
  obtain ⟨w0, hw0, hb0, kx, ky, k2, hsz⟩ := three_boxes w x none y none
  have HVX := Lib.hid hx
  have HVY := Lib.hid hy
  have e1 := kx.c0
  have e2 := kx.c1
  have e3 := ky.c0
  have e4 := ky.c1
  have s1 : w0.cell? ⟨w.heap.size, 0, none⟩ = some (.int .i64 x) := kx.c0
  have s2 : w0.cell? ⟨w.heap.size, 1, none⟩ = some (.pointer none) := kx.c1
  have s3 : w0.cell? ⟨w.heap.size + 1, 0, none⟩ = some (.int .i64 y) := ky.c0
  have s4 : w0.cell? ⟨w.heap.size + 1, 1, none⟩ = some (.pointer none) := ky.c1
  have s5 := hb0
  have k2 : K2 (w.heap.size + 2) 0 none w0 := k2
  have HSZ := Lib.hid hsz
  have HS := Lib.hid (And.intro hx0 hy0)
  have HG := Lib.hid hgw
  have HGL := Lib.hid hgl
  have HC := Lib.hid hc
  have HC2 := Lib.hid hc2
  clear hx0 hy0 hxl hyl hgw hgl hG hc hc2
  clear kx ky hb0 hx hy hsz
  go_enter Tryz.func99, Tryz.ntmps99
  go_wp2_with fail
  refine (isOne_at (HVX.out.below s5) (b := false) (by rw [decide_eq_false_iff_not]; exact HC.out)).mono ?_
  rintro e w1 ⟨rfl, hb1⟩
  obtain ⟨s1, s2, s3, s4, s5⟩ := s_step4 s1 s2 s3 s4 s5 hb1
  have k2 := k2.below hb1
  clear e1 e2 e3 e4
  go_wp2_with fail
  refine (isOne_at (HVY.out.below s5) (b := false) (by rw [decide_eq_false_iff_not]; exact HC2.out)).mono ?_
  rintro e w2 ⟨rfl, hb2⟩
  obtain ⟨s1, s2, s3, s4, s5⟩ := s_step4 s1 s2 s3 s4 s5 hb2
  have k2 := k2.below hb2
  go_wp2_with fail
  obtain ⟨s1, s2, s3, s4, s5⟩ := s_drew4 s1 s2 s3 s4 s5
  have k2 : K2 (w.heap.size + 2) 0 none w2.drew := k2
  go_region_held3 (fun w' => w'.cell? ⟨w.heap.size, 0, none⟩ = some (.int .i64 x) ∧ w'.cell? ⟨w.heap.size, 1, none⟩ = some (.pointer none) ∧ w'.cell? ⟨w.heap.size + 1, 0, none⟩ = some (.int .i64 y) ∧ w'.cell? ⟨w.heap.size + 1, 1, none⟩ = some (.pointer none) ∧ Below w.heap.size w w') (first | exact ⟨s1, s2, s3, s4, s5⟩ | exact s_store4 s1 s2 s3 s4 s5 (by omega) (by omega) (by omega) | fail) (first | (go_at_call 131; (with_reducible refine (word_small HS.out.1 _).mono ?_); rintro e w3 ⟨rfl, hb3⟩; obtain ⟨s1, s2, s3, s4, s5⟩ := s_step4 s1 s2 s3 s4 s5 hb3; have k2 := k2.below hb3) | (go_at_call 131; (with_reducible refine (word_small HS.out.2 _).mono ?_); rintro e w4 ⟨rfl, hb4⟩; obtain ⟨s1, s2, s3, s4, s5⟩ := s_step4 s1 s2 s3 s4 s5 hb4; have k2 := k2.below hb4) | (go_at_call 134; (with_reducible refine (HG.out _ s5).mono ?_); rintro e w5 ⟨rfl, rfl⟩) | (go_at_call 133; (with_reducible refine (signedWord_any false HGL.out _).mono ?_); rintro e w6 ⟨v6, rfl, hv6, hb6⟩; obtain ⟨s1, s2, s3, s4, s5⟩ := s_step4 s1 s2 s3 s4 s5 hb6; have k2 := k2.below hb6; obtain ⟨y', q', rfl⟩ := hv6.two; have c0 := k2.c0; have c1 := k2.c1; have f0 := k2.f 0; have f1 := k2.f 1) | fail)
  obtain ⟨z1, z2, z3⟩ := ret_box k2 hv6 s5 (by omega)
  rw [show signed false G = (G : Int) from rfl] at z3
  have HZ := Lib.hid z3
  clear s1 s2 s3 s4 s5 k2 c0 c1 f0 f1 hv6 hb1 hb2 hb3 hb4 hb6 z3
  go_wp2_with fail
  exact bodyPost_ret (v := .agg #[.int .i64 y', .pointer q']) (by simp [results, Tryz.results99, go_sem, z1, z2]) rfl HZ.out
set_option maxRecDepth 100000 in
set_option maxHeartbeats 1000000 in
theorem gcd_big {x y : Int} {p q : Option Addr} {n m : Int} {w : World} (hx : IntV w (.agg #[.int .i64 x, .pointer p]) n) (hy : IntV w (.agg #[.int .i64 y, .pointer q]) m) (hc : n ≠ 1) (hc2 : m ≠ 1) (hc3 : ¬ (p = none ∧ q = none)) {K : Nat} (hT : Tabs w) (hK : K < 239) (hn : n.natAbs < B64 ^ K) (hm : m.natAbs < B64 ^ K) : Calls Tryz.prog 99 #[.agg #[.int .i64 x, .pointer p], .agg #[.int .i64 y, .pointer q]] w (RetInt w (Nat.gcd n.natAbs m.natAbs : Nat)) := by
  obtain ⟨w0, hw0, hb0, kx, ky, k2, hsz⟩ := three_boxes w x p y q
  have HVX := Lib.hid hx
  have HVY := Lib.hid hy
  have e1 := kx.c0
  have e2 := kx.c1
  have e3 := ky.c0
  have e4 := ky.c1
  have s1 : w0.cell? ⟨w.heap.size, 0, none⟩ = some (.int .i64 x) := kx.c0
  have s2 : w0.cell? ⟨w.heap.size, 1, none⟩ = some (.pointer p) := kx.c1
  have s3 : w0.cell? ⟨w.heap.size + 1, 0, none⟩ = some (.int .i64 y) := ky.c0
  have s4 : w0.cell? ⟨w.heap.size + 1, 1, none⟩ = some (.pointer q) := ky.c1
  have s5 := hb0
  have k2 : K2 (w.heap.size + 2) 0 none w0 := k2
  have HSZ := Lib.hid hsz
  have HC := Lib.hid hc
  have HC2 := Lib.hid hc2
  have HC3 := Lib.hid hc3
  have HK := Lib.hid (And.intro hn hm)
  have HT := Lib.hid hT
  clear hc hc2 hc3 hn hm hT
  clear kx ky hb0 hx hy hsz
  cases p with
  | none =>
    cases q with
    | none => exact absurd ⟨rfl, rfl⟩ HC3.out
    | some b =>
      go_enter Tryz.func99, Tryz.ntmps99
      go_wp2_with fail
      refine (isOne_at (HVX.out.below s5) (b := false) (by rw [decide_eq_false_iff_not]; exact HC.out)).mono ?_
      rintro e w1 ⟨rfl, hb1⟩
      obtain ⟨s1, s2, s3, s4, s5⟩ := s_step4 s1 s2 s3 s4 s5 hb1
      have k2 := k2.below hb1
      clear e1 e2 e3 e4
      go_wp2_with fail
      refine (isOne_at (HVY.out.below s5) (b := false) (by rw [decide_eq_false_iff_not]; exact HC2.out)).mono ?_
      rintro e w2 ⟨rfl, hb2⟩
      obtain ⟨s1, s2, s3, s4, s5⟩ := s_step4 s1 s2 s3 s4 s5 hb2
      have k2 := k2.below hb2
      go_wp2_with fail
      obtain ⟨s1, s2, s3, s4, s5⟩ := s_drew4 s1 s2 s3 s4 s5
      have k2 : K2 (w.heap.size + 2) 0 none w2.drew := k2
      go_region_held3 (fun w' => w'.cell? ⟨w.heap.size, 0, none⟩ = some (.int .i64 x) ∧ w'.cell? ⟨w.heap.size, 1, none⟩ = some (.pointer none) ∧ w'.cell? ⟨w.heap.size + 1, 0, none⟩ = some (.int .i64 y) ∧ w'.cell? ⟨w.heap.size + 1, 1, none⟩ = some (.pointer (some b)) ∧ Below w.heap.size w w') (first | exact ⟨s1, s2, s3, s4, s5⟩ | exact s_store4 s1 s2 s3 s4 s5 (by omega) (by omega) (by omega) | fail) (first | (go_at_call 114; (with_reducible refine (natural_any (HVX.out.below s5)).mono ?_); rintro e w3 ⟨v3, rfl, hv3, hb3⟩; obtain ⟨s1, s2, s3, s4, s5⟩ := s_step4 s1 s2 s3 s4 s5 hb3; have k2 := k2.below hb3) | (go_at_call 114; (with_reducible refine (natural_any (HVY.out.below s5)).mono ?_); rintro e w4 ⟨v4, rfl, hv4, hb4⟩; obtain ⟨s1, s2, s3, s4, s5⟩ := s_step4 s1 s2 s3 s4 s5 hb4; have k2 := k2.below hb4; have hv3 := hv3.below hb4) | (go_at_call 135; (with_reducible refine (gcd_any hv3 hv4 (tabs_below HT.out s5) hK HK.out.1 HK.out.2).mono ?_); rintro e w5 ⟨v5, rfl, hv5, hb5⟩; obtain ⟨s1, s2, s3, s4, s5⟩ := s_step4 s1 s2 s3 s4 s5 hb5; have k2 := k2.below hb5) | (go_at_call 113; (with_reducible refine (signed_any false hv5).mono ?_); rintro e w6 ⟨v6, rfl, hv6, hb6⟩; obtain ⟨s1, s2, s3, s4, s5⟩ := s_step4 s1 s2 s3 s4 s5 hb6; have k2 := k2.below hb6; obtain ⟨y', q', rfl⟩ := hv6.two; have c0 := k2.c0; have c1 := k2.c1; have f0 := k2.f 0; have f1 := k2.f 1) | fail)
      obtain ⟨z1, z2, z3⟩ := ret_box k2 hv6 s5 (by omega)
      rw [show ∀ G, signed false G = (G : Int) from fun _ => rfl] at z3
      have HZ := Lib.hid z3
      clear s1 s2 s3 s4 s5 k2 c0 c1 f0 f1 hv3 hv4 hv5 hv6 hb1 hb2 hb3 hb4 hb5 hb6 z3
      go_wp2_with fail
      exact bodyPost_ret (v := .agg #[.int .i64 y', .pointer q']) (by simp [results, Tryz.results99, go_sem, z1, z2]) rfl HZ.out
  | some a =>
      go_enter Tryz.func99, Tryz.ntmps99
      go_wp2_with fail
      refine (isOne_at (HVX.out.below s5) (b := false) (by rw [decide_eq_false_iff_not]; exact HC.out)).mono ?_
      rintro e w1 ⟨rfl, hb1⟩
      obtain ⟨s1, s2, s3, s4, s5⟩ := s_step4 s1 s2 s3 s4 s5 hb1
      have k2 := k2.below hb1
      clear e1 e2 e3 e4
      go_wp2_with fail
      refine (isOne_at (HVY.out.below s5) (b := false) (by rw [decide_eq_false_iff_not]; exact HC2.out)).mono ?_
      rintro e w2 ⟨rfl, hb2⟩
      obtain ⟨s1, s2, s3, s4, s5⟩ := s_step4 s1 s2 s3 s4 s5 hb2
      have k2 := k2.below hb2
      go_wp2_with fail
      obtain ⟨s1, s2, s3, s4, s5⟩ := s_drew4 s1 s2 s3 s4 s5
      have k2 : K2 (w.heap.size + 2) 0 none w2.drew := k2
      go_region_held3 (fun w' => w'.cell? ⟨w.heap.size, 0, none⟩ = some (.int .i64 x) ∧ w'.cell? ⟨w.heap.size, 1, none⟩ = some (.pointer (some a)) ∧ w'.cell? ⟨w.heap.size + 1, 0, none⟩ = some (.int .i64 y) ∧ w'.cell? ⟨w.heap.size + 1, 1, none⟩ = some (.pointer q) ∧ Below w.heap.size w w') (first | exact ⟨s1, s2, s3, s4, s5⟩ | exact s_store4 s1 s2 s3 s4 s5 (by omega) (by omega) (by omega) | fail) (first | (go_at_call 114; (with_reducible refine (natural_any (HVX.out.below s5)).mono ?_); rintro e w3 ⟨v3, rfl, hv3, hb3⟩; obtain ⟨s1, s2, s3, s4, s5⟩ := s_step4 s1 s2 s3 s4 s5 hb3; have k2 := k2.below hb3) | (go_at_call 114; (with_reducible refine (natural_any (HVY.out.below s5)).mono ?_); rintro e w4 ⟨v4, rfl, hv4, hb4⟩; obtain ⟨s1, s2, s3, s4, s5⟩ := s_step4 s1 s2 s3 s4 s5 hb4; have k2 := k2.below hb4; have hv3 := hv3.below hb4) | (go_at_call 135; (with_reducible refine (gcd_any hv3 hv4 (tabs_below HT.out s5) hK HK.out.1 HK.out.2).mono ?_); rintro e w5 ⟨v5, rfl, hv5, hb5⟩; obtain ⟨s1, s2, s3, s4, s5⟩ := s_step4 s1 s2 s3 s4 s5 hb5; have k2 := k2.below hb5) | (go_at_call 113; (with_reducible refine (signed_any false hv5).mono ?_); rintro e w6 ⟨v6, rfl, hv6, hb6⟩; obtain ⟨s1, s2, s3, s4, s5⟩ := s_step4 s1 s2 s3 s4 s5 hb6; have k2 := k2.below hb6; obtain ⟨y', q', rfl⟩ := hv6.two; have c0 := k2.c0; have c1 := k2.c1; have f0 := k2.f 0; have f1 := k2.f 1) | fail)
      obtain ⟨z1, z2, z3⟩ := ret_box k2 hv6 s5 (by omega)
      rw [show ∀ G, signed false G = (G : Int) from fun _ => rfl] at z3
      have HZ := Lib.hid z3
      clear s1 s2 s3 s4 s5 k2 c0 c1 f0 f1 hv3 hv4 hv5 hv6 hb1 hb2 hb3 hb4 hb5 hb6 z3
      go_wp2_with fail
      exact bodyPost_ret (v := .agg #[.int .i64 y', .pointer q']) (by simp [results, Tryz.results99, go_sem, z1, z2]) rfl HZ.out
set_option maxRecDepth 100000 in
set_option maxHeartbeats 1000000 in
theorem gcdI_any {vx vy : Value} {n m : Int} {K : Nat} {w : World} (hx : IntV w vx n) (hy : IntV w vy m) (hT : Tabs w) (hK : K < 239) (hn : n.natAbs < B64 ^ K) (hm : m.natAbs < B64 ^ K) :
    Calls Tryz.prog 99 #[vx, vy] w (RetInt w (Nat.gcd n.natAbs m.natAbs : Nat)) := by
  obtain ⟨x, p, rfl⟩ := hx.two
  obtain ⟨y, q, rfl⟩ := hy.two
  by_cases h1 : n = 1
  · have e : Nat.gcd n.natAbs m.natAbs = 1 := by rw [h1]; exact Nat.gcd_one_left _
    rw [e]; exact gcd_one1 hx hy h1
  · by_cases h2 : m = 1
    · have e : Nat.gcd n.natAbs m.natAbs = 1 := by rw [h2]; exact Nat.gcd_one_right _
      rw [e]; exact gcd_one2 hx hy h1 h2
    · by_cases h3 : p = none ∧ q = none
      · obtain ⟨rfl, rfl⟩ := h3
        rcases hx.cs with ⟨sx, ex⟩ | ⟨a, ex, _⟩
        · rcases hy.cs with ⟨sy, ey⟩ | ⟨b, ey, _⟩
          · simp at ex ey
            subst ex ey
            exact gcd_ww sx sy h1 h2 hT
          · simp at ey
        · simp at ex
      · exact gcd_big hx hy h1 h2 h3 hT hK hn hm
set_option maxRecDepth 100000 in
set_option maxHeartbeats 1000000 in
theorem cmp_small {x y : Int} {w : World} : Calls Tryz.prog 122 #[.agg #[.int .i64 x, .pointer none], .agg #[.int .i64 y, .pointer none]] w (RetI w (cmpInt x y)) := by
  have HB := Lib.hid (below2 w (.cells #[.int .i64 x, .pointer none] 63) (.cells #[.int .i64 y, .pointer none] 63))
  go_enter Tryz.func122, Tryz.ntmps122
  go_wp2_with fail
  refine (cmp_i64 x y _).mono ?_
  rintro e w1 ⟨rfl, rfl⟩
  go_wp2_with fail
  go_ret
  exact ⟨rfl, HB.out⟩
set_option maxRecDepth 100000 in
set_option maxHeartbeats 1000000 in
theorem cmp_big {x y : Int} {p q : Option Addr} {n m : Int} {w : World} (hx : IntV w (.agg #[.int .i64 x, .pointer p]) n) (hy : IntV w (.agg #[.int .i64 y, .pointer q]) m) (hc : ¬ (p = none ∧ q = none)) (bn bm : Bool) (hbn : decide (n < 0) = bn) (hbm : decide (m < 0) = bm) : Calls Tryz.prog 122 #[.agg #[.int .i64 x, .pointer p], .agg #[.int .i64 y, .pointer q]] w (RetI w (cmpInt n m)) := by
  have hnx : ∀ w', Below w.heap.size w w' → Calls Tryz.prog 112 #[.agg #[.int .i64 x, .pointer p]] w' (RetBool w' bn) := fun w' hb => by rw [← hbn]; exact negative_any (hx.below hb)
  have hny : ∀ w', Below w.heap.size w w' → Calls Tryz.prog 112 #[.agg #[.int .i64 y, .pointer q]] w' (RetBool w' bm) := fun w' hb => by rw [← hbm]; exact negative_any (hy.below hb)
  obtain ⟨w0, hw0, hb0, kx, ky, hsz⟩ := pair_boxes w x p y q
  have HVX := Lib.hid hx
  have HVY := Lib.hid hy
  have e1 := kx.c0
  have e2 := kx.c1
  have e3 := ky.c0
  have e4 := ky.c1
  have s1 : w0.drew.cell? ⟨w.heap.size, 0, none⟩ = some (.int .i64 x) := kx.c0
  have s2 : w0.drew.cell? ⟨w.heap.size, 1, none⟩ = some (.pointer p) := kx.c1
  have s3 : w0.drew.cell? ⟨w.heap.size + 1, 0, none⟩ = some (.int .i64 y) := ky.c0
  have s4 : w0.drew.cell? ⟨w.heap.size + 1, 1, none⟩ = some (.pointer q) := ky.c1
  have s5 := hb0.drew
  have HSZ := Lib.hid hsz
  have HC := Lib.hid hc
  have HNX := Lib.hid hnx
  have HNY := Lib.hid hny
  have HBN := Lib.hid (And.intro hbn hbm)
  clear hc hnx hny hbn hbm
  clear kx ky hb0 hx hy hsz
  cases p with
  | none =>
    cases q with
    | none => exact absurd ⟨rfl, rfl⟩ HC.out
    | some b =>
      cases bn <;> cases bm
      all_goals
        go_enter Tryz.func122, Tryz.ntmps122
        go_wp2_with fail
        go_region_held3 (fun w' => w'.cell? ⟨w.heap.size, 0, none⟩ = some (.int .i64 x) ∧ w'.cell? ⟨w.heap.size, 1, none⟩ = some (.pointer none) ∧ w'.cell? ⟨w.heap.size + 1, 0, none⟩ = some (.int .i64 y) ∧ w'.cell? ⟨w.heap.size + 1, 1, none⟩ = some (.pointer (some b)) ∧ Below w.heap.size w w') (first | exact ⟨s1, s2, s3, s4, s5⟩ | exact s_store4 s1 s2 s3 s4 s5 (by omega) (by omega) (by omega) | fail) (first | (go_at_call 112; (with_reducible refine (HNX.out _ s5).mono ?_); rintro e w1 ⟨rfl, hb1⟩; obtain ⟨s1, s2, s3, s4, s5⟩ := s_step4 s1 s2 s3 s4 s5 hb1) | (go_at_call 112; (with_reducible refine (HNY.out _ s5).mono ?_); rintro e w2 ⟨rfl, hb2⟩; obtain ⟨s1, s2, s3, s4, s5⟩ := s_step4 s1 s2 s3 s4 s5 hb2) | fail)
        clear e1 e2 e3 e4
        go_wp2_with fail
      · refine (HNX.out _ s5).mono ?_
        rintro e w3 ⟨rfl, hb3⟩
        obtain ⟨s1, s2, s3, s4, s5⟩ := s_step4 s1 s2 s3 s4 s5 hb3
        go_wp2_with fail
        obtain ⟨s1, s2, s3, s4, s5⟩ := s_drew4 s1 s2 s3 s4 s5
        go_region_held3 (fun w' => w'.cell? ⟨w.heap.size, 0, none⟩ = some (.int .i64 x) ∧ w'.cell? ⟨w.heap.size, 1, none⟩ = some (.pointer none) ∧ w'.cell? ⟨w.heap.size + 1, 0, none⟩ = some (.int .i64 y) ∧ w'.cell? ⟨w.heap.size + 1, 1, none⟩ = some (.pointer (some b)) ∧ Below w.heap.size w w') (first | exact ⟨s1, s2, s3, s4, s5⟩ | exact s_store4 s1 s2 s3 s4 s5 (by omega) (by omega) (by omega) | fail) (first | (go_at_call 114; (with_reducible refine (natural_any (HVX.out.below s5)).mono ?_); rintro e w4 ⟨v3, rfl, hv3, hb4⟩; obtain ⟨s1, s2, s3, s4, s5⟩ := s_step4 s1 s2 s3 s4 s5 hb4) | (go_at_call 114; (with_reducible refine (natural_any (HVY.out.below s5)).mono ?_); rintro e w5 ⟨v4, rfl, hv4, hb5⟩; obtain ⟨s1, s2, s3, s4, s5⟩ := s_step4 s1 s2 s3 s4 s5 hb5; have hv3 := hv3.below hb5) | (go_at_call 155; (with_reducible refine (compare_at hv3 hv4 (cmp_nn HBN.out.1 HBN.out.2)).mono ?_); rintro e w6 ⟨rfl, hb6⟩; obtain ⟨s1, s2, s3, s4, s5⟩ := s_step4 s1 s2 s3 s4 s5 hb6) | fail)
        have HF := Lib.hid s5
        clear s1 s2 s3 s4 s5 hb1 hb2 hb3 hb4 hb5 hb6 hv3 hv4
        go_wp2_with fail
        go_ret
        exact ⟨rfl, HF.out⟩
      · obtain ⟨s1, s2, s3, s4, s5⟩ := s_drew4 s1 s2 s3 s4 s5
        go_region_held3 (fun w' => w'.cell? ⟨w.heap.size, 0, none⟩ = some (.int .i64 x) ∧ w'.cell? ⟨w.heap.size, 1, none⟩ = some (.pointer none) ∧ w'.cell? ⟨w.heap.size + 1, 0, none⟩ = some (.int .i64 y) ∧ w'.cell? ⟨w.heap.size + 1, 1, none⟩ = some (.pointer (some b)) ∧ Below w.heap.size w w') (first | exact ⟨s1, s2, s3, s4, s5⟩ | exact s_store4 s1 s2 s3 s4 s5 (by omega) (by omega) (by omega) | fail) (first | (go_at_call 65; (with_reducible refine (sign_any (HVX.out.below s5)).mono ?_); rintro e w3 ⟨rfl, hb3⟩; obtain ⟨s1, s2, s3, s4, s5⟩ := s_step4 s1 s2 s3 s4 s5 hb3) | (go_at_call 65; (with_reducible refine (sign_any (HVY.out.below s5)).mono ?_); rintro e w4 ⟨rfl, hb4⟩; obtain ⟨s1, s2, s3, s4, s5⟩ := s_step4 s1 s2 s3 s4 s5 hb4) | (go_at_call 154; (with_reducible refine (cmp_int_at (cmp_sg (n := n) (m := m) (by rw [HBN.out.1, HBN.out.2]; decide)) _).mono ?_); rintro e w5 ⟨rfl, rfl⟩) | fail)
        have HF := Lib.hid s5
        clear s1 s2 s3 s4 s5 hb1 hb2 hb3 hb4
        go_wp2_with fail
        go_ret
        exact ⟨rfl, HF.out⟩
      · obtain ⟨s1, s2, s3, s4, s5⟩ := s_drew4 s1 s2 s3 s4 s5
        go_region_held3 (fun w' => w'.cell? ⟨w.heap.size, 0, none⟩ = some (.int .i64 x) ∧ w'.cell? ⟨w.heap.size, 1, none⟩ = some (.pointer none) ∧ w'.cell? ⟨w.heap.size + 1, 0, none⟩ = some (.int .i64 y) ∧ w'.cell? ⟨w.heap.size + 1, 1, none⟩ = some (.pointer (some b)) ∧ Below w.heap.size w w') (first | exact ⟨s1, s2, s3, s4, s5⟩ | exact s_store4 s1 s2 s3 s4 s5 (by omega) (by omega) (by omega) | fail) (first | (go_at_call 65; (with_reducible refine (sign_any (HVX.out.below s5)).mono ?_); rintro e w3 ⟨rfl, hb3⟩; obtain ⟨s1, s2, s3, s4, s5⟩ := s_step4 s1 s2 s3 s4 s5 hb3) | (go_at_call 65; (with_reducible refine (sign_any (HVY.out.below s5)).mono ?_); rintro e w4 ⟨rfl, hb4⟩; obtain ⟨s1, s2, s3, s4, s5⟩ := s_step4 s1 s2 s3 s4 s5 hb4) | (go_at_call 154; (with_reducible refine (cmp_int_at (cmp_sg (n := n) (m := m) (by rw [HBN.out.1, HBN.out.2]; decide)) _).mono ?_); rintro e w5 ⟨rfl, rfl⟩) | fail)
        have HF := Lib.hid s5
        clear s1 s2 s3 s4 s5 hb1 hb2 hb3 hb4
        go_wp2_with fail
        go_ret
        exact ⟨rfl, HF.out⟩
      · refine (HNX.out _ s5).mono ?_
        rintro e w3 ⟨rfl, hb3⟩
        obtain ⟨s1, s2, s3, s4, s5⟩ := s_step4 s1 s2 s3 s4 s5 hb3
        go_wp2_with fail
        obtain ⟨s1, s2, s3, s4, s5⟩ := s_drew4 s1 s2 s3 s4 s5
        go_region_held3 (fun w' => w'.cell? ⟨w.heap.size, 0, none⟩ = some (.int .i64 x) ∧ w'.cell? ⟨w.heap.size, 1, none⟩ = some (.pointer none) ∧ w'.cell? ⟨w.heap.size + 1, 0, none⟩ = some (.int .i64 y) ∧ w'.cell? ⟨w.heap.size + 1, 1, none⟩ = some (.pointer (some b)) ∧ Below w.heap.size w w') (first | exact ⟨s1, s2, s3, s4, s5⟩ | exact s_store4 s1 s2 s3 s4 s5 (by omega) (by omega) (by omega) | fail) (first | (go_at_call 114; (with_reducible refine (natural_any (HVY.out.below s5)).mono ?_); rintro e w4 ⟨v3, rfl, hv3, hb4⟩; obtain ⟨s1, s2, s3, s4, s5⟩ := s_step4 s1 s2 s3 s4 s5 hb4) | (go_at_call 114; (with_reducible refine (natural_any (HVX.out.below s5)).mono ?_); rintro e w5 ⟨v4, rfl, hv4, hb5⟩; obtain ⟨s1, s2, s3, s4, s5⟩ := s_step4 s1 s2 s3 s4 s5 hb5; have hv3 := hv3.below hb5) | (go_at_call 155; (with_reducible refine (compare_at hv3 hv4 (cmp_pp HBN.out.1 HBN.out.2)).mono ?_); rintro e w6 ⟨rfl, hb6⟩; obtain ⟨s1, s2, s3, s4, s5⟩ := s_step4 s1 s2 s3 s4 s5 hb6) | fail)
        have HF := Lib.hid s5
        clear s1 s2 s3 s4 s5 hb1 hb2 hb3 hb4 hb5 hb6 hv3 hv4
        go_wp2_with fail
        go_ret
        exact ⟨rfl, HF.out⟩
  | some a =>
      cases bn <;> cases bm
      all_goals
        go_enter Tryz.func122, Tryz.ntmps122
        go_wp2_with fail
        go_region_held3 (fun w' => w'.cell? ⟨w.heap.size, 0, none⟩ = some (.int .i64 x) ∧ w'.cell? ⟨w.heap.size, 1, none⟩ = some (.pointer (some a)) ∧ w'.cell? ⟨w.heap.size + 1, 0, none⟩ = some (.int .i64 y) ∧ w'.cell? ⟨w.heap.size + 1, 1, none⟩ = some (.pointer q) ∧ Below w.heap.size w w') (first | exact ⟨s1, s2, s3, s4, s5⟩ | exact s_store4 s1 s2 s3 s4 s5 (by omega) (by omega) (by omega) | fail) (first | (go_at_call 112; (with_reducible refine (HNX.out _ s5).mono ?_); rintro e w1 ⟨rfl, hb1⟩; obtain ⟨s1, s2, s3, s4, s5⟩ := s_step4 s1 s2 s3 s4 s5 hb1) | (go_at_call 112; (with_reducible refine (HNY.out _ s5).mono ?_); rintro e w2 ⟨rfl, hb2⟩; obtain ⟨s1, s2, s3, s4, s5⟩ := s_step4 s1 s2 s3 s4 s5 hb2) | fail)
        clear e1 e2 e3 e4
        go_wp2_with fail
      · refine (HNX.out _ s5).mono ?_
        rintro e w3 ⟨rfl, hb3⟩
        obtain ⟨s1, s2, s3, s4, s5⟩ := s_step4 s1 s2 s3 s4 s5 hb3
        go_wp2_with fail
        obtain ⟨s1, s2, s3, s4, s5⟩ := s_drew4 s1 s2 s3 s4 s5
        go_region_held3 (fun w' => w'.cell? ⟨w.heap.size, 0, none⟩ = some (.int .i64 x) ∧ w'.cell? ⟨w.heap.size, 1, none⟩ = some (.pointer (some a)) ∧ w'.cell? ⟨w.heap.size + 1, 0, none⟩ = some (.int .i64 y) ∧ w'.cell? ⟨w.heap.size + 1, 1, none⟩ = some (.pointer q) ∧ Below w.heap.size w w') (first | exact ⟨s1, s2, s3, s4, s5⟩ | exact s_store4 s1 s2 s3 s4 s5 (by omega) (by omega) (by omega) | fail) (first | (go_at_call 114; (with_reducible refine (natural_any (HVX.out.below s5)).mono ?_); rintro e w4 ⟨v3, rfl, hv3, hb4⟩; obtain ⟨s1, s2, s3, s4, s5⟩ := s_step4 s1 s2 s3 s4 s5 hb4) | (go_at_call 114; (with_reducible refine (natural_any (HVY.out.below s5)).mono ?_); rintro e w5 ⟨v4, rfl, hv4, hb5⟩; obtain ⟨s1, s2, s3, s4, s5⟩ := s_step4 s1 s2 s3 s4 s5 hb5; have hv3 := hv3.below hb5) | (go_at_call 155; (with_reducible refine (compare_at hv3 hv4 (cmp_nn HBN.out.1 HBN.out.2)).mono ?_); rintro e w6 ⟨rfl, hb6⟩; obtain ⟨s1, s2, s3, s4, s5⟩ := s_step4 s1 s2 s3 s4 s5 hb6) | fail)
        have HF := Lib.hid s5
        clear s1 s2 s3 s4 s5 hb1 hb2 hb3 hb4 hb5 hb6 hv3 hv4
        go_wp2_with fail
        go_ret
        exact ⟨rfl, HF.out⟩
      · obtain ⟨s1, s2, s3, s4, s5⟩ := s_drew4 s1 s2 s3 s4 s5
        go_region_held3 (fun w' => w'.cell? ⟨w.heap.size, 0, none⟩ = some (.int .i64 x) ∧ w'.cell? ⟨w.heap.size, 1, none⟩ = some (.pointer (some a)) ∧ w'.cell? ⟨w.heap.size + 1, 0, none⟩ = some (.int .i64 y) ∧ w'.cell? ⟨w.heap.size + 1, 1, none⟩ = some (.pointer q) ∧ Below w.heap.size w w') (first | exact ⟨s1, s2, s3, s4, s5⟩ | exact s_store4 s1 s2 s3 s4 s5 (by omega) (by omega) (by omega) | fail) (first | (go_at_call 65; (with_reducible refine (sign_any (HVX.out.below s5)).mono ?_); rintro e w3 ⟨rfl, hb3⟩; obtain ⟨s1, s2, s3, s4, s5⟩ := s_step4 s1 s2 s3 s4 s5 hb3) | (go_at_call 65; (with_reducible refine (sign_any (HVY.out.below s5)).mono ?_); rintro e w4 ⟨rfl, hb4⟩; obtain ⟨s1, s2, s3, s4, s5⟩ := s_step4 s1 s2 s3 s4 s5 hb4) | (go_at_call 154; (with_reducible refine (cmp_int_at (cmp_sg (n := n) (m := m) (by rw [HBN.out.1, HBN.out.2]; decide)) _).mono ?_); rintro e w5 ⟨rfl, rfl⟩) | fail)
        have HF := Lib.hid s5
        clear s1 s2 s3 s4 s5 hb1 hb2 hb3 hb4
        go_wp2_with fail
        go_ret
        exact ⟨rfl, HF.out⟩
      · obtain ⟨s1, s2, s3, s4, s5⟩ := s_drew4 s1 s2 s3 s4 s5
        go_region_held3 (fun w' => w'.cell? ⟨w.heap.size, 0, none⟩ = some (.int .i64 x) ∧ w'.cell? ⟨w.heap.size, 1, none⟩ = some (.pointer (some a)) ∧ w'.cell? ⟨w.heap.size + 1, 0, none⟩ = some (.int .i64 y) ∧ w'.cell? ⟨w.heap.size + 1, 1, none⟩ = some (.pointer q) ∧ Below w.heap.size w w') (first | exact ⟨s1, s2, s3, s4, s5⟩ | exact s_store4 s1 s2 s3 s4 s5 (by omega) (by omega) (by omega) | fail) (first | (go_at_call 65; (with_reducible refine (sign_any (HVX.out.below s5)).mono ?_); rintro e w3 ⟨rfl, hb3⟩; obtain ⟨s1, s2, s3, s4, s5⟩ := s_step4 s1 s2 s3 s4 s5 hb3) | (go_at_call 65; (with_reducible refine (sign_any (HVY.out.below s5)).mono ?_); rintro e w4 ⟨rfl, hb4⟩; obtain ⟨s1, s2, s3, s4, s5⟩ := s_step4 s1 s2 s3 s4 s5 hb4) | (go_at_call 154; (with_reducible refine (cmp_int_at (cmp_sg (n := n) (m := m) (by rw [HBN.out.1, HBN.out.2]; decide)) _).mono ?_); rintro e w5 ⟨rfl, rfl⟩) | fail)
        have HF := Lib.hid s5
        clear s1 s2 s3 s4 s5 hb1 hb2 hb3 hb4
        go_wp2_with fail
        go_ret
        exact ⟨rfl, HF.out⟩
      · refine (HNX.out _ s5).mono ?_
        rintro e w3 ⟨rfl, hb3⟩
        obtain ⟨s1, s2, s3, s4, s5⟩ := s_step4 s1 s2 s3 s4 s5 hb3
        go_wp2_with fail
        obtain ⟨s1, s2, s3, s4, s5⟩ := s_drew4 s1 s2 s3 s4 s5
        go_region_held3 (fun w' => w'.cell? ⟨w.heap.size, 0, none⟩ = some (.int .i64 x) ∧ w'.cell? ⟨w.heap.size, 1, none⟩ = some (.pointer (some a)) ∧ w'.cell? ⟨w.heap.size + 1, 0, none⟩ = some (.int .i64 y) ∧ w'.cell? ⟨w.heap.size + 1, 1, none⟩ = some (.pointer q) ∧ Below w.heap.size w w') (first | exact ⟨s1, s2, s3, s4, s5⟩ | exact s_store4 s1 s2 s3 s4 s5 (by omega) (by omega) (by omega) | fail) (first | (go_at_call 114; (with_reducible refine (natural_any (HVY.out.below s5)).mono ?_); rintro e w4 ⟨v3, rfl, hv3, hb4⟩; obtain ⟨s1, s2, s3, s4, s5⟩ := s_step4 s1 s2 s3 s4 s5 hb4) | (go_at_call 114; (with_reducible refine (natural_any (HVX.out.below s5)).mono ?_); rintro e w5 ⟨v4, rfl, hv4, hb5⟩; obtain ⟨s1, s2, s3, s4, s5⟩ := s_step4 s1 s2 s3 s4 s5 hb5; have hv3 := hv3.below hb5) | (go_at_call 155; (with_reducible refine (compare_at hv3 hv4 (cmp_pp HBN.out.1 HBN.out.2)).mono ?_); rintro e w6 ⟨rfl, hb6⟩; obtain ⟨s1, s2, s3, s4, s5⟩ := s_step4 s1 s2 s3 s4 s5 hb6) | fail)
        have HF := Lib.hid s5
        clear s1 s2 s3 s4 s5 hb1 hb2 hb3 hb4 hb5 hb6 hv3 hv4
        go_wp2_with fail
        go_ret
        exact ⟨rfl, HF.out⟩
set_option maxRecDepth 100000 in
set_option maxHeartbeats 1000000 in
theorem compareI_any {vx vy : Value} {n m : Int} {w : World} (hx : IntV w vx n) (hy : IntV w vy m) : Calls Tryz.prog 122 #[vx, vy] w (RetI w (cmpInt n m)) := by
  obtain ⟨x, p, rfl⟩ := hx.two
  obtain ⟨y, q, rfl⟩ := hy.two
  by_cases h3 : p = none ∧ q = none
  · obtain ⟨rfl, rfl⟩ := h3
    rcases hx.cs with ⟨sx, ex⟩ | ⟨a, ex, _⟩
    · rcases hy.cs with ⟨sy, ey⟩ | ⟨b, ey, _⟩
      · simp at ex ey
        subst ex ey
        exact cmp_small
      · simp at ey
    · simp at ex
  · exact cmp_big hx hy h3 _ _ rfl rfl
end Go.Proofs.YtekghemhccfhkaaGreatDoor
