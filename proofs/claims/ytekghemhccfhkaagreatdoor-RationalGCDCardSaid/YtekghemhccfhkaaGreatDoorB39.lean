/-
  Walks of the program's functions: LawGCD.
-/
import Derived.Test.YtekghemhccfhkaaGreatDoorB37
namespace Go.Big
open Go Go.RowKit
theorem rgcd_sz {a b : Rat} {K L : Nat} (ha : Sz K a) (hb : Sz L b) : Sz (K + L) (rgcd a b) := by
  refine ⟨?_, ?_⟩
  · rw [rgcd_num, Int.natAbs_natCast]
    rcases Nat.eq_zero_or_pos a.num.natAbs with h | h
    · rw [h, Nat.gcd_zero_left]; exact Nat.lt_of_lt_of_le hb.1 (bw_mono (by omega))
    · exact Nat.lt_of_le_of_lt (Nat.le_of_dvd h (Nat.gcd_dvd_left _ _)) (Nat.lt_of_lt_of_le ha.1 (bw_mono (by omega)))
  · rw [rgcd_den]
    exact mul_lt_pow ha.2 (Nat.lt_of_le_of_lt (Nat.div_le_self _ _) hb.2)
theorem rgcd_meas {a b : Rat} (h : rgcd a b ≠ 0) : Meas a b (rgcd a b) := gcd_meas (rgcd_num a b) (rgcd_den a b) h
theorem rgcd_one {m n : Int} (h : Nat.gcd m.natAbs n.natAbs = 1) : rgcd (m : Rat) (n : Rat) = 1 := gcd_int_one h (rgcd_num _ _) (rgcd_den _ _)
theorem rgcd_zero {a b : Rat} (h : rgcd a b = 0) : a = 0 ∧ b = 0 := gcd_zero (rgcd_num a b) h
theorem rgcd_zero' : rgcd 0 0 = 0 := Rat.num_eq_zero.1 rfl
theorem rgcd_add {a b : Rat} (k : Int) (h : rgcd a b ≠ 0) : rgcd b (a + b * k) = rgcd a b := by
  have h2 : rgcd b (a + b * k) ≠ 0 := by
    intro e
    have h3 := rgcd_zero e
    have h4 : a = 0 := by have := h3.2; rw [h3.1] at this; grind
    exact h (by rw [h4, h3.1]; exact rgcd_zero')
  exact (rgcd_meas h2).unique ((rgcd_meas h).add k)
theorem s1 : rs 1 = ⟨#[49]⟩ := rs_rd (by kernel_rfl)
end Go.Big
namespace Go.Proofs.YtekghemhccfhkaaGreatDoor
open Go.RowKit Go.Big
set_option maxRecDepth 100000 in
set_option maxHeartbeats 4000000 in
theorem rationalGCD_walk (a b : ByteArray) {n : Int} (hn : IsS n) {w : World} (hT : TabsA w) : Calls Tryz.prog 12 #[.string a, .string b, .int .i64 n] w (RetBool w true) := by
  have HT := Lib.hid hT
  have HI := Lib.hid hn
  obtain ⟨o, ho⟩ : ∃ o, S100 [a, b] = o := ⟨_, rfl⟩
  have HO := Lib.hid ho
  obtain ⟨w0, hw0⟩ : ∃ w0, w.alloc (.cells #[.string a, .string b] 9) = w0 := ⟨_, rfl⟩
  have hr := heap_alloc_new w (.cells #[.string a, .string b] 9)
  have hb0 : Below w.heap.size w w0 := by rw [← hw0]; exact (Below.refl _ _).alloc' _
  rw [hw0] at hr
  have HSH := Lib.hid (short2 (cap := 2) (g := w.heap.size) (w := w0) (by rw [cell_rowB hr]; rfl) (by rw [cell_rowB hr]; rfl) HO.out)
  have HT := Lib.hid (HT.out.below hb0)
  have HB := Lib.hid hb0
  clear hT ho hr hb0 hn
  cases o with
  | false =>
    go_enter Tryz.func12, Tryz.ntmps12
    go_wp2_with fail
    refine HSH.out.mono ?_
    rintro e w1 ⟨rfl, rfl⟩
    go_wp2_with fail
    refine (awake_any HT.out).mono ?_
    rintro e w2 ⟨rfl, hb2⟩
    have HB := Lib.hid (below_trans HB.out hb2)
    clear hb2
    go_wp2_with fail
    go_ret
    exact ⟨rfl, HB.out⟩
  | true =>
    have hsz : ∀ x ∈ [a, b], x.size ≤ 100 := of_decide_eq_true HO.out
    obtain ⟨A, hA⟩ : ∃ A, qv a = A := ⟨_, rfl⟩
    obtain ⟨B, hB⟩ : ∃ B, qv b = B := ⟨_, rfl⟩
    have ga : Nmb 6 a := nmb_arg (hsz a (by simp))
    have gb : Nmb 6 b := nmb_arg (hsz b (by simp))
    have hza : Sz 6 A := by rw [← hA]; exact ga.2
    have hzb : Sz 6 B := by rw [← hB]; exact gb.2
    have hzg := rgcd_sz hza hzb
    obtain ⟨G, hG⟩ : ∃ G, rgcd A B = G := ⟨_, rfl⟩
    rw [hG] at hzg
    obtain ⟨S, hS⟩ : ∃ s, rs G = s := ⟨_, rfl⟩
    have qS : qv S = G := by rw [← hS]; exact qv_rs _
    have gS : Nmb 12 S := by rw [← hS]; exact nmb_rs (by decide) (by decide) hzg
    have GG := Lib.hid (show Nmb 6 a ∧ Nmb 6 b ∧ Nmb 12 S from ⟨ga, gb, gS⟩)
    have E1 := Lib.hid (show rs (rgcd (qv a) (qv b)) = S from by rw [← hS, hA, hB, hG])
    have Z1 := Lib.hid (show Sz 31 (rgcd (qv a) (qv b)) from by rw [hA, hB, hG]; exact hzg.mono (by decide))
    by_cases h0 : G = 0
    · subst h0
      have h00 := rgcd_zero hG
      have E2 := Lib.hid (show Int.sign (qv S).num = 0 from by rw [qS]; rfl)
      have E3 := Lib.hid (show Int.sign (qv a).num = 0 from by rw [hA, h00.1]; rfl)
      have E4 := Lib.hid (show Int.sign (qv b).num = 0 from by rw [hB, h00.2]; rfl)
      clear hsz hA hB hza hzb hzg hG qS gS h00 ga gb hS
      go_enter Tryz.func12, Tryz.ntmps12
      go_wp2_with fail
      refine HSH.out.mono ?_
      rintro e w1 ⟨rfl, rfl⟩
      clear HSH
      go_wp2_with fail
      refine (gcdC (K := 6) GG.out.1 GG.out.2.1 (by decide) Z1.out E1.out HT.out).mono ?_
      rintro e w2 ⟨rfl, hb2⟩
      have HT := Lib.hid (HT.out.below hb2)
      have HB := Lib.hid (below_trans HB.out hb2)
      clear hb2
      go_wp2_with fail
      refine (signC GG.out.2.2 E2.out HT.out).mono ?_
      rintro e w3 ⟨rfl, hb3⟩
      have HT := Lib.hid (HT.out.below hb3)
      have HB := Lib.hid (below_trans HB.out hb3)
      clear hb3
      go_wp2_with fail
      refine (signC GG.out.1 E3.out HT.out).mono ?_
      rintro e w4 ⟨rfl, hb4⟩
      have HT := Lib.hid (HT.out.below hb4)
      have HB := Lib.hid (below_trans HB.out hb4)
      clear hb4
      go_wp2_with fail
      refine (signC GG.out.2.1 E4.out HT.out).mono ?_
      rintro e w5 ⟨rfl, hb5⟩
      have HT := Lib.hid (HT.out.below hb5)
      have HB := Lib.hid (below_trans HB.out hb5)
      clear hb5
      go_wp2_with fail
      refine (awake_any HT.out).mono ?_
      rintro e w9 ⟨rfl, hb9⟩
      have HB := Lib.hid (below_trans HB.out hb9)
      clear hb9
      go_wp2_with fail
      go_ret
      exact ⟨rfl, HB.out⟩
    · have hg0 : rgcd A B ≠ 0 := by rw [hG]; exact h0
      obtain ⟨hpos, m, k, hm, hk, hmk⟩ := rgcd_meas hg0
      have hadd := fun j : Int => rgcd_add j hg0
      rw [hG] at hpos hm hk hadd
      have em : A * G⁻¹ = (m : Rat) := int_of_mul_inv hm h0
      have ek : B * G⁻¹ = (k : Rat) := int_of_mul_inv hk h0
      have szm : Sz 18 (m : Rat) := by rw [← em]; exact hza.mul (hzg.inv h0)
      have szk : Sz 18 (k : Rat) := by rw [← ek]; exact hzb.mul (hzg.inv h0)
      have lm : m.natAbs < Bw ^ 18 := by have := szm.1; rwa [Rat.num_intCast] at this
      have lk : k.natAbs < Bw ^ 18 := by have := szk.1; rwa [Rat.num_intCast] at this
      obtain ⟨X, hX⟩ : ∃ s, rs (m : Rat) = s := ⟨_, rfl⟩
      have qX : qv X = (m : Rat) := by rw [← hX]; exact qv_rs _
      have gX : Nmb 18 X := by rw [← hX]; exact nmb_int (by decide) (by decide) lm
      obtain ⟨Y, hY⟩ : ∃ s, rs (k : Rat) = s := ⟨_, rfl⟩
      have qY : qv Y = (k : Rat) := by rw [← hY]; exact qv_rs _
      have gY : Nmb 18 Y := by rw [← hY]; exact nmb_int (by decide) (by decide) lk
      have ln : n.natAbs < Bw ^ 1 := by have := HI.out; unfold IsS at this; have e : Bw ^ 1 = 18446744073709551616 := by decide
                                        omega
      obtain ⟨V, hV⟩ : ∃ s, rs (n : Rat) = s := ⟨_, rfl⟩
      have qV : qv V = (n : Rat) := by rw [← hV]; exact qv_rs _
      have gV : Nmb 1 V := by rw [← hV]; exact nmb_int (by decide) (by decide) ln
      obtain ⟨U, hU⟩ : ∃ s, rs (B * n) = s := ⟨_, rfl⟩
      have qU : qv U = B * n := by rw [← hU]; exact qv_rs _
      have szU : Sz 7 (B * (n : Rat)) := hzb.mul (Sz.int ln (by decide))
      have gU : Nmb 7 U := by rw [← hU]; exact nmb_rs (by decide) (by decide) szU
      obtain ⟨Q, hQ⟩ : ∃ s, rs (A + B * n) = s := ⟨_, rfl⟩
      have qQ : qv Q = A + B * n := by rw [← hQ]; exact qv_rs _
      have gQ : Nmb 14 Q := by rw [← hQ]; exact nmb_rs (by decide) (by decide) ((hza.add szU).mono (by decide))
      have GX := Lib.hid (show Nmb 18 X ∧ Nmb 18 Y ∧ Nmb 1 V ∧ Nmb 7 U ∧ Nmb 14 Q from ⟨gX, gY, gV, gU, gQ⟩)
      have E2 := Lib.hid (show Int.sign (qv S).num = 1 from by rw [qS]; exact Int.sign_eq_one_of_pos (num_pos_of hpos))
      have N0 := Lib.hid (show qv S ≠ 0 from by rw [qS]; exact h0)
      have E3 := Lib.hid (show rs (qv a * (qv S)⁻¹) = X from by rw [← hX, hA, qS, em])
      have Z3 := Lib.hid (show Sz 31 (qv a * (qv S)⁻¹) from by rw [hA, qS, em]; exact szm.mono (by decide))
      have E4 := Lib.hid (show rs (qv b * (qv S)⁻¹) = Y from by rw [← hY, hB, qS, ek])
      have Z4 := Lib.hid (show Sz 31 (qv b * (qv S)⁻¹) from by rw [hB, qS, ek]; exact szk.mono (by decide))
      have E5 := Lib.hid (show rs ((qv X).floor : Rat) = X from by rw [← hX, qv_rs, Rat.floor_intCast])
      have E6 := Lib.hid (show rs ((qv Y).floor : Rat) = Y from by rw [← hY, qv_rs, Rat.floor_intCast])
      have E7 := Lib.hid (show rs (rgcd (qv X) (qv Y)) = ⟨#[49]⟩ from by rw [qX, qY, rgcd_one hmk, s1])
      have Z7 := Lib.hid (show Sz 31 (rgcd (qv X) (qv Y)) from by rw [qX, qY, rgcd_one hmk]; exact sz_lit (by kernel_rfl) (by kernel_rfl) (by decide))
      have E8 := Lib.hid (show rs (qv b * qv V) = U from by rw [← hU, hB, qV])
      have E9 := Lib.hid (show rs (qv a + qv U) = Q from by rw [← hQ, hA, qU])
      have E10 := Lib.hid (show rs (rgcd (qv b) (qv Q)) = S from by rw [← hS, hB, qQ, hadd])
      have Z10 := Lib.hid (show Sz 31 (rgcd (qv b) (qv Q)) from by rw [hB, qQ, hadd]; exact hzg.mono (by decide))
      have HV := Lib.hid hV
      clear hsz hA hB hza hzb hzg hG qS gS ga gb hS hg0 hpos hm hk hmk hadd em ek szm szk lm lk hX qX gX hY qY gY ln hV qV gV hU qU szU gU hQ qQ gQ h0
      go_enter Tryz.func12, Tryz.ntmps12
      go_wp2_with fail
      refine HSH.out.mono ?_
      rintro e w1 ⟨rfl, rfl⟩
      clear HSH
      go_wp2_with fail
      refine (gcdC (K := 6) GG.out.1 GG.out.2.1 (by decide) Z1.out E1.out HT.out).mono ?_
      rintro e w2 ⟨rfl, hb2⟩
      have HT := Lib.hid (HT.out.below hb2)
      have HB := Lib.hid (below_trans HB.out hb2)
      clear hb2
      go_wp2_with fail
      refine (signC GG.out.2.2 E2.out HT.out).mono ?_
      rintro e w3 ⟨rfl, hb3⟩
      have HT := Lib.hid (HT.out.below hb3)
      have HB := Lib.hid (below_trans HB.out hb3)
      clear hb3
      go_wp2_with fail
      refine (divC' (K := 12) (Nmb.mono GG.out.1 (by decide)) GG.out.2.2 (by decide) N0.out Z3.out E3.out HT.out).mono ?_
      rintro e w4 ⟨rfl, hb4⟩
      have HT := Lib.hid (HT.out.below hb4)
      have HB := Lib.hid (below_trans HB.out hb4)
      clear hb4
      go_wp2_with fail
      refine (divC' (K := 12) (Nmb.mono GG.out.2.1 (by decide)) GG.out.2.2 (by decide) N0.out Z4.out E4.out HT.out).mono ?_
      rintro e w5 ⟨rfl, hb5⟩
      have HT := Lib.hid (HT.out.below hb5)
      have HB := Lib.hid (below_trans HB.out hb5)
      clear hb5
      go_wp2_with fail
      refine (floorC GX.out.1 (by decide) E5.out HT.out).mono ?_
      rintro e w6 ⟨rfl, hb6⟩
      have HT := Lib.hid (HT.out.below hb6)
      have HB := Lib.hid (below_trans HB.out hb6)
      clear hb6
      go_wp2_with fail
      refine (floorC GX.out.2.1 (by decide) E6.out HT.out).mono ?_
      rintro e w7 ⟨rfl, hb7⟩
      have HT := Lib.hid (HT.out.below hb7)
      have HB := Lib.hid (below_trans HB.out hb7)
      clear hb7
      go_wp2_with fail
      refine (gcdC (K := 18) GX.out.1 GX.out.2.1 (by decide) Z7.out E7.out HT.out).mono ?_
      rintro e w8 ⟨rfl, hb8⟩
      have HT := Lib.hid (HT.out.below hb8)
      have HB := Lib.hid (below_trans HB.out hb8)
      clear hb8
      go_wp2_with fail
      refine (fromIntC HI.out HV.out HT.out).mono ?_
      rintro e w9 ⟨rfl, hb9⟩
      have HT := Lib.hid (HT.out.below hb9)
      have HB := Lib.hid (below_trans HB.out hb9)
      clear hb9
      go_wp2_with fail
      refine (mulC (K := 7) (Nmb.mono GG.out.2.1 (by decide)) (Nmb.mono GX.out.2.2.1 (by decide)) (by decide) E8.out HT.out).mono ?_
      rintro e w10 ⟨rfl, hb10⟩
      have HT := Lib.hid (HT.out.below hb10)
      have HB := Lib.hid (below_trans HB.out hb10)
      clear hb10
      go_wp2_with fail
      refine (addC (K := 7) (Nmb.mono GG.out.1 (by decide)) GX.out.2.2.2.1 (by decide) E9.out HT.out).mono ?_
      rintro e w11 ⟨rfl, hb11⟩
      have HT := Lib.hid (HT.out.below hb11)
      have HB := Lib.hid (below_trans HB.out hb11)
      clear hb11
      go_wp2_with fail
      refine (gcdC (K := 14) (Nmb.mono GG.out.2.1 (by decide)) GX.out.2.2.2.2 (by decide) Z10.out E10.out HT.out).mono ?_
      rintro e w12 ⟨rfl, hb12⟩
      have HT := Lib.hid (HT.out.below hb12)
      have HB := Lib.hid (below_trans HB.out hb12)
      clear hb12
      go_wp2_with fail
      refine (awake_any HT.out).mono ?_
      rintro e w19 ⟨rfl, hb19⟩
      have HB := Lib.hid (below_trans HB.out hb19)
      clear hb19
      go_wp2_with fail
      go_ret
      exact ⟨rfl, HB.out⟩
end Go.Proofs.YtekghemhccfhkaaGreatDoor
