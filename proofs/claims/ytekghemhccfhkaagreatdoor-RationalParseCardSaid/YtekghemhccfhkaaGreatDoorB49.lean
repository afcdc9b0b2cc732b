/-
  Walks of the program's functions: NText.
-/
import Derived.Test.YtekghemhccfhkaaGreatDoorB44
import Derived.Test.YtekghemhccfhkaaGreatDoorB33
namespace Go.Proofs.YtekghemhccfhkaaGreatDoor
open Go.RowKit Go.Big
theorem ndig_at {v : Value} {n : Int} {K : Nat} {s : List UInt8} {w : World} (h : NumV w v n) (hK : K < 100000) (hm : n.natAbs < B32 ^ K) (hs : Lib.decDigits n.natAbs = s) :
    Calls Tryz.prog 61 #[v] w fun e w' => e = .returned (.string ⟨s.toArray⟩) ∧ Below w.heap.size w w' := by
  rw [← hs]; exact ndigits_any h hK hm
theorem dn_size {n K : Nat} (hK : K < 100000) (h : n < B32 ^ K) : (Lib.decDigits n).length ≤ 1000001 :=
  Nat.le_trans (dd_len (k := 10 * K + 1) (by omega) (Nat.lt_of_lt_of_le h (by
    rw [Nat.pow_succ, Nat.pow_mul]
    exact Nat.le_trans (Nat.pow_le_pow_left (show B32 ≤ 10 ^ 10 by unfold B32; decide) K) (Nat.le_mul_of_pos_right _ (by decide))))) (by omega)
set_option maxRecDepth 100000 in
set_option maxHeartbeats 4000000 in
/-- Text -/
theorem ntext_any {v : Value} {q : Rat} {K : Nat} {w : World} (h : NRat w v q) (hK : K < 100000) (hm : q.num.natAbs < B32 ^ K) (hd : q.den < B32 ^ K) : Calls Tryz.prog 19 #[v] w (RetQ w q) := by
  obtain ⟨b, ao, k, cap, ao', k', cap', rfl, hb, h1, h2⟩ := h.op
  obtain ⟨w0, hw0, hb0, k0, hz0⟩ := nbox1 w #[.bool b, .slice ao k cap, .bool false, .slice ao' k' cap'] 32 (cb4 b h1.cb false h2.cb)
  have k0 : N4 w.heap.size b (.slice ao k cap) false (.slice ao' k' cap') w0 := k0
  obtain ⟨hk, hkm⟩ := dn_len q.den_nz h2
  obtain ⟨SN, hSN⟩ : ∃ s, Lib.decDigits q.num.natAbs = s := ⟨_, rfl⟩
  obtain ⟨SD, hSD⟩ : ∃ s, Lib.decDigits q.den = s := ⟨_, rfl⟩
  have hLN := dn_size hK hm
  have hLD := dn_size hK hd
  rw [hSN] at hLN
  rw [hSD] at hLD
  have hc1 : ¬ (9223372036854775807 < SN.length + 1) := by omega
  have hc2 : ¬ (9223372036854775807 < SD.length + 1) := by omega
  have hc3 : ¬ (9223372036854775807 < SN.length + 1 + (SD.length + 1)) := by omega
  have hc4 : ¬ (9223372036854775807 < SN.length + (SD.length + 1)) := by omega
  have HDN := Lib.hid (ndig_at (num_of hb (h1.below hb0)) hK hm hSN)
  have HM := Lib.hid (And.intro hK (And.intro hm hd))
  have HSD : Hid (Lib.decDigits ((q.den : Nat) : Int).natAbs = SD) := by rw [Int.natAbs_natCast]; exact hSD
  have y00 := k0.c0
  have y01 := k0.c1
  have y02 := k0.c2
  have y03 := k0.c3
  have h2 := h2.below hb0
  by_cases hden : q.den = 1
  · have hk' := Lib.hid (hk.2 hden)
    have HDD := Lib.hid h2
    cases b with
    | true =>
      have hneg : q.num < 0 := of_decide_eq_true hb.symm
      have HTX : Hid (rtext q = 45 :: SN) := by rw [← hSN]; unfold rtext itext; rw [if_pos hneg, if_pos hden, List.append_nil]; rfl
      clear h h1 h2 hb hk hK hm hd hSN hSD hden hneg
      go_enter Tryz.func19, Tryz.ntmps19
      go_wp2_with fail
      refine HDN.out.mono ?_
      rintro e w1 ⟨rfl, hb1⟩
      have k0 := k0.below hb1
      have hs := hb0.trans (hb1.mono hb0.size)
      have HD2 := Lib.hid (HDD.out.below hb1)
      clear y00 y01 y02 y03 hb1 HDN
      have y00 := k0.c0
      have y01 := k0.c1
      have y02 := k0.c2
      have y03 := k0.c3
      have hk0 : decide (0 < k') = false := decide_eq_false (by have := hk'.out; omega)
      have HF := Lib.hid hs
      clear hs k0
      go_wp2_with fail
      go_ret
      refine ⟨?_, HF.out⟩
      unfold rs
      rw [HTX.out]
      exact congrArg (fun t => Ending.returned (.string t)) (ByteArray.ext (by simp))
    | false =>
      have hneg : ¬ q.num < 0 := of_decide_eq_false hb.symm
      have HTX : Hid (rtext q = SN) := by rw [← hSN]; unfold rtext itext; rw [if_neg hneg, if_pos hden, List.append_nil]; rfl
      clear h h1 h2 hb hk hK hm hd hSN hSD hden hneg
      go_enter Tryz.func19, Tryz.ntmps19
      go_wp2_with fail
      refine HDN.out.mono ?_
      rintro e w1 ⟨rfl, hb1⟩
      have k0 := k0.below hb1
      have hs := hb0.trans (hb1.mono hb0.size)
      have HD2 := Lib.hid (HDD.out.below hb1)
      clear y00 y01 y02 y03 hb1 HDN
      have y00 := k0.c0
      have y01 := k0.c1
      have y02 := k0.c2
      have y03 := k0.c3
      have hk0 : decide (0 < k') = false := decide_eq_false (by have := hk'.out; omega)
      have HF := Lib.hid hs
      clear hs k0
      go_wp2_with fail
      go_ret
      refine ⟨?_, HF.out⟩
      unfold rs
      rw [HTX.out]
      exact congrArg (fun t => Ending.returned (.string t)) (ByteArray.ext (by simp))
  · have hk' := Lib.hid (mt hk.1 hden)
    have hdn : dn q.den = q.den := if_neg hden
    rw [hdn] at h2
    have HDD := Lib.hid h2
    cases b with
    | true =>
      have hneg : q.num < 0 := of_decide_eq_true hb.symm
      have HTX : Hid (rtext q = 45 :: SN ++ 47 :: SD) := by rw [← hSN, ← hSD]; unfold rtext itext; rw [if_pos hneg, if_neg hden]; rfl
      clear h h1 h2 hb hk hK hm hd hSN hSD hden hneg hdn
      go_enter Tryz.func19, Tryz.ntmps19
      go_wp2_with fail
      refine HDN.out.mono ?_
      rintro e w1 ⟨rfl, hb1⟩
      have k0 := k0.below hb1
      have hs := hb0.trans (hb1.mono hb0.size)
      have HD2 := Lib.hid (HDD.out.below hb1)
      clear y00 y01 y02 y03 hb1 HDN
      have y00 := k0.c0
      have y01 := k0.c1
      have y02 := k0.c2
      have y03 := k0.c3
      have hk0 : decide (0 < k') = true := decide_eq_true (by have := hk'.out; omega)
      have HDG := Lib.hid (ndig_at (num_of (n := (q.den : Int)) (show false = decide ((q.den : Int) < 0) by rw [decide_eq_false]; omega) (by rw [Int.natAbs_natCast]; exact HD2.out)) HM.out.1 (by rw [Int.natAbs_natCast]; exact HM.out.2.2) HSD.out)
      have HS := Lib.hid hs
      clear hs k0
      go_wp2_with fail
      refine HDG.out.mono ?_
      rintro e w2 ⟨rfl, hb2⟩
      have HF := Lib.hid (HS.out.trans (hb2.mono HS.out.size))
      clear hb2
      go_wp2_with fail
      go_ret
      refine ⟨?_, HF.out⟩
      unfold rs
      rw [HTX.out]
      exact congrArg (fun t => Ending.returned (.string t)) (ByteArray.ext (by simp))
    | false =>
      have hneg : ¬ q.num < 0 := of_decide_eq_false hb.symm
      have HTX : Hid (rtext q = SN ++ 47 :: SD) := by rw [← hSN, ← hSD]; unfold rtext itext; rw [if_neg hneg, if_neg hden]; rfl
      clear h h1 h2 hb hk hK hm hd hSN hSD hden hneg hdn
      go_enter Tryz.func19, Tryz.ntmps19
      go_wp2_with fail
      refine HDN.out.mono ?_
      rintro e w1 ⟨rfl, hb1⟩
      have k0 := k0.below hb1
      have hs := hb0.trans (hb1.mono hb0.size)
      have HD2 := Lib.hid (HDD.out.below hb1)
      clear y00 y01 y02 y03 hb1 HDN
      have y00 := k0.c0
      have y01 := k0.c1
      have y02 := k0.c2
      have y03 := k0.c3
      have hk0 : decide (0 < k') = true := decide_eq_true (by have := hk'.out; omega)
      have HDG := Lib.hid (ndig_at (num_of (n := (q.den : Int)) (show false = decide ((q.den : Int) < 0) by rw [decide_eq_false]; omega) (by rw [Int.natAbs_natCast]; exact HD2.out)) HM.out.1 (by rw [Int.natAbs_natCast]; exact HM.out.2.2) HSD.out)
      have HS := Lib.hid hs
      clear hs k0
      go_wp2_with fail
      refine HDG.out.mono ?_
      rintro e w2 ⟨rfl, hb2⟩
      have HF := Lib.hid (HS.out.trans (hb2.mono HS.out.size))
      clear hb2
      go_wp2_with fail
      go_ret
      refine ⟨?_, HF.out⟩
      unfold rs
      rw [HTX.out]
      exact congrArg (fun t => Ending.returned (.string t)) (ByteArray.ext (by simp))
end Go.Proofs.YtekghemhccfhkaaGreatDoor
