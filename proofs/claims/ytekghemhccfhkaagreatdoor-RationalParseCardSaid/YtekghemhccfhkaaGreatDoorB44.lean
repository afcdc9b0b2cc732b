/-
  Walks of the program's functions: NInt2, NInt3, NRat1, NBits, NInt4, NInt5, NDig.
-/
import Derived.Test.YtekghemhccfhkaaGreatDoorB32
import Derived.Test.YtekghemhccfhkaaGreatDoorB43
import Derived.Test.YtekghemhccfhkaaGreatDoorB42
import Derived.Deep.RegionHeld3
import Derived.Test.YtekghemhccfhkaaGreatDoorB05
import Derived.Test.YtekghemhccfhkaaGreatDoorB48
import Derived.Test.YtekghemhccfhkaaGreatDoorB29
import Derived.Deep.LoopGhost
namespace Go.Proofs.YtekghemhccfhkaaGreatDoor
open Go.RowKit Go.Big
set_option maxRecDepth 100000 in
set_option maxHeartbeats 1000000 in
/-- Sign -/
theorem nsign_any {v : Value} {n : Int} {w : World} (h : NumV w v n) : Calls Tryz.prog 71 #[v] w (RetI w (Int.sign n)) := by
  obtain ⟨b, s, rfl, hb, hs, hcb⟩ := h.cells
  obtain ⟨w0, hw0, hb0, k0, hz0⟩ := nbox1 w #[.bool b, s] 30 (cb2 b hcb)
  have k0 : N2 w.heap.size b s w0 := k0
  obtain ⟨ao, cap, l, rfl, hsl, hw, hz, hv⟩ := hs
  have hl := hsl.len_le
  have c0 := k0.c0
  have c1 := k0.c1
  have HB := Lib.hid hb0
  cases b with
  | true =>
    have hn : n < 0 := of_decide_eq_true hb.symm
    have HN := Lib.hid (Int.sign_eq_neg_one_of_neg hn)
    clear hb h hsl hw hz hv hn hb0 k0
    go_enter Tryz.func71, Tryz.ntmps71
    go_wp2_with fail
    go_ret
    exact ⟨by rw [HN.out]; rfl, HB.out⟩
  | false =>
    have hn : ¬ n < 0 := of_decide_eq_false hb.symm
    by_cases h0 : l.length = 0
    · have hn0 : n = 0 := by
        have : l = [] := List.eq_nil_of_length_eq_zero h0
        subst this
        simp [val] at hv; omega
      have h1 : ((l.length : Int) == 0) = true := by rw [beq_iff_eq]; omega
      clear hb h hsl hw hz hv hn hb0 k0 h0
      go_enter Tryz.func71, Tryz.ntmps71
      go_wp2_with fail
      go_ret
      exact ⟨by rw [hn0]; rfl, HB.out⟩
    · have hn1 : 0 < n := by
        rcases Nat.eq_zero_or_pos n.natAbs with h2 | h2
        · rw [h2] at hv
          rw [(val_zero_iff (B := B32) (by decide) hz).1 hv] at h0; exact absurd rfl h0
        · omega
      have HN := Lib.hid (Int.sign_eq_one_of_pos hn1)
      have h1 : ((l.length : Int) == 0) = false := by rw [beq_eq_false_iff_ne]; omega
      clear hb h hsl hw hz hv hn hb0 k0 hn1 h0
      go_enter Tryz.func71, Tryz.ntmps71
      go_wp2_with fail
      go_ret
      exact ⟨by rw [HN.out]; rfl, HB.out⟩
theorem numv_signed {w : World} {v : Value} {n m : Int} (h : NumV w v n) (e : n = m) : NumV w v m := e ▸ h
theorem nsigned_not (n : Int) : signed (!decide (n < 0)) n.natAbs = -n := by
  unfold signed
  by_cases h : n < 0
  · simp [h]; omega
  · simp [h]; try omega
set_option maxRecDepth 100000 in
set_option maxHeartbeats 1000000 in
/-- Neg -/
theorem nneg_any {v : Value} {n : Int} {w : World} (h : NumV w v n) : Calls Tryz.prog 74 #[v] w (RetNum w (-n)) := by
  obtain ⟨b, s, rfl, hb, hs, hcb⟩ := h.cells
  obtain ⟨w0, hw0, hb0, k0, k1, hz0⟩ := nboxes2 w #[.bool b, s] 30 #[.bool false, .slice none 0 0] 30 (cb2 b hcb) (cb2 false cb_nil)
  have k0 : N2 w.heap.size b s w0 := k0
  have k1 : N2 (w.heap.size + 1) false (.slice none 0 0) w0 := k1
  have c0 := k0.c0
  have c1 := k0.c1
  have HM := Lib.hid (make1_any (!b) (hs.below hb0))
  have HB := Lib.hid hb
  clear hb hs h
  go_enter Tryz.func74, Tryz.ntmps74
  go_wp2_with fail
  refine HM.out.mono ?_
  rintro e w1 ⟨v1, rfl, hv1, hb1⟩
  have hv1 := numv_signed (m := -n) hv1 (by rw [HB.out]; exact nsigned_not n)
  obtain ⟨b', ao', k', cap', rfl, hbb, hss⟩ := hv1.op
  have k1 := k1.below hb1
  have hs := below_trans hb0 hb1
  obtain ⟨WW, hWW⟩ : ∃ WW, (w1.setCell ⟨w.heap.size + 1, 0, none⟩ (.bool b')).setCell ⟨w.heap.size + 1, 1, none⟩ (.slice ao' k' cap') = WW := ⟨_, rfl⟩
  obtain ⟨z0, z1, z2⟩ := ret_num (n := -n) k1 hbb hss hs (by omega) hWW
  have d0 := k1.c0
  have d1 := k1.c1
  have f0 := k1.f 0
  have f1 := k1.f 1
  have HZ := Lib.hid z2
  clear z2 hv1 hss hs hb1 hb0 k0 k1 c0 c1 hbb
  go_wp2_with fail
  exact bodyPost_ret (v := .agg #[.bool b', .slice ao' k' cap']) (by simp [results, Tryz.results74, go_sem, z0, z1]) rfl HZ.out
set_option maxRecDepth 100000 in
set_option maxHeartbeats 1000000 in
/-- FromInt -/
theorem nfromInt_any {n : Int} (hn : IsS n) (w : World) : Calls Tryz.prog 62 #[.int .i64 n] w (RetNum w n) := by
  obtain ⟨w0, hw0, hb0, k0, hz0⟩ := nbox1 w #[.bool false, .slice none 0 0] 30 (cb2 false cb_nil)
  have k0 : N2 w.heap.size false (.slice none 0 0) w0 := k0
  obtain ⟨u, hu⟩ : ∃ u, n.natAbs = u := ⟨_, rfl⟩
  have hub : u ≤ 9223372036854775808 := by unfold IsS at hn; omega
  have eneg : n < 0 → IntKind.u64.wrap (-IntKind.u64.wrap n) = (u : Int) := fun h => by rw [← hu]; exact wrap_abs_neg hn.1 h
  have epos : ¬ n < 0 → IntKind.u64.wrap n = (u : Int) := fun h => by
    have : n = (u : Int) := by omega
    exact wrapN (by omega) this
  obtain ⟨x0, hx0⟩ : ∃ x, u % 4294967296 = x := ⟨_, rfl⟩
  obtain ⟨x1, hx1⟩ : ∃ x, u / 4294967296 = x := ⟨_, rfl⟩
  have e0 : (u : Int) % 4294967296 = (x0 : Int) := by omega
  have e1 : (u : Int) / 4294967296 % 4294967296 = (x1 : Int) := by omega
  have e2 : shrW u 32 = x1 := by rw [shrW32, hx1]
  have e3 : (x1 : Int) % 4294967296 = (x1 : Int) := by omega
  have hr1 : isRow (w0.alloc (.cells #[.int .u32 (x0 : Int), .int .u32 (x1 : Int)] 73)) (w.heap.size + 1) 73 .u32 [x0, x1] := by
    have := isRow_alloc w0 73 .u32 [x0, x1]
    rwa [hz0] at this
  have hb1 : Below w0.heap.size w0 (w0.alloc (.cells #[.int .u32 (x0 : Int), .int .u32 (x1 : Int)] 73)) := (Below.refl _ _).alloc (Nat.le_refl _) _
  have hsl := hr1.sl (cap := 2) (by simp) (by simp)
  have HT := Lib.hid (ntrim_at (n := 2) hsl rfl)
  have hwd : Wd B32 [x0, x1] := by
    intro y hy
    simp only [List.mem_cons, List.not_mem_nil, or_false] at hy
    rcases hy with rfl | rfl
    · show y < 4294967296; omega
    · show y < 4294967296; omega
  have hvl : val B32 [x0, x1] = n.natAbs := by
    show x0 + 4294967296 * (x1 + 4294967296 * 0) = n.natAbs; omega
  have HSL := Lib.hid (And.intro hsl (And.intro hwd (And.intro hvl hb1)))
  have HK := Lib.hid (And.intro k0 hb0)
  clear hsl hwd hvl hr1 hx0 hx1 hu k0 hb1
  obtain ⟨b, hb⟩ : ∃ b, decide (n < 0) = b := ⟨_, rfl⟩
  have HBB := Lib.hid hb
  have hsg : signed b n.natAbs = n := by rw [← hb]; exact signed_abs n
  have HSG := Lib.hid hsg
  clear hsg hub hb0
  cases b with
  | true =>
    have hlt : n < 0 := of_decide_eq_true hb
    have eneg := eneg hlt
    clear epos hb
    go_enter Tryz.func62, Tryz.ntmps62
    go_wp2_with fail
    refine HT.out.mono ?_
    intro e w2 ht
    obtain ⟨v, rfl, hv, hb2⟩ := ntrim_ret HSL.out.1 HSL.out.2.1 HSL.out.2.2.1 HSL.out.2.2.2 ht
    have HM := Lib.hid (make1_any true hv)
    have HB2 := Lib.hid hb2
    clear HT ht hv hb2
    go_wp2_with fail
    refine HM.out.mono ?_
    rintro e w3 ⟨v3, rfl, hv3, hb3⟩
    have hv3 := numv_signed (m := n) hv3 HSG.out
    obtain ⟨b', ao', k', cap', rfl, hbb, hss⟩ := hv3.op
    have hs := below_trans (below_trans HK.out.2 HB2.out) hb3
    have k1 := (HK.out.1.below HB2.out).below hb3
    obtain ⟨WW, hWW⟩ : ∃ WW, (w3.setCell ⟨w.heap.size, 0, none⟩ (.bool b')).setCell ⟨w.heap.size, 1, none⟩ (.slice ao' k' cap') = WW := ⟨_, rfl⟩
    obtain ⟨z0, z1, z2⟩ := ret_num (n := n) k1 hbb hss hs (Nat.le_refl _) hWW
    have d0 := k1.c0
    have d1 := k1.c1
    have f0 := k1.f 0
    have f1 := k1.f 1
    have HZ := Lib.hid z2
    clear z2 hv3 hss hs hb3 k1 hbb HM
    go_wp2_with fail
    exact bodyPost_ret (v := .agg #[.bool b', .slice ao' k' cap']) (by simp [results, Tryz.results62, go_sem, z0, z1]) rfl HZ.out
  | false =>
    have hlt : ¬ n < 0 := of_decide_eq_false hb
    have epos := epos hlt
    clear eneg hb
    go_enter Tryz.func62, Tryz.ntmps62
    go_wp2_with fail
    refine HT.out.mono ?_
    intro e w2 ht
    obtain ⟨v, rfl, hv, hb2⟩ := ntrim_ret HSL.out.1 HSL.out.2.1 HSL.out.2.2.1 HSL.out.2.2.2 ht
    have HM := Lib.hid (make1_any false hv)
    have HB2 := Lib.hid hb2
    clear HT ht hv hb2
    go_wp2_with fail
    refine HM.out.mono ?_
    rintro e w3 ⟨v3, rfl, hv3, hb3⟩
    have hv3 := numv_signed (m := n) hv3 HSG.out
    obtain ⟨b', ao', k', cap', rfl, hbb, hss⟩ := hv3.op
    have hs := below_trans (below_trans HK.out.2 HB2.out) hb3
    have k1 := (HK.out.1.below HB2.out).below hb3
    obtain ⟨WW, hWW⟩ : ∃ WW, (w3.setCell ⟨w.heap.size, 0, none⟩ (.bool b')).setCell ⟨w.heap.size, 1, none⟩ (.slice ao' k' cap') = WW := ⟨_, rfl⟩
    obtain ⟨z0, z1, z2⟩ := ret_num (n := n) k1 hbb hss hs (Nat.le_refl _) hWW
    have d0 := k1.c0
    have d1 := k1.c1
    have f0 := k1.f 0
    have f1 := k1.f 1
    have HZ := Lib.hid z2
    clear z2 hv3 hss hs hb3 k1 hbb HM
    go_wp2_with fail
    exact bodyPost_ret (v := .agg #[.bool b', .slice ao' k' cap']) (by simp [results, Tryz.results62, go_sem, z0, z1]) rfl HZ.out
end Go.Proofs.YtekghemhccfhkaaGreatDoor
namespace Go.Big
open Go Go.RowKit
theorem nadd_same {m n : Int} {b : Bool} (e1 : b = decide (m < 0)) (e : decide (m < 0) = decide (n < 0)) : signed b (m.natAbs + n.natAbs) = m + n := by
  subst e1
  unfold signed
  by_cases h : m < 0
  · have h2 : n < 0 := by rw [decide_eq_true h] at e; exact of_decide_eq_true e.symm
    rw [decide_eq_true h, if_pos rfl]; omega
  · have h2 : ¬ n < 0 := by rw [decide_eq_false h] at e; exact of_decide_eq_false e.symm
    rw [decide_eq_false h, if_neg (by decide)]; omega
theorem nadd_diff {m n : Int} {b b' : Bool} (e1 : b = decide (m < 0)) (e2 : b' = decide (n < 0)) (e : ¬ b = b') (h : n.natAbs ≤ m.natAbs) : signed b (m.natAbs - n.natAbs) = m + n := by
  unfold signed
  by_cases h1 : m < 0 <;> by_cases h2 : n < 0 <;> simp [h1, h2] at e1 e2 <;> subst e1 <;> subst e2 <;> simp at e ⊢ <;> omega
theorem nadd_diff' {m n : Int} {b b' : Bool} (e1 : b = decide (m < 0)) (e2 : b' = decide (n < 0)) (e : ¬ b = b') (h : m.natAbs ≤ n.natAbs) : signed b' (n.natAbs - m.natAbs) = m + n := by
  unfold signed
  by_cases h1 : m < 0 <;> by_cases h2 : n < 0 <;> simp [h1, h2] at e1 e2 <;> subst e1 <;> subst e2 <;> simp at e ⊢ <;> omega
theorem nmul_sign {m n : Int} {b b' : Bool} (e1 : b = decide (m < 0)) (e2 : b' = decide (n < 0)) : signed (b != b') (m.natAbs * n.natAbs) = m * n := by
  subst e1 e2
  unfold signed
  rw [Int.natCast_mul]
  by_cases h1 : m < 0 <;> by_cases h2 : n < 0
  · rw [decide_eq_true h1, decide_eq_true h2, if_neg (by decide), show ((m.natAbs : Nat) : Int) = -m by omega, show ((n.natAbs : Nat) : Int) = -n by omega]; grind
  · rw [decide_eq_true h1, decide_eq_false h2, if_pos (by decide), show ((m.natAbs : Nat) : Int) = -m by omega, show ((n.natAbs : Nat) : Int) = n by omega]; grind
  · rw [decide_eq_false h1, decide_eq_true h2, if_pos (by decide), show ((m.natAbs : Nat) : Int) = m by omega, show ((n.natAbs : Nat) : Int) = -n by omega]; grind
  · rw [decide_eq_false h1, decide_eq_false h2, if_neg (by decide), show ((m.natAbs : Nat) : Int) = m by omega, show ((n.natAbs : Nat) : Int) = n by omega]
end Go.Big
namespace Go.Proofs.YtekghemhccfhkaaGreatDoor
open Go.RowKit Go.Big
set_option maxRecDepth 100000 in
set_option maxHeartbeats 4000000 in
/-- Add -/
theorem nadd_any {v v' : Value} {m n : Int} {K : Nat} {w : World} (h : NumV w v m) (h' : NumV w v' n) (hK : K < 100000) (hm : m.natAbs < B32 ^ K) (hn : n.natAbs < B32 ^ K) : Calls Tryz.prog 73 #[v, v'] w (RetNum w (m + n)) := by
  obtain ⟨b1, a1, l1, p1, rfl, e1, h1⟩ := h.op
  obtain ⟨b2, a2, l2, p2, rfl, e2, h2⟩ := h'.op
  obtain ⟨w0, hw0, hb0, k0, k1, k2, hz0⟩ := nboxes3 w #[.bool b1, .slice a1 l1 p1] 30 #[.bool b2, .slice a2 l2 p2] 30 #[.bool false, .slice none 0 0] 30 (cb2 b1 h1.cb) (cb2 b2 h2.cb) (cb2 false cb_nil)
  have k0 : N2 w.heap.size b1 (.slice a1 l1 p1) w0 := k0
  have k1 : N2 (w.heap.size + 1) b2 (.slice a2 l2 p2) w0 := k1
  have k2 : N2 (w.heap.size + 1 + 1) false (.slice none 0 0) w0 := k2
  have h1 := h1.below hb0
  have h2 := h2.below hb0
  have HA := Lib.hid h1
  have HB := Lib.hid h2
  have HE := Lib.hid (And.intro e1 e2)
  have HM := Lib.hid (And.intro hK (And.intro hm hn))
  clear h h' h1 h2 e1 e2 hz0 hK hm hn
  have c00 := k0.c0
  have c01 := k0.c1
  have c10 := k1.c0
  have c11 := k1.c1
  by_cases hb : b1 = b2
  · subst hb
    have HS := Lib.hid (HE.out.1.symm.trans HE.out.2)
    go_enter Tryz.func73, Tryz.ntmps73
    go_wp2_with fail
    have n_k0 : w.heap.size ≠ w.heap.size + 1 + 1 := by omega
    have n_k1 : w.heap.size + 1 ≠ w.heap.size + 1 + 1 := by omega
    have hg : w.heap.size ≤ w.heap.size + 1 + 1 := by omega
    have k0 : N2 w.heap.size b1 (.slice a1 l1 p1) w0.drew := k0
    have k1 : N2 (w.heap.size + 1) b1 (.slice a2 l2 p2) w0.drew := k1
    have k2 : N2 (w.heap.size + 1 + 1) false (.slice none 0 0) w0.drew := k2
    have hc : Below w0.heap.size w0 w0.drew := (Below.refl _ _).drew
    have hs : Below w.heap.size w w0.drew := hb0.drew
    go_region_held3 (fun w' => w'.cell? ⟨w.heap.size, 0, none⟩ = some (.bool b1) ∧ w'.cell? ⟨w.heap.size, 1, none⟩ = some (.slice a1 l1 p1) ∧ w'.cell? ⟨(w.heap.size + 1), 0, none⟩ = some (.bool b1) ∧ w'.cell? ⟨(w.heap.size + 1), 1, none⟩ = some (.slice a2 l2 p2) ∧ Below w.heap.size w w') (first | (with_reducible exact ⟨k0.c0, k0.c1, k1.c0, k1.c1, hs⟩) | (with_reducible exact ⟨(k0.o2 n_k0 _ _).c0, (k0.o2 n_k0 _ _).c1, (k1.o2 n_k1 _ _).c0, (k1.o2 n_k1 _ _).c1, hs.sn2 hg _ _⟩) | fail) (first | (go_at_call 116; (with_reducible refine (addMag_any (K := K) (HA.out.below hc) (HB.out.below hc) (Nat.lt_trans HM.out.1 (by decide)) HM.out.2.1 HM.out.2.2).mono ?_); rintro e w1 ⟨v1, rfl, hv1, hb1⟩; have k0 := k0.below hb1; have k1 := k1.below hb1; have k2 := k2.below hb1; have hs := hs.trans (hb1.mono hs.size); have hc := hc.trans (hb1.mono hc.size)) | (go_at_call 100; (with_reducible refine (make1_any b1 hv1).mono ?_); rintro e w2 ⟨v2, rfl, hv2, hb2⟩; have k0 := k0.below hb2; have k1 := k1.below hb2; have k2 := k2.below hb2; have hs := hs.trans (hb2.mono hs.size); have hc := hc.trans (hb2.mono hc.size); obtain ⟨rb, rao, rk, rcap, rfl, hrb, hrs⟩ := hv2.op; have HRB := Lib.hid hrb; clear hrb; have d0 := k2.c0; have d1 := k2.c1; have f0 := k2.f 0; have f1 := k2.f 1) | fail)
    obtain ⟨WW, hWW⟩ : ∃ WW, (w2.setCell ⟨w.heap.size + 1 + 1, 0, none⟩ (.bool rb)).setCell ⟨w.heap.size + 1 + 1, 1, none⟩ (.slice rao rk rcap) = WW := ⟨_, rfl⟩
    rw [hWW]
    have hval := nadd_same HE.out.1 HS.out
    have hrb := HRB.out
    rw [hval] at hrb hrs
    obtain ⟨z0, z1, z2⟩ := ret_num (n := m + n) k2 hrb hrs hs hg hWW
    have HZ := Lib.hid z2
    clear hs hc d0 d1 f0 f1 hWW z2 k0 k1 k2 hrb hrs
    go_wp2_with fail
    exact bodyPost_ret (v := .agg #[.bool rb, .slice rao rk rcap]) (by simp [results, Tryz.results73, go_sem, z0, z1]) rfl HZ.out
  · have hbb : (b1 == b2) = false := by rw [beq_eq_false_iff_ne]; exact hb
    have HNE := Lib.hid hb
    have hc0 := cmpMag_any HA.out HB.out
    unfold RetCmp at hc0
    obtain ⟨c, hcd⟩ : ∃ c, cmpInt (m.natAbs : Int) (n.natAbs : Int) = c := ⟨_, rfl⟩
    rw [hcd] at hc0
    have HC := Lib.hid hc0
    by_cases hle : n.natAbs ≤ m.natAbs
    · have hcf : decide (0 ≤ c) = true := by rw [← hcd]; unfold cmpInt; apply decide_eq_true; split <;> (try split) <;> omega
      have HLE := Lib.hid hle
      clear hb hc0 hcd hle
      go_enter Tryz.func73, Tryz.ntmps73
      go_wp2_with fail
      refine HC.out.mono ?_
      rintro e w9 ⟨rfl, hb9⟩
      have HA := Lib.hid (HA.out.below hb9)
      have HB := Lib.hid (HB.out.below hb9)
      have k0 := k0.below hb9
      have k1 := k1.below hb9
      have k2 := k2.below hb9
      have hs9 := hb0.trans (hb9.mono hb0.size)
      clear c00 c01 c10 c11 HC
      have c00 := k0.c0
      have c01 := k0.c1
      have c10 := k1.c0
      have c11 := k1.c1
      go_wp2_with fail
      have n_k0 : w.heap.size ≠ w.heap.size + 1 + 1 := by omega
      have n_k1 : w.heap.size + 1 ≠ w.heap.size + 1 + 1 := by omega
      have hg : w.heap.size ≤ w.heap.size + 1 + 1 := by omega
      have k0 : N2 w.heap.size b1 (.slice a1 l1 p1) w9.drew := k0
      have k1 : N2 (w.heap.size + 1) b2 (.slice a2 l2 p2) w9.drew := k1
      have k2 : N2 (w.heap.size + 1 + 1) false (.slice none 0 0) w9.drew := k2
      have hc : Below w9.heap.size w9 w9.drew := (Below.refl _ _).drew
      have hs : Below w.heap.size w w9.drew := hs9.drew
      go_region_held3 (fun w' => w'.cell? ⟨w.heap.size, 0, none⟩ = some (.bool b1) ∧ w'.cell? ⟨w.heap.size, 1, none⟩ = some (.slice a1 l1 p1) ∧ w'.cell? ⟨(w.heap.size + 1), 0, none⟩ = some (.bool b2) ∧ w'.cell? ⟨(w.heap.size + 1), 1, none⟩ = some (.slice a2 l2 p2) ∧ Below w.heap.size w w') (first | (with_reducible exact ⟨k0.c0, k0.c1, k1.c0, k1.c1, hs⟩) | (with_reducible exact ⟨(k0.o2 n_k0 _ _).c0, (k0.o2 n_k0 _ _).c1, (k1.o2 n_k1 _ _).c0, (k1.o2 n_k1 _ _).c1, hs.sn2 hg _ _⟩) | fail) (first | (go_at_call 119; (with_reducible refine (subMag_any (K := K) (HA.out.below hc) (HB.out.below hc) (Nat.lt_trans HM.out.1 (by decide)) HM.out.2.1 HLE.out).mono ?_); rintro e w1 ⟨v1, rfl, hv1, hb1⟩; have k0 := k0.below hb1; have k1 := k1.below hb1; have k2 := k2.below hb1; have hs := hs.trans (hb1.mono hs.size); have hc := hc.trans (hb1.mono hc.size)) | (go_at_call 100; (with_reducible refine (make1_any b1 hv1).mono ?_); rintro e w2 ⟨v2, rfl, hv2, hb2⟩; have k0 := k0.below hb2; have k1 := k1.below hb2; have k2 := k2.below hb2; have hs := hs.trans (hb2.mono hs.size); have hc := hc.trans (hb2.mono hc.size); obtain ⟨rb, rao, rk, rcap, rfl, hrb, hrs⟩ := hv2.op; have HRB := Lib.hid hrb; clear hrb; have d0 := k2.c0; have d1 := k2.c1; have f0 := k2.f 0; have f1 := k2.f 1) | fail)
      obtain ⟨WW, hWW⟩ : ∃ WW, (w2.setCell ⟨w.heap.size + 1 + 1, 0, none⟩ (.bool rb)).setCell ⟨w.heap.size + 1 + 1, 1, none⟩ (.slice rao rk rcap) = WW := ⟨_, rfl⟩
      rw [hWW]
      have hval := nadd_diff HE.out.1 HE.out.2 HNE.out HLE.out
      have hrb := HRB.out
      rw [hval] at hrb hrs
      obtain ⟨z0, z1, z2⟩ := ret_num (n := m + n) k2 hrb hrs hs hg hWW
      have HZ := Lib.hid z2
      clear hs hc d0 d1 f0 f1 hWW z2 k0 k1 k2 hrb hrs
      go_wp2_with fail
      exact bodyPost_ret (v := .agg #[.bool rb, .slice rao rk rcap]) (by simp [results, Tryz.results73, go_sem, z0, z1]) rfl HZ.out
    · have hcf : decide (0 ≤ c) = false := by rw [← hcd]; unfold cmpInt; apply decide_eq_false; split <;> (try split) <;> omega
      have HLE := Lib.hid (show m.natAbs ≤ n.natAbs by omega)
      clear hb hc0 hcd hle
      go_enter Tryz.func73, Tryz.ntmps73
      go_wp2_with fail
      refine HC.out.mono ?_
      rintro e w9 ⟨rfl, hb9⟩
      have HA := Lib.hid (HA.out.below hb9)
      have HB := Lib.hid (HB.out.below hb9)
      have k0 := k0.below hb9
      have k1 := k1.below hb9
      have k2 := k2.below hb9
      have hs9 := hb0.trans (hb9.mono hb0.size)
      clear c00 c01 c10 c11 HC
      have c00 := k0.c0
      have c01 := k0.c1
      have c10 := k1.c0
      have c11 := k1.c1
      go_wp2_with fail
      have n_k0 : w.heap.size ≠ w.heap.size + 1 + 1 := by omega
      have n_k1 : w.heap.size + 1 ≠ w.heap.size + 1 + 1 := by omega
      have hg : w.heap.size ≤ w.heap.size + 1 + 1 := by omega
      have k0 : N2 w.heap.size b1 (.slice a1 l1 p1) w9.drew := k0
      have k1 : N2 (w.heap.size + 1) b2 (.slice a2 l2 p2) w9.drew := k1
      have k2 : N2 (w.heap.size + 1 + 1) false (.slice none 0 0) w9.drew := k2
      have hc : Below w9.heap.size w9 w9.drew := (Below.refl _ _).drew
      have hs : Below w.heap.size w w9.drew := hs9.drew
      go_region_held3 (fun w' => w'.cell? ⟨w.heap.size, 0, none⟩ = some (.bool b1) ∧ w'.cell? ⟨w.heap.size, 1, none⟩ = some (.slice a1 l1 p1) ∧ w'.cell? ⟨(w.heap.size + 1), 0, none⟩ = some (.bool b2) ∧ w'.cell? ⟨(w.heap.size + 1), 1, none⟩ = some (.slice a2 l2 p2) ∧ Below w.heap.size w w') (first | (with_reducible exact ⟨k0.c0, k0.c1, k1.c0, k1.c1, hs⟩) | (with_reducible exact ⟨(k0.o2 n_k0 _ _).c0, (k0.o2 n_k0 _ _).c1, (k1.o2 n_k1 _ _).c0, (k1.o2 n_k1 _ _).c1, hs.sn2 hg _ _⟩) | fail) (first | (go_at_call 119; (with_reducible refine (subMag_any (K := K) (HB.out.below hc) (HA.out.below hc) (Nat.lt_trans HM.out.1 (by decide)) HM.out.2.2 HLE.out).mono ?_); rintro e w1 ⟨v1, rfl, hv1, hb1⟩; have k0 := k0.below hb1; have k1 := k1.below hb1; have k2 := k2.below hb1; have hs := hs.trans (hb1.mono hs.size); have hc := hc.trans (hb1.mono hc.size)) | (go_at_call 100; (with_reducible refine (make1_any b2 hv1).mono ?_); rintro e w2 ⟨v2, rfl, hv2, hb2⟩; have k0 := k0.below hb2; have k1 := k1.below hb2; have k2 := k2.below hb2; have hs := hs.trans (hb2.mono hs.size); have hc := hc.trans (hb2.mono hc.size); obtain ⟨rb, rao, rk, rcap, rfl, hrb, hrs⟩ := hv2.op; have HRB := Lib.hid hrb; clear hrb; have d0 := k2.c0; have d1 := k2.c1; have f0 := k2.f 0; have f1 := k2.f 1) | fail)
      obtain ⟨WW, hWW⟩ : ∃ WW, (w2.setCell ⟨w.heap.size + 1 + 1, 0, none⟩ (.bool rb)).setCell ⟨w.heap.size + 1 + 1, 1, none⟩ (.slice rao rk rcap) = WW := ⟨_, rfl⟩
      rw [hWW]
      have hval := nadd_diff' HE.out.1 HE.out.2 HNE.out HLE.out
      have hrb := HRB.out
      rw [hval] at hrb hrs
      obtain ⟨z0, z1, z2⟩ := ret_num (n := m + n) k2 hrb hrs hs hg hWW
      have HZ := Lib.hid z2
      clear hs hc d0 d1 f0 f1 hWW z2 k0 k1 k2 hrb hrs
      go_wp2_with fail
      exact bodyPost_ret (v := .agg #[.bool rb, .slice rao rk rcap]) (by simp [results, Tryz.results73, go_sem, z0, z1]) rfl HZ.out
end Go.Proofs.YtekghemhccfhkaaGreatDoor
namespace Go.Big
open Go Go.RowKit
/-- The denominator as it is kept: nothing for 1. -/
def dn (d : Nat) : Nat := if d = 1 then 0 else d
/-- The value v is the rational number q of the references. -/
def NRat (w : World) (v : Value) (q : Rat) : Prop :=
  ∃ ao k cap ao' k' cap', v = .agg #[.bool (decide (q.num < 0)), .slice ao k cap, .bool false, .slice ao' k' cap'] ∧ NatV w .u32 B32 (.slice ao k cap) q.num.natAbs ∧ NatV w .u32 B32 (.slice ao' k' cap') (dn q.den)
theorem NRat.below {w w' : World} {v : Value} {q : Rat} (h : NRat w v q) (hb : Below w.heap.size w w') : NRat w' v q := by
  obtain ⟨a, b, c, d, e, f, h1, h2, h3⟩ := h
  exact ⟨a, b, c, d, e, f, h1, h2.below hb, h3.below hb⟩
theorem NRat.op {w : World} {v : Value} {q : Rat} (h : NRat w v q) : ∃ b ao k cap ao' k' cap', v = .agg #[.bool b, .slice ao k cap, .bool false, .slice ao' k' cap'] ∧ b = decide (q.num < 0) ∧ NatV w .u32 B32 (.slice ao k cap) q.num.natAbs ∧ NatV w .u32 B32 (.slice ao' k' cap') (dn q.den) := by
  obtain ⟨a, b, c, d, e, f, h1, h2, h3⟩ := h
  exact ⟨_, a, b, c, d, e, f, h1, rfl, h2, h3⟩
theorem dn_len {w : World} {ao : Option Addr} {k cap d : Nat} (hd : d ≠ 0) (h : NatV w .u32 B32 (.slice ao k cap) (dn d)) : (k = 0 ↔ d = 1) ∧ k ≤ 1099511627776 := by
  obtain ⟨_, _, l, e, hs, hw, hz, hv⟩ := h
  simp only [Value.slice.injEq] at e
  obtain ⟨_, rfl, _⟩ := e
  refine ⟨?_, hs.max⟩
  unfold dn at hv
  constructor
  · intro h0
    rw [List.eq_nil_of_length_eq_zero h0] at hv
    split at hv
    · next h => exact h
    · exact absurd hv.symm hd
  · rintro rfl
    rw [if_pos rfl] at hv
    rw [(val_zero_iff (B := B32) (by decide) hz).1 hv]; rfl
end Go.Big
namespace Go.Proofs.YtekghemhccfhkaaGreatDoor
open Go.RowKit Go.Big
def RetRat (w : World) (q : Rat) (e : Ending) (w' : World) : Prop := ∃ v, e = .returned v ∧ NRat w' v q ∧ Below w.heap.size w w'
theorem num_of {w : World} {ao : Option Addr} {k cap : Nat} {n : Int} {b : Bool} (hb : b = decide (n < 0)) (h : NatV w .u32 B32 (.slice ao k cap) n.natAbs) : NumV w (.agg #[.bool b, .slice ao k cap]) n := ⟨_, by rw [hb], h⟩
end Go.Proofs.YtekghemhccfhkaaGreatDoor
namespace Go.Big
open Go Go.RowKit
/-- k is the number of binary digits of m. -/
def IsBits (m k : Nat) : Prop := m < 2 ^ k ∧ (0 < k → 2 ^ (k - 1) ≤ m)
theorem IsBits.one {m k : Nat} (h : IsBits m k) : k = 1 ↔ m = 1 := by
  obtain ⟨h1, h2⟩ := h
  constructor
  · rintro rfl
    have := h2 (by omega)
    simp at h1 this
    omega
  · rintro rfl
    rcases Nat.lt_or_ge k 1 with h3 | h3
    · have : k = 0 := by omega
      subst this; simp at h1
    · rcases Nat.lt_or_ge 1 k with h4 | h4
      · have h5 := h2 (by omega)
        have h6 : 2 ^ 1 ≤ 2 ^ (k - 1) := Nat.pow_le_pow_right (by decide) (by omega)
        omega
      · omega
theorem IsBits.many {m k : Nat} (h : IsBits m k) : 1 < k ↔ 1 < m := by
  obtain ⟨h1, h2⟩ := h
  constructor
  · intro h3
    have h5 := h2 (by omega)
    have h6 : 2 ^ 1 ≤ 2 ^ (k - 1) := Nat.pow_le_pow_right (by decide) (by omega)
    omega
  · intro h3
    rcases Nat.lt_or_ge 1 k with h4 | h4
    · exact h4
    · have h6 : 2 ^ k ≤ 2 ^ 1 := Nat.pow_le_pow_right (by decide) h4
      omega
theorem isBits_words {l : List Nat} {i c : Nat} (hw : Wd B32 l) (hl : l.length = i + 1) (h1 : nth l i < 2 ^ c) (h0 : 0 < c) (h2 : 2 ^ (c - 1) ≤ nth l i) : IsBits (val B32 l) (32 * i + c) := by
  have e := take_val_nth B32 l i (by omega)
  rw [List.take_of_length_le (by omega)] at e
  have h3 := val_lt (hw.take i)
  rw [List.length_take, Nat.min_eq_left (by omega)] at h3
  have e2 : B32 ^ i = 2 ^ (32 * i) := by rw [show B32 = 2 ^ 32 from rfl, ← Nat.pow_mul]
  refine ⟨?_, fun _ => ?_⟩
  · rw [e, Nat.pow_add, ← e2]
    have h4 : B32 ^ i * (nth l i + 1) ≤ B32 ^ i * 2 ^ c := Nat.mul_le_mul_left _ h1
    rw [Nat.mul_add, Nat.mul_one] at h4
    omega
  · rw [e, show 32 * i + c - 1 = 32 * i + (c - 1) by omega, Nat.pow_add, ← e2]
    have h4 : B32 ^ i * 2 ^ (c - 1) ≤ B32 ^ i * nth l i := Nat.mul_le_mul_left _ h2
    omega
end Go.Big
namespace Go.Proofs.YtekghemhccfhkaaGreatDoor
open Go.RowKit Go.Big
def BitsPost (w : World) (m : Nat) (e : Ending) (w' : World) : Prop := ∃ k : Nat, e = .returned (.int .i64 (k : Int)) ∧ IsBits m k ∧ Below w.heap.size w w'
set_option maxRecDepth 100000 in
set_option maxHeartbeats 1000000 in
/-- Bits -/
theorem nbits_any {v : Value} {n : Int} {w : World} (h : NumV w v n) : Calls Tryz.prog 95 #[v] w (BitsPost w n.natAbs) := by
  obtain ⟨b, s, rfl, hb, hs, hcb⟩ := h.cells
  obtain ⟨w0, hw0, hb0, k0, hz0⟩ := nbox1 w #[.bool b, s] 30 (cb2 b hcb)
  have k0 : N2 w.heap.size b s w0 := k0
  have hs0 := hs.below hb0
  obtain ⟨ao, cap, l, rfl, hsl, hw, hz, hv⟩ := hs0
  have hl := hsl.len_le
  have c0 := k0.c0
  have c1 := k0.c1
  have HB := Lib.hid hb0
  by_cases h0 : l.length = 0
  · have hn0 : n.natAbs = 0 := by
      have : l = [] := List.eq_nil_of_length_eq_zero h0
      rw [this] at hv
      exact hv.symm
    have h1 : ((l.length : Int) == 0) = true := by rw [beq_iff_eq]; omega
    have HN := Lib.hid hn0
    clear hb h hs hsl hw hz hv hn0 hb0 k0 h0
    go_enter Tryz.func95, Tryz.ntmps95
    go_wp2_with fail
    go_ret
    exact ⟨0, rfl, by rw [HN.out]; exact ⟨by decide, fun h => absurd h (by decide)⟩, HB.out⟩
  · obtain ⟨i, hi⟩ : ∃ i, l.length = i + 1 := ⟨l.length - 1, by omega⟩
    obtain ⟨g, o, rfl, hg, hc⟩ := hsl.at (i := i) (by omega)
    have ct := hc i (by omega)
    obtain ⟨x, hx⟩ : ∃ x, nth l i = x := ⟨_, rfl⟩
    have hx0 : x ≠ 0 := by
      have := nth_of_Nz hz (by intro e; rw [e] at h0; exact h0 rfl)
      rw [← hx]; rwa [show i = l.length - 1 by omega]
    have hxb : x < 4294967296 := by rw [← hx]; exact hw.nth (by omega)
    rw [hx] at ct
    have h1 : ((l.length : Int) == 0) = false := by rw [beq_eq_false_iff_ne]; omega
    have q1 : (l.length : Int) - 1 = (i : Int) := by omega
    have hil : i < l.length := by omega
    have hi40 : i ≤ 1099511627776 := by omega
    have HV := Lib.hid (And.intro hv (And.intro hw (And.intro hi hx)))
    clear hb h hs hsl hw hz hv hb0 k0 h0 hc hx hi
    go_enter Tryz.func95, Tryz.ntmps95
    go_wp2_with fail
    go_loopw [3, 4] (fun y t wr => wr = w0 ∧ ∃ c : Nat, c ≤ 32 ∧ y = .int .i64 ((32 * i + c : Nat) : Int) ∧ t = .int .u32 ((x / 2 ^ c : Nat) : Int) ∧ (0 < c → 2 ^ (c - 1) ≤ x)) (fun y _ _ => 32 * i + 33 - (intOf y).toNat)
    case atStart => exact ⟨rfl, 0, by omega, by congr 1, by simp, fun h => absurd h (by decide)⟩
    case round =>
      obtain ⟨rfl, c, hc32, rfl, rfl, hpow⟩ := hrel
      by_cases ht : 0 < x / 2 ^ c
      · have hx2 : 2 ^ c ≤ x := by
          rcases Nat.lt_or_ge x (2 ^ c) with h | h
          · rw [Nat.div_eq_of_lt h] at ht; exact absurd ht (by decide)
          · exact h
        have hc31 : c + 1 ≤ 32 := by
          rcases Nat.lt_or_ge c 32 with h | h
          · omega
          · have : 2 ^ 32 ≤ 2 ^ c := Nat.pow_le_pow_right (by decide) h
            omega
        obtain ⟨t, htd⟩ : ∃ t, x / 2 ^ c = t := ⟨_, rfl⟩
        have et : t / 2 = x / 2 ^ (c + 1) := by rw [← htd, Nat.div_div_eq_div_mul, Nat.pow_succ]
        rw [htd] at ht ⊢
        obtain ⟨y, hy⟩ : ∃ y, 32 * i + c = y := ⟨_, rfl⟩
        rw [hy]
        have hyb : y ≤ 35184372088864 := by omega
        have HX := Lib.hid (And.intro hx2 (And.intro et hy))
        have e1 : shr32 t 1 = t / 2 := by unfold shr32; rfl
        have HE1 := Lib.hid e1
        clear hx2 htd et hpow hy e1
        go_wp2_with fail
        go_roundw
        case rel => exact ⟨by first | rfl | trivial, c + 1, hc31, by have := HX.out.2.2; congr 1; omega, by rw [← HX.out.2.1]; rfl, fun _ => by rw [Nat.add_sub_cancel]; exact HX.out.1⟩
        case measure => have := HX.out.2.2; simp [intOf]; omega
      · have hlt : x < 2 ^ c := by
          rcases Nat.lt_or_ge x (2 ^ c) with h | h
          · exact h
          · exact absurd (Nat.div_pos h (Nat.pow_pos (by decide))) ht
        have hcp : 0 < c := by
          rcases Nat.eq_zero_or_pos c with h | h
          · subst h; simp at hlt; exact absurd hlt hx0
          · exact h
        have hbits : IsBits n.natAbs (32 * i + c) := by
          have := isBits_words HV.out.2.1 HV.out.2.2.1 (c := c) (by rw [HV.out.2.2.2]; exact hlt) hcp (by rw [HV.out.2.2.2]; exact hpow hcp)
          rwa [HV.out.1] at this
        have HBT := Lib.hid hbits
        obtain ⟨y, hy⟩ : ∃ y, 32 * i + c = y := ⟨_, rfl⟩
        rw [hy] at HBT ⊢
        have ed : x / 2 ^ c = 0 := Nat.div_eq_of_lt hlt
        rw [ed]
        clear ht hlt hcp hbits ed hpow hy
        go_wp2_with fail
        go_ret
        exact ⟨y, rfl, HBT.out, HB.out⟩
end Go.Proofs.YtekghemhccfhkaaGreatDoor
namespace Go.Proofs.YtekghemhccfhkaaGreatDoor
open Go.RowKit Go.Big
set_option maxRecDepth 100000 in
set_option maxHeartbeats 4000000 in
/-- Mul -/
theorem nmul_any {v v' : Value} {m n : Int} {K : Nat} {w : World} (h : NumV w v m) (h' : NumV w v' n) (hK : K < 100000) (hm : m.natAbs < B32 ^ K) (hn : n.natAbs < B32 ^ K) : Calls Tryz.prog 72 #[v, v'] w (RetNum w (m * n)) := by
  obtain ⟨b1, a1, l1, p1, rfl, e1, h1⟩ := h.op
  obtain ⟨b2, a2, l2, p2, rfl, e2, h2⟩ := h'.op
  obtain ⟨w0, hw0, hb0, k0, k1, k2, hz0⟩ := nboxes3 w #[.bool b1, .slice a1 l1 p1] 30 #[.bool b2, .slice a2 l2 p2] 30 #[.bool false, .slice none 0 0] 30 (cb2 b1 h1.cb) (cb2 b2 h2.cb) (cb2 false cb_nil)
  have k0 : N2 w.heap.size b1 (.slice a1 l1 p1) w0 := k0
  have k1 : N2 (w.heap.size + 1) b2 (.slice a2 l2 p2) w0 := k1
  have k2 : N2 (w.heap.size + 1 + 1) false (.slice none 0 0) w0 := k2
  have h1 := h1.below hb0
  have h2 := h2.below hb0
  have HA := Lib.hid h1
  have HB := Lib.hid h2
  have HE := Lib.hid (And.intro e1 e2)
  have HM := Lib.hid (And.intro hK (And.intro hm hn))
  clear h h' h1 h2 e1 e2 hz0 hK hm hn
  have c00 := k0.c0
  have c01 := k0.c1
  have c10 := k1.c0
  have c11 := k1.c1
  go_enter Tryz.func72, Tryz.ntmps72
  go_wp2_with fail
  have n_k0 : w.heap.size ≠ w.heap.size + 1 + 1 := by omega
  have n_k1 : w.heap.size + 1 ≠ w.heap.size + 1 + 1 := by omega
  have hg : w.heap.size ≤ w.heap.size + 1 + 1 := by omega
  have k0 : N2 w.heap.size b1 (.slice a1 l1 p1) w0.drew := k0
  have k1 : N2 (w.heap.size + 1) b2 (.slice a2 l2 p2) w0.drew := k1
  have k2 : N2 (w.heap.size + 1 + 1) false (.slice none 0 0) w0.drew := k2
  have hc : Below w0.heap.size w0 w0.drew := (Below.refl _ _).drew
  have hs : Below w.heap.size w w0.drew := hb0.drew
  go_region_held3 (fun w' => w'.cell? ⟨w.heap.size, 0, none⟩ = some (.bool b1) ∧ w'.cell? ⟨w.heap.size, 1, none⟩ = some (.slice a1 l1 p1) ∧ w'.cell? ⟨(w.heap.size + 1), 0, none⟩ = some (.bool b2) ∧ w'.cell? ⟨(w.heap.size + 1), 1, none⟩ = some (.slice a2 l2 p2) ∧ Below w.heap.size w w') (first | (with_reducible exact ⟨k0.c0, k0.c1, k1.c0, k1.c1, hs⟩) | (with_reducible exact ⟨(k0.o2 n_k0 _ _).c0, (k0.o2 n_k0 _ _).c1, (k1.o2 n_k1 _ _).c0, (k1.o2 n_k1 _ _).c1, hs.sn2 hg _ _⟩) | fail) (first | (go_at_call 117; (with_reducible refine (mulMag_any (K := K) (HA.out.below hc) (HB.out.below hc) (Nat.lt_trans HM.out.1 (by decide)) HM.out.2.1 HM.out.2.2).mono ?_); rintro e w1 ⟨v1, rfl, hv1, hb1⟩; have k0 := k0.below hb1; have k1 := k1.below hb1; have k2 := k2.below hb1; have hs := hs.trans (hb1.mono hs.size); have hc := hc.trans (hb1.mono hc.size)) | (go_at_call 100; (with_reducible refine (make1_any (!(b1 == b2)) hv1).mono ?_); rintro e w2 ⟨v2, rfl, hv2, hb2⟩; have k0 := k0.below hb2; have k1 := k1.below hb2; have k2 := k2.below hb2; have hs := hs.trans (hb2.mono hs.size); have hc := hc.trans (hb2.mono hc.size); obtain ⟨rb, rao, rk, rcap, rfl, hrb, hrs⟩ := hv2.op; have HRB := Lib.hid hrb; clear hrb; have d0 := k2.c0; have d1 := k2.c1; have f0 := k2.f 0; have f1 := k2.f 1) | fail)
  obtain ⟨WW, hWW⟩ : ∃ WW, (w2.setCell ⟨w.heap.size + 1 + 1, 0, none⟩ (.bool rb)).setCell ⟨w.heap.size + 1 + 1, 1, none⟩ (.slice rao rk rcap) = WW := ⟨_, rfl⟩
  rw [hWW]
  have hval := (show signed (!(b1 == b2)) (m.natAbs * n.natAbs) = m * n from nmul_sign HE.out.1 HE.out.2)
  have hrb := HRB.out
  rw [hval] at hrb hrs
  obtain ⟨z0, z1, z2⟩ := ret_num (n := m * n) k2 hrb hrs hs hg hWW
  have HZ := Lib.hid z2
  clear hs hc d0 d1 f0 f1 hWW z2 k0 k1 k2 hrb hrs
  go_wp2_with fail
  exact bodyPost_ret (v := .agg #[.bool rb, .slice rao rk rcap]) (by simp [results, Tryz.results72, go_sem, z0, z1]) rfl HZ.out
end Go.Proofs.YtekghemhccfhkaaGreatDoor
namespace Go.Proofs.YtekghemhccfhkaaGreatDoor
open Go.RowKit Go.Big
end Go.Proofs.YtekghemhccfhkaaGreatDoor
namespace Go.Big
open Go Go.RowKit
theorem len_pow {l K m M : Nat} (h0 : 0 < M) (hm : m < 4294967296 ^ K) (h : M * 1000000000 ^ l ≤ m) : l < 32 * K := by
  have h1 : 2 ^ l ≤ 1000000000 ^ l := Nat.pow_le_pow_left (by decide) l
  have h2 : 1 * 1000000000 ^ l ≤ M * 1000000000 ^ l := Nat.mul_le_mul_right _ h0
  have h3 : (4294967296 : Nat) ^ K = 2 ^ (32 * K) := by rw [show (4294967296 : Nat) = 2 ^ 32 from rfl, ← Nat.pow_mul]
  exact (Nat.pow_lt_pow_iff_right (a := 2) (by decide)).1 (by omega)
theorem dig_step {m M : Nat} {l : List Nat} (h : m = M * 1000000000 ^ l.length + val 1000000000 l) : m = M / 1000000000 * 1000000000 ^ (l ++ [M % 1000000000]).length + val 1000000000 (l ++ [M % 1000000000]) := by
  rw [List.length_append, val_append, h, List.length_singleton, Nat.pow_succ]
  simp only [val, Nat.mul_zero, Nat.add_zero]
  have := Nat.div_add_mod M 1000000000
  generalize M / 1000000000 = q at *
  generalize M % 1000000000 = r at *
  subst this
  grind
theorem dig_nz {M : Nat} {l : List Nat} (h : 0 < M) : M / 1000000000 = 0 → l ++ [M % 1000000000] ≠ [] ∧ Nz (l ++ [M % 1000000000]) := by
  intro h0
  refine ⟨by simp, ?_⟩
  unfold Nz
  rw [List.getLast?_append]
  simp
  omega
theorem p10_div {j : Nat} (h : j ≤ 8) : 100000000 / 10 ^ j = 10 ^ (8 - j) := by
  have : (100000000 : Nat) = 10 ^ (8 - j) * 10 ^ j := by rw [← Nat.pow_add, Nat.sub_add_cancel h]
  rw [this, Nat.mul_div_cancel _ (Nat.pow_pos (by decide))]
theorem p10_pos {j : Nat} (h : 0 < 100000000 / 10 ^ j) : j ≤ 8 := by
  rcases Nat.lt_or_ge 8 j with h1 | h1
  · have h2 : 10 ^ 9 ≤ 10 ^ j := Nat.pow_le_pow_right (by decide) h1
    rw [Nat.div_eq_of_lt (Nat.lt_of_lt_of_le (by decide) h2)] at h
    exact absurd h (by decide)
  · exact h1
theorem dg_next {D : List Nat} {j p d : Nat} (hd : 100000000 / 10 ^ j = d) (h0 : 0 < d) :
    j ≤ 8 ∧ D ++ digs (j + 1) (p / 10 ^ (9 - (j + 1))) = (D ++ digs j (p / 10 ^ (9 - j))) ++ [48 + p / d % 10] ∧ 100000000 / 10 ^ (j + 1) = d / 10 := by
  have hj : j ≤ 8 := p10_pos (by rw [hd]; exact h0)
  refine ⟨hj, ?_, ?_⟩
  · rw [← hd, p10_div hj, show 9 - (j + 1) = 8 - j by omega, List.append_assoc]
    congr 1
    simp only [digs]
    rw [Nat.div_div_eq_div_mul, ← Nat.pow_succ, show (8 - j).succ = 9 - j by omega]
  · rw [← hd, Nat.div_div_eq_div_mul, Nat.pow_succ]
theorem dg_outer {l : List Nat} {i p : Nat} (hw : Wd 1000000000 l) (hi : i < l.length) (hp : nth l i = p) :
    digs (9 * (l.length - i)) (val 1000000000 (l.drop i)) = digs (9 * (l.length - (i + 1))) (val 1000000000 (l.drop (i + 1))) ++ digs 9 p := by
  rw [show 9 * (l.length - i) = 9 * (l.length - (i + 1)) + 9 by omega, digs_add, drop_val_nth 1000000000 l i hi, hp]
  have hb : p < 1000000000 := by rw [← hp]; exact hw.nth hi
  generalize val 1000000000 (l.drop (i + 1)) = V
  have e1 : (p + 1000000000 * V) / 10 ^ 9 = V := by
    rw [show (10 : Nat) ^ 9 = 1000000000 from rfl]; omega
  have e2 : digs 9 (p + 1000000000 * V) = digs 9 p := by
    rw [← digs_mod 9 9 (p + 1000000000 * V) (Nat.le_refl _)]
    congr 1
    rw [show (10 : Nat) ^ 9 = 1000000000 from rfl]; omega
  rw [e1, e2]
theorem sk_len (l : List Nat) : (sk l).length ≤ l.length := (List.dropWhile_suffix _).length_le
end Go.Big
namespace Go.Proofs.YtekghemhccfhkaaGreatDoor
open Go.RowKit Go.Big
def DigPost (w : World) (m : Nat) (e : Ending) (w' : World) : Prop := e = .returned (.string ⟨(Lib.decDigits m).toArray⟩) ∧ Below w.heap.size w w'
set_option maxRecDepth 100000 in
set_option maxHeartbeats 4000000 in
/-- Digits -/
theorem ndigits_any {v : Value} {n : Int} {K : Nat} {w : World} (h : NumV w v n) (hK : K < 100000) (hm : n.natAbs < B32 ^ K) : Calls Tryz.prog 61 #[v] w (DigPost w n.natAbs) := by
  obtain ⟨b, ao, k0', cap, rfl, e1, h1⟩ := h.op
  obtain ⟨w0, hw0, hb0, k0, hz0⟩ := nbox1 w #[.bool b, .slice ao k0' cap] 30 (cb2 b h1.cb)
  have k0 : N2 w.heap.size b (.slice ao k0' cap) w0 := k0
  have h1 := h1.below hb0
  obtain ⟨m, hmd⟩ : ∃ m, n.natAbs = m := ⟨_, rfl⟩
  rw [hmd] at h1 hm ⊢
  obtain ⟨ao', cap', l', el, hsl, hwl, hzl, hvl⟩ := id h1
  simp only [Value.slice.injEq] at el
  obtain ⟨rfl, hkl, rfl⟩ := el
  have hlm := hsl.len_le
  have c0 := k0.c0
  have c1 := k0.c1
  by_cases hm0 : m = 0
  · have hk0 : ((k0' : Int) == 0) = true := by
      rw [hm0] at hvl
      rw [beq_iff_eq, hkl, (val_zero_iff (B := B32) (by decide) hzl).1 hvl]; rfl
    have HB := Lib.hid hb0
    have HM := Lib.hid hm0
    clear h h1 hsl hwl hzl hvl hkl hm hmd hm0 k0 hb0 e1
    go_enter Tryz.func61, Tryz.ntmps61
    go_wp2_with fail
    go_ret
    exact ⟨by rw [HM.out, Lib.decDigits_one (by omega)]; rfl, HB.out⟩
  · have hk0 : ((k0' : Int) == 0) = false := by
      rw [beq_eq_false_iff_ne]; intro h0
      have : l' = [] := List.eq_nil_of_length_eq_zero (by omega)
      rw [this] at hvl; exact hm0 hvl.symm
    have HN := Lib.hid h1
    have HM := Lib.hid (And.intro hK (And.intro hm hm0))
    have HB0 := Lib.hid hb0
    clear h h1 hsl hwl hzl hvl hkl hm hmd hm0 k0 hK e1 hb0
    go_enter Tryz.func61, Tryz.ntmps61
    go_wp2_with fail
    go_loopg [3, 4] m (fun gg parts mv wr => ∃ (M : Nat) (l : List Nat), M ≤ gg ∧ NatV wr .u32 B32 mv M ∧ Ow wr w0.heap.size 73 .u32 parts l ∧ Wd 1000000000 l ∧ m = M * 1000000000 ^ l.length + val 1000000000 l ∧ (M = 0 → l ≠ [] ∧ Nz l) ∧ l.length ≤ 32 * K ∧ Below w0.heap.size w0 wr)
    case atStart => exact ⟨m, [], Nat.le_refl _, HN.out, Ow.nil _ _ _ _, by intro x hx; simp at hx, by simp [val], fun h0 => absurd h0 HM.out.2.2, Nat.zero_le _, Below.refl _ _⟩
    case round =>
      obtain ⟨M, l, hgg, hM, hO, hw, hv, hz, hll, hbel⟩ := hrel
      obtain ⟨mo, mc, ml, rfl, hsl, hwl, hzl, hvl⟩ := id hM
      obtain ⟨po, pc, rfl⟩ := hO.shape
      have hlm := hsl.len_le
      have hl40 : l.length ≤ 3200000 := by have := HM.out.1; omega
      by_cases h0 : 0 < ml.length
      · have hMp : 0 < M := by
          rcases Nat.eq_zero_or_pos M with h3 | h3
          · rw [h3] at hvl
            rw [(val_zero_iff (B := B32) (by decide) hzl).1 hvl] at h0; simp at h0
          · exact h3
        have hll2 := len_pow hMp HM.out.2.1 (l := l.length) (by rw [hv]; exact Nat.le_add_right _ _)
        have HSD := Lib.hid (smallDiv_fresh hM (d := 1000000000) (by decide) (by decide))
        have HX := Lib.hid (And.intro hO (And.intro hw (And.intro hv (And.intro hbel (And.intro hgg (And.intro hMp hll2))))))
        clear hM hO hw hv hz hbel hsl hwl hzl hvl hgg hMp hll hll2
        go_wp2_with fail
        refine HSD.out.mono ?_
        rintro e w1 ⟨qk, qc, rfl, hq, hb1⟩
        have hbel1 := HX.out.2.2.2.1.trans (hb1.mono HX.out.2.2.2.1.size)
        obtain ⟨v', w2, hrun, hO2, hb2, hkeep⟩ := run_app_own (P := Tryz.prog) (t := 28) (e := 73) (k := .u32) (bytes := 4) (x := M % 1000000000) (ty := 28) Tryz.underlying28 (by kernel_rfl) (by decide) (HX.out.1.below hb1) hbel1.size (by omega)
        have HAP := Lib.hid hrun
        have HO2 := Lib.hid hO2
        have HB2 := Lib.hid (hbel1.trans hb2)
        have HQ := Lib.hid (hq.keep (w' := w2) (fun h => hkeep _ h (HX.out.1.block (Nat.le_refl _))) hb2.size)
        clear HSD hrun hO2 hq hbel1 hkeep
        go_wp2_with (at_builtin; refine wpList_append_run rfl (.tmp 25) (.tmp 27) 28 28 rfl _ _ rfl rfl _ _ HAP.out ?_)
        go_roundg (M / 1000000000)
        case rel => exact ⟨M / 1000000000, l ++ [M % 1000000000], Nat.le_refl _, HQ.out, HO2.out, HX.out.2.1.append (by intro y hy; simp at hy; subst hy; exact Nat.mod_lt _ (by decide)), dig_step HX.out.2.2.1, dig_nz HX.out.2.2.2.2.2.1, by rw [List.length_append]; have := HX.out.2.2.2.2.2.2; simp; omega, HB2.out⟩
        case measure => have h5 := HX.out.2.2.2.2.1; have h6 := HX.out.2.2.2.2.2.1; have h7 := Nat.div_lt_self h6 (by decide : 1 < 1000000000); omega
      · have hM0 : M = 0 := by
          have : ml = [] := List.eq_nil_of_length_eq_zero (by omega)
          subst this
          rw [← hvl]; rfl
        subst hM0
        obtain ⟨hlne, hlz⟩ := hz rfl
        rw [Nat.zero_mul, Nat.zero_add] at hv
        have hlpos : 0 < l.length := List.length_pos_iff.2 hlne
        have hps := hO.sl (by omega)
        have HX := Lib.hid (And.intro hps (And.intro hw (And.intro hv (And.intro hlz hlpos))))
        have HBL := Lib.hid hbel
        clear hM hO hw hv hz hbel hsl hwl hzl hvl hgg hll hlne hlz hps
        generalize wr = wA at *
        go_wp2_with fail
        go_loopw [7, 8] (fun out y ws => ∃ (k : Nat) (bs : List Nat), k ≤ l.length ∧ y = .int .i64 ((k : Int) - 1) ∧ Ow ws wA.heap.size 5 .u8 out bs ∧ bs = sk (digs (9 * (l.length - k)) (val 1000000000 (l.drop k))) ∧ Below wA.heap.size wA ws) (fun _ y _ => (intOf y + 1).toNat)
        case atStart => exact ⟨l.length, [], Nat.le_refl _, rfl, Ow.nil _ _ _ _, by rw [Nat.sub_self]; rfl, Below.refl _ _⟩
        case round =>
          obtain ⟨k, bs, hk, rfl, hO, hbs, hbel⟩ := hrel
          obtain ⟨oo, oc, rfl⟩ := hO.shape
          rcases Nat.eq_zero_or_pos k with hk0 | hpos
          · subst hk0
            rw [Nat.sub_zero, List.drop_zero] at hbs
            have hn9 : m < 10 ^ (9 * l.length) := by
              have h5 := val_lt HX.out.2.1
              rw [← HX.out.2.2.1] at h5
              rw [Nat.pow_mul]; exact h5
            have hstr := sk_digs (Nat.pos_of_ne_zero HM.out.2.2) hn9
            rw [HX.out.2.2.1] at hstr
            rw [← hbs, ← HX.out.2.2.1] at hstr
            have hsl8 := hO.sl (by
              have h7 := sk_len (digs (9 * l.length) (val 1000000000 l))
              rw [← hbs, digs_len] at h7; omega)
            have hpos' : 0 < bs.length := by
              rcases Nat.eq_zero_or_pos bs.length with h | h
              · rw [List.eq_nil_of_length_eq_zero h] at hstr
                have h9 := dd_dec m
                rw [← hstr] at h9
                exact absurd h9.symm HM.out.2.2
              · exact h
            obtain ⟨g8, o8, rfl, _, hc8⟩ := hsl8.at hpos'
            have hrng : ∀ x ∈ bs, x ≤ 57 := fun x hx => by
              rw [hbs] at hx
              exact (digs_range _ _ x ((List.dropWhile_sublist _).subset hx)).2
            have hconv : (convert 39 9 (.slice (some ⟨g8, o8, none⟩) bs.length oc)).run Tryz.prog wr = .ok (.string ⟨(Lib.decDigits m).toArray⟩) wr := by
              have := run_convert_bytes_back (P := Tryz.prog) wr 39 9 5 ⟨g8, o8, none⟩ oc (bs.map UInt8.ofNat) Tryz.underlying39 Tryz.underlying5 Tryz.underlying9 (fun j hj => by
                rw [List.length_map] at hj
                have h2 : (⟨g8, o8, none⟩ : Addr).add j = ⟨g8, o8 + j, none⟩ := by unfold Addr.add; split <;> simp_all
                rw [h2, hc8 j hj]
                have h3 := hrng _ (List.getElem_mem hj)
                rw [List.getElem_map, nth_lt hj, UInt8.toNat_ofNat', Nat.mod_eq_of_lt (by omega)])
              rw [List.length_map, hstr] at this
              exact this
            have HB9 := Lib.hid (HB0.out.trans ((HBL.out.trans (hbel.mono HBL.out.size)).mono HB0.out.size))
            clear hO hbs hbel hstr hsl8 hpos' hc8 hrng
            go_wp2_with fail
            go_ret
            exact ⟨rfl, HB9.out⟩
          · obtain ⟨i, rfl⟩ : ∃ i, k = i + 1 := ⟨k - 1, by omega⟩
            obtain ⟨p, hp⟩ : ∃ p, nth l i = p := ⟨_, rfl⟩
            obtain ⟨D, hD⟩ : ∃ D, digs (9 * (l.length - (i + 1))) (val 1000000000 (l.drop (i + 1))) = D := ⟨_, rfl⟩
            rw [hD] at hbs
            obtain ⟨gp, op, rfl, hgp, hcp⟩ := HX.out.1.at (i := i) (by omega)
            have hpb : p < 1000000000 := by rw [← hp]; exact HX.out.2.1.nth (by omega)
            have e1 : (((i + 1 : Nat) : Int) - 1) = i := by omega
            rw [e1]
            have HO := Lib.hid hO
            have HB2 := Lib.hid hbel
            have HD := Lib.hid (And.intro hD (And.intro hp hbs))
            have HCP := Lib.hid (And.intro hgp hcp)
            have hil : (i : Int) < (l.length : Int) := by omega
            clear hO hbel hD hp hbs e1 hgp hcp
            go_wp2_with fail
            go_loopw [7, 9] (fun out dv ws => ∃ (j : Nat) (bs : List Nat), j ≤ 9 ∧ dv = .int .u32 ((100000000 / 10 ^ j : Nat) : Int) ∧ Ow ws wA.heap.size 5 .u8 out bs ∧ bs = sk (D ++ digs j (p / 10 ^ (9 - j))) ∧ Below wA.heap.size wA ws) (fun _ dv _ => (intOf dv).toNat)
            case atStart => exact ⟨0, bs, by omega, by simp, HO.out, by rw [HD.out.2.2]; simp [digs], HB2.out⟩
            case round =>
              obtain ⟨j, bs2, hj, rfl, hO, hbs2, hbel⟩ := hrel
              obtain ⟨oo2, oc2, rfl⟩ := hO.shape
              obtain ⟨d, hd⟩ : ∃ d, 100000000 / 10 ^ j = d := ⟨_, rfl⟩
              rw [hd]
              have cp := (hbel.cell (p := ⟨gp, op + i, none⟩) HCP.out.1).trans (HCP.out.2 i (by omega))
              rw [HD.out.2.1] at cp
              have hdb : d ≤ 100000000 := by rw [← hd]; exact Nat.div_le_self _ _
              by_cases hd0 : 0 < d
              · have HX2 := Lib.hid (And.intro hO (And.intro hbs2 (And.intro hbel hd)))
                clear hO hbs2 hbel hd
                obtain ⟨cc, hcc⟩ : ∃ c, 48 + p / d % 10 = c := ⟨_, rfl⟩
                have ec : 48 + (p : Int) / (d : Int) % 4294967296 % 10 = (cc : Int) := by
                  have h5 : p / d < 4294967296 := Nat.lt_of_le_of_lt (Nat.div_le_self _ _) (by omega)
                  have h6 : ((p / d : Nat) : Int) = (p : Int) / (d : Int) := Int.natCast_ediv p d
                  rw [← h6]
                  generalize p / d = t at *
                  omega
                have hnx := dg_next (D := D) (p := p) HX2.out.2.2.2 hd0
                rw [hcc] at hnx
                have HJ : Hid (j + 1 ≤ 9 ∧ D ++ digs (j + 1) (p / 10 ^ (9 - (j + 1))) = (D ++ digs j (p / 10 ^ (9 - j))) ++ [cc] ∧ 100000000 / 10 ^ (j + 1) = d / 10) := ⟨by have := hnx.1; omega, hnx.2.1, hnx.2.2⟩
                have HBL2 : Hid (bs2.length ≤ 30000000) := by
                  have h7 := sk_len (D ++ digs j (p / 10 ^ (9 - j)))
                  rw [← HX2.out.2.1, List.length_append, digs_len, ← HD.out.1, digs_len] at h7
                  exact (by omega : bs2.length ≤ 30000000)
                clear hnx hcc
                by_cases hl0 : 0 < bs2.length
                · have h1 : decide (0 < bs2.length) = true := decide_eq_true hl0
                  obtain ⟨v', w2, hrun, hO2, hb2, _⟩ := run_app_own (P := Tryz.prog) (t := 39) (e := 5) (k := .u8) (bytes := 1) (x := cc) (ty := 39) Tryz.underlying39 (by kernel_rfl) (by decide) HX2.out.1 HX2.out.2.2.1.size (by have := HBL2.out; omega)
                  have HAP := Lib.hid hrun
                  have HO2 := Lib.hid hO2
                  have HB3 := Lib.hid (HX2.out.2.2.1.trans hb2)
                  clear hrun hO2 hb2
                  go_wp2_with (at_builtin; refine wpList_append_run rfl (.tmp 57) (.tmp 59) 39 39 rfl _ _ rfl rfl _ _ HAP.out ?_)
                  go_roundw
                  case rel => exact ⟨j + 1, bs2 ++ [cc], HJ.out.1, by rw [HJ.out.2.2]; first | rfl | (congr 1; omega), HO2.out, by rw [HJ.out.2.1, sk_snoc, ← HX2.out.2.1, if_neg (by rintro ⟨h8, _⟩; rw [h8] at hl0; simp at hl0)], HB3.out⟩
                  case measure => simp [intOf]; omega
                · have hbs0 : bs2 = [] := List.eq_nil_of_length_eq_zero (by omega)
                  by_cases hc48 : cc = 48
                  · subst hc48
                    have h1 : decide (0 < bs2.length) = false := decide_eq_false hl0
                    have HB0' := Lib.hid hbs0
                    clear hbs0 hl0
                    go_wp2_with fail
                    go_roundw
                    case rel => exact ⟨j + 1, [], HJ.out.1, by rw [HJ.out.2.2]; first | rfl | (congr 1; omega), by have h9 := HX2.out.1; rw [HB0'.out] at h9 ⊢; exact h9, by rw [HJ.out.2.1, sk_snoc, ← HX2.out.2.1, if_pos ⟨HB0'.out, rfl⟩], HX2.out.2.2.1⟩
                    case measure => simp [intOf]; omega
                  · have h1 : decide (0 < bs2.length) = false := decide_eq_false hl0
                    have h2 : ((cc : Int) != 48) = true := by rw [bne_iff_ne]; omega
                    have HC48 := Lib.hid hc48
                    clear hbs0 hl0 hc48
                    obtain ⟨v', w2, hrun, hO2, hb2, _⟩ := run_app_own (P := Tryz.prog) (t := 39) (e := 5) (k := .u8) (bytes := 1) (x := cc) (ty := 39) Tryz.underlying39 (by kernel_rfl) (by decide) HX2.out.1 HX2.out.2.2.1.size (by have := HBL2.out; omega)
                    have HAP := Lib.hid hrun
                    have HO2 := Lib.hid hO2
                    have HB3 := Lib.hid (HX2.out.2.2.1.trans hb2)
                    clear hrun hO2 hb2
                    go_wp2_with (at_builtin; refine wpList_append_run rfl (.tmp 57) (.tmp 59) 39 39 rfl _ _ rfl rfl _ _ HAP.out ?_)
                    go_roundw
                    case rel => exact ⟨j + 1, bs2 ++ [cc], HJ.out.1, by rw [HJ.out.2.2]; first | rfl | (congr 1; omega), HO2.out, by rw [HJ.out.2.1, sk_snoc, ← HX2.out.2.1, if_neg (by rintro ⟨_, h8⟩; exact HC48.out h8)], HB3.out⟩
                    case measure => simp [intOf]; omega
              · have hj9 : j = 9 := by
                  rcases Nat.lt_or_ge 8 j with h | h
                  · omega
                  · rw [← hd, p10_div h] at hd0
                    exact absurd (Nat.pow_pos (by decide)) hd0
                subst hj9
                rw [Nat.sub_self, Nat.pow_zero, Nat.div_one, ← HD.out.1, ← dg_outer HX.out.2.1 (by omega) HD.out.2.1] at hbs2
                have HX2 := Lib.hid (And.intro hO (And.intro hbs2 hbel))
                clear hO hbs2 hbel hd
                go_wp2_with fail
                go_roundw
                case rel => exact ⟨i, bs2, by omega, by first | rfl | go_num, HX2.out.1, HX2.out.2.1, HX2.out.2.2⟩
                case measure => simp [intOf]
end Go.Proofs.YtekghemhccfhkaaGreatDoor
