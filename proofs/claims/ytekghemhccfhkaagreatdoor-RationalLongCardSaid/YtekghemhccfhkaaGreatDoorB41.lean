/-
  Walks of the program's functions: Pieces, TimesAll.
-/
import Derived.Test.YtekghemhccfhkaaGreatDoorB40
import Derived.Deep.LoopGhost
namespace Go.Big
open Go Go.RowKit
def PcRel (w : World) (p n A Bv : Nat) (gk : Nat) (x : Value) (wr : World) : Prop :=
  ∃ (i : Nat) (cur : List Nat), gk = p - i ∧ i ≤ p + p ∧ x = .int .i64 (i : Int) ∧ isRow wr w.heap.size 71 .u64 cur ∧ cur.length = n ∧ Wd B64 cur ∧ val B64 cur = A % B64 ^ i * Bv ∧ Below w.heap.size w wr
end Go.Big
namespace Go.Proofs.YtekghemhccfhkaaGreatDoor
open Go.RowKit Go.Big
set_option maxRecDepth 100000 in
set_option maxHeartbeats 1000000 in
theorem pieces_core {ao bo : Option Addr} {capa capb : Nat} {la lb : List Nat} {w : World} (sa : SlA w .u64 ao capa la) (sb : SlA w .u64 bo capb lb)
    (wa : Wd B64 la) (wb : Wd B64 lb) (na : Nz la) (nb : Nz lb) (h100 : 100 ≤ lb.length) (h2 : 2 * lb.length ≤ la.length) (hmax : la.length ≤ 1000000000) (ih : TIH (la.length + lb.length)) :
    Calls Tryz.prog 180 #[.slice ao la.length capa, .slice bo lb.length capb] w (RetNatN w (val B64 la * val B64 lb)) := by
  obtain ⟨p, hp⟩ : ∃ p, la.length = p := ⟨_, rfl⟩
  obtain ⟨q, hq⟩ : ∃ q, lb.length = q := ⟨_, rfl⟩
  obtain ⟨n, hn⟩ : ∃ n, p + q = n := ⟨_, rfl⟩
  have hni : (p : Int) + (q : Int) = (n : Int) := by omega
  obtain ⟨A, hA⟩ : ∃ A, val B64 la = A := ⟨_, rfl⟩
  obtain ⟨B, hB⟩ : ∃ B, val B64 lb = B := ⟨_, rfl⟩
  have ha : NatV w .u64 B64 (.slice ao p capa) A := ⟨ao, capa, la, by rw [hp], sa, wa, na, hA⟩
  have hb : NatV w .u64 B64 (.slice bo q capb) B := ⟨bo, capb, lb, by rw [hq], sb, wb, nb, hB⟩
  have hAl : A < B64 ^ p := by rw [← hA, ← hp]; exact val_lt wa
  have hBl : B < B64 ^ q := by rw [← hB, ← hq]; exact val_lt wb
  rw [hp, hq, hA, hB]
  rw [hp, hq] at ih
  rw [hp, hq] at h2
  rw [hp] at hmax
  rw [hq] at h100
  have hmk := mk64 ((p : Int) + (q : Int)) n (by omega) (by omega) w
  obtain ⟨W, hW, hbW, hrW⟩ : ∃ W, w.alloc (.cells (cellsOf .u64 (zeros n)) 71) = W ∧ Below w.heap.size w W ∧ isRow W w.heap.size 71 .u64 (zeros n) := ⟨_, rfl, (Below.refl _ _).alloc (Nat.le_refl _) _, isRow_alloc _ _ _ _⟩
  rw [hW, hni] at hmk
  have HA := Lib.hid ha
  have HB := Lib.hid hb
  have HAB := Lib.hid (And.intro hAl hBl)
  have HN := Lib.hid hn
  have HST := Lib.hid (show PcRel w p n A B p (.int .i64 0) W from ⟨0, zeros n, by omega, by omega, rfl, hrW, zeros_len n, zeros_wd (by decide) n, by rw [zeros_val, Nat.pow_zero, Nat.mod_one, Nat.zero_mul], hbW⟩)
  have hq1 : q ≤ 1099511627776 := by omega
  have hpq : q + q < p + q := by omega
  have hq0 : 0 < q := by omega
  have hnm : n ≤ 2000000000 := by omega
  clear sa sb wa wb na nb hA hB ha hb hAl hBl hp hq hn hbW hrW
  go_enter Tryz.func180, Tryz.ntmps180
  go_wp2_with fail
  go_loopg [6] p (fun gk x wr => PcRel w p n A B gk x wr)
  case atStart => exact HST.out
  case round =>
    clear HST
    obtain ⟨i, cur, hgk, hip, rfl, hr, hl, hwd, hv, hb⟩ := hrel
    have HBl := Lib.hid hb
    have HV := Lib.hid (And.intro hl (And.intro hwd hv))
    rcases Nat.lt_or_ge i p with hlt | hge
    · have hsl : ∀ W, (Instr.slice 108 (.slice (some ⟨w.heap.size, 0, none⟩) n n) (some (.int .i64 (i : Int))) none none).run Tryz.prog W = .ok (.slice (dropA (some ⟨w.heap.size, 0, none⟩) n i) (n - i) (n - i)) W := fun W => from64 (some ⟨w.heap.size, 0, none⟩) n n i (by have := HN.out; omega) W
      have hdr : dropA (some ⟨w.heap.size, 0, none⟩) n i = some ⟨w.heap.size, i, none⟩ := by
        unfold dropA
        rw [if_neg (by have := HN.out; omega)]
        unfold Addr.add
        by_cases h0 : i = 0
        · subst h0; simp
        · simp [h0]
      rw [hdr] at hsl
      have HROW := Lib.hid (show isRow wr.drew w.heap.size 71 .u64 (cur.take i ++ (cur.drop i ++ [])) from by rw [List.append_nil, List.take_append_drop]; exact hr)
      have hgd : w.heap.size < wr.drew.heap.size := hr.lt
      have hc : Below wr.heap.size wr wr.drew := (Below.refl _ _).drew
      have HA1 := Lib.hid ((HA.out.below hb).below hc)
      have HB1 := Lib.hid ((HB.out.below hb).below hc)
      have him : i ≤ 1099511627776 := by omega
      have hct : (cur.take i).length = i := by rw [List.length_take, hl]; have := HN.out; omega
      have hcd : (cur.drop i).length = n - i := by rw [List.length_drop, hl]
      have hcw : Wd B64 (cur.drop i) := hwd.drop i
      have hnl : n - i ≤ 1099511627776 := by omega
      obtain ⟨X, hX⟩ : ∃ X, A / B64 ^ i % B64 ^ q = X := ⟨_, rfl⟩
      have hXq : X < B64 ^ q := by rw [← hX]; exact Nat.mod_lt _ (Nat.pow_pos (by decide))
      have hXi : X * B < B64 ^ (n - i) := by
        have h1 : A / B64 ^ i < B64 ^ (p - i) := by
          rw [Nat.div_lt_iff_lt_mul (Nat.pow_pos (by decide)), ← Nat.pow_add, Nat.sub_add_cancel (Nat.le_of_lt hlt)]; exact HAB.out.1
        have h3 : X < B64 ^ (p - i) := Nat.lt_of_le_of_lt (by rw [← hX]; exact Nat.mod_le _ _) h1
        rw [show n - i = (p - i) + q by have := HN.out; omega, Nat.pow_add]
        exact Nat.mul_lt_mul'' h3 HAB.out.2
      have HX := Lib.hid hX
      have hih : ∀ {va : Value} {w' : World}, NatV w' .u64 B64 va X → NatV w' .u64 B64 (.slice bo q capb) B → Calls Tryz.prog 139 #[va, .slice bo q capb] w' (RetNatN w' (X * B)) := fun h1 h3 => ih h1 h3 hXq HAB.out.2 hpq
      clear hb hr hv hwd hl hX
      go_wp2_with fail
      go_region_held3 (fun w' => True) (exact trivial) (first
        | (go_at_call 209; (with_reducible refine (high_any (k := i) HA1.out him).mono ?_); rintro e w1 ⟨v1, rfl, hv1, hb1⟩; have hrow := HROW.out.below hb1; have hB1 := HB1.out.below hb1; have hc := hc.trans (hb1.mono hc.size); have hg1 := Nat.lt_of_lt_of_le hgd hb1.size)
        | (go_at_call 211; (with_reducible refine (low_any (k := q) hv1 hq1).mono ?_); rintro e w2 ⟨v2, rfl, hv2, hb2⟩; have hrow := hrow.below hb2; have hB1 := hB1.below hb2; have hc := hc.trans (hb2.mono hc.size); have hg1 := Nat.lt_of_lt_of_le hg1 hb2.size; rw [HX.out] at hv2)
        | (go_at_call 139; (with_reducible refine (hih hv2 hB1).mono ?_); rintro e w3 ⟨v3, rfl, hv3, hfr, hb3⟩; have hrow := hrow.below hb3; have hc := hc.trans (hb3.mono hc.size); obtain ⟨mo, cm, lm, rfl, sm, wm, nm, em, lenm⟩ := natv_len hv3 hXi; have hne : lm ≠ [] → ∀ p, mo = some p → p.block ≠ w.heap.size := fun hlm p hp => Ne.symm (Nat.ne_of_lt (Nat.lt_of_lt_of_le hg1 (hfr rfl (fun h => hlm (List.length_eq_zero_iff.1 h)) hp))))
        | (go_at_call 213; (with_reducible refine (addTo_at hrow hcw wm sm hne (by omega) (by omega) hcd hct rfl).mono ?_); rintro e w4 ⟨seg, c, rfl, hw4, hadd⟩) | fail)
      rw [List.append_nil] at hw4
      subst hw4
      have hRel : PcRel w p n A B (gk - q) (.int .i64 ((i + q : Nat) : Int)) (wput w3 w.heap.size .u64 (cur.take i ++ seg)) := by
        refine ⟨i + q, cur.take i ++ seg, by omega, by omega, rfl, hrow.put _, ?_, ?_, ?_, ?_⟩
        · rw [List.length_append, hct, hadd.len, hcd]; have := HN.out; omega
        · exact (HV.out.2.1.take i).append hadd.wd
        · have e1 := hadd.eq
          rw [hcd, em] at e1
          have e2 := take_drop_val B64 cur i (by have := HV.out.1; have := HN.out; omega)
          have e3 := HV.out.2.2
          have hcar := hadd.carry
          rw [val_append, hct]
          have hpw : B64 ^ i * B64 ^ (n - i) = B64 ^ n := by rw [← Nat.pow_add, show i + (n - i) = n by have := HN.out; omega]
          have e6 : B64 ^ i * (val B64 seg + c * B64 ^ (n - i)) = B64 ^ i * (val B64 (cur.drop i) + X * B) := by rw [e1]
          rw [Nat.mul_add, Nat.mul_add] at e6
          have e7 : B64 ^ i * (c * B64 ^ (n - i)) = c * B64 ^ n := by rw [← hpw]; grind
          rw [e7] at e6
          have hmm : A % B64 ^ (i + q) * B = A % B64 ^ i * B + B64 ^ i * (X * B) := by
            rw [Nat.pow_add, Nat.mod_mul, HX.out, Nat.add_mul, Nat.mul_assoc]
          have hlt2 : A % B64 ^ (i + q) * B < B64 ^ n := by
            have hx := Nat.mul_lt_mul'' (Nat.lt_of_le_of_lt (Nat.mod_le A (B64 ^ (i + q))) HAB.out.1) HAB.out.2
            rw [← Nat.pow_add B64 p q, HN.out] at hx
            exact hx
          have hc01 : c = 0 ∨ c = 1 := by omega
          rcases hc01 with rfl | rfl
          · omega
          · omega
        · exact (HBl.out.trans (hc.mono HBl.out.size)).put (Nat.le_refl _) _ _
      have HREL := Lib.hid hRel
      clear hRel hadd hrow hc sm hv1 hv2 hv3 hfr hne
      go_wp2_with fail
      go_roundg (gk - q)
      case rel => exact HREL.out
      case measure => omega
    · have hmodA : A % B64 ^ i = A := Nat.mod_eq_of_lt (Nat.lt_of_lt_of_le HAB.out.1 (Nat.pow_le_pow_right (by decide) hge))
      rw [hmodA] at hv
      have hs := hr.sl (cap := n) (by omega) (by omega)
      have HTR := Lib.hid (trim_det_at hs hl)
      have HFIN := Lib.hid (show RetNatN w (A * B) (.returned (.slice (some ⟨w.heap.size, 0, none⟩) (tl cur n) n)) wr from ⟨_, rfl, natv_trim hs hwd hl hv, frs_new _ _ _, hb⟩)
      clear hb hr hv hwd hl hs
      go_wp2_with fail
      refine HTR.out.mono ?_
      rintro e wz ⟨rfl, rfl⟩
      go_wp2_with fail
      go_ret
      exact HFIN.out
end Go.Proofs.YtekghemhccfhkaaGreatDoor
namespace Go.Proofs.YtekghemhccfhkaaGreatDoor
open Go.RowKit Go.Big
set_option maxRecDepth 100000 in
set_option maxHeartbeats 400000 in
theorem times_big_ge {ao bo : Option Addr} {capa capb : Nat} {la lb : List Nat} {w : World} (sa : SlA w .u64 ao capa la) (sb : SlA w .u64 bo capb lb)
    (wa : Wd B64 la) (wb : Wd B64 lb) (na : Nz la) (nb : Nz lb) (hge : lb.length ≤ la.length) (h100 : 100 ≤ lb.length) (hmax : la.length ≤ 1000000000) (ih : TIH (la.length + lb.length)) :
    Calls Tryz.prog 139 #[.slice ao la.length capa, .slice bo lb.length capb] w (RetNatN w (val B64 la * val B64 lb)) := by
  have hgx : ¬ la.length < lb.length := by omega
  have hz' : ((lb.length : Int) == 0) = false := by rw [beq_eq_false_iff_ne]; omega
  have hl : ¬ lb = [] := by rintro rfl; simp at h100
  have h100' : ¬ lb.length < 100 := by omega
  rcases Nat.lt_or_ge la.length (2 * lb.length) with h2 | h2
  · have HC := Lib.hid (halves_core sa sb wa wb na nb hge h100 h2 hmax ih)
    have h2' : ¬ 2 * lb.length ≤ la.length := by omega
    clear sa sb ih h2 hge
    go_enter Tryz.func139, Tryz.ntmps139
    go_wp2_with fail
    refine HC.out.mono ?_
    rintro e w1 ⟨v, rfl, hv, hfr, hb⟩
    go_wp2_with fail
    go_ret
    exact ⟨v, rfl, hv, hfr, hb⟩
  · have HC := Lib.hid (pieces_core sa sb wa wb na nb h100 h2 hmax ih)
    clear sa sb ih hge
    go_enter Tryz.func139, Tryz.ntmps139
    go_wp2_with fail
    refine HC.out.mono ?_
    rintro e w1 ⟨v, rfl, hv, hfr, hb⟩
    go_wp2_with fail
    go_ret
    exact ⟨v, rfl, hv, hfr, hb⟩
set_option maxRecDepth 100000 in
set_option maxHeartbeats 400000 in
theorem times_big_lt {ao bo : Option Addr} {capa capb : Nat} {la lb : List Nat} {w : World} (sa : SlA w .u64 ao capa la) (sb : SlA w .u64 bo capb lb)
    (wa : Wd B64 la) (wb : Wd B64 lb) (na : Nz la) (nb : Nz lb) (hge : lb.length < la.length) (h100 : 100 ≤ lb.length) (hmax : la.length ≤ 1000000000) (ih : TIH (la.length + lb.length)) :
    Calls Tryz.prog 139 #[.slice bo lb.length capb, .slice ao la.length capa] w (RetNatN w (val B64 la * val B64 lb)) := by
  have hz' : ((lb.length : Int) == 0) = false := by rw [beq_eq_false_iff_ne]; omega
  have hl : ¬ lb = [] := by rintro rfl; simp at h100
  have h100' : ¬ lb.length < 100 := by omega
  rcases Nat.lt_or_ge la.length (2 * lb.length) with h2 | h2
  · have HC := Lib.hid (halves_core sa sb wa wb na nb (Nat.le_of_lt hge) h100 h2 hmax ih)
    have h2' : ¬ 2 * lb.length ≤ la.length := by omega
    clear sa sb ih h2
    go_enter Tryz.func139, Tryz.ntmps139
    go_wp2_with fail
    refine HC.out.mono ?_
    rintro e w1 ⟨v, rfl, hv, hfr, hb⟩
    go_wp2_with fail
    go_ret
    exact ⟨v, rfl, hv, hfr, hb⟩
  · have HC := Lib.hid (pieces_core sa sb wa wb na nb h100 h2 hmax ih)
    clear sa sb ih
    go_enter Tryz.func139, Tryz.ntmps139
    go_wp2_with fail
    refine HC.out.mono ?_
    rintro e w1 ⟨v, rfl, hv, hfr, hb⟩
    go_wp2_with fail
    go_ret
    exact ⟨v, rfl, hv, hfr, hb⟩
theorem tih_all : ∀ N, N ≤ 1000000000 → TIH N := by
  intro N
  induction N with
  | zero => intro _ va vb m n p q w _ _ _ _ h; exact absurd h (Nat.not_lt_zero _)
  | succ N ihN' =>
    intro hN va vb m n p q w ha hb hm hn hpq
    have ihN : TIH N := ihN' (by omega)
    obtain ⟨ao, capa, la, rfl, sa, wa, na, ea, la'⟩ := natv_len ha hm
    obtain ⟨bo, capb, lb, rfl, sb, wb, nb, eb, lb'⟩ := natv_len hb hn
    have ih : TIH (la.length + lb.length) := by
      intro va vb m n p q w h1 h2 h3 h4 h5
      exact ihN h1 h2 h3 h4 (by omega)
    subst ea eb
    rcases Nat.lt_or_ge la.length lb.length with h | h
    · rw [Nat.mul_comm]
      rcases Nat.lt_or_ge la.length 100 with h1 | h1
      · exact times_fresh_lt bo ao capb capa lb la w sb sa wb wa (by omega) h h1
      · exact times_big_lt sb sa wb wa nb na h h1 (by omega) (by rw [Nat.add_comm]; exact ih)
    · rcases Nat.lt_or_ge lb.length 100 with h1 | h1
      · exact times_fresh_ge ao bo capa capb la lb w sa sb wa wb (by omega) h h1
      · exact times_big_ge sa sb wa wb na nb h h1 (by omega) ih
/-- (natural).times, of numbers of any length -/
theorem times_all {va vb : Value} {m n K : Nat} {w : World} (ha : NatV w .u64 B64 va m) (hb : NatV w .u64 B64 vb n) (hK : K < 400000000) (hm : m < B64 ^ K) (hn : n < B64 ^ K) :
    Calls Tryz.prog 139 #[va, vb] w (RetNat w (m * n)) :=
  (tih_all (K + K + 1) (by omega) ha hb hm hn (by omega)).mono fun _ _ ⟨v, h1, h2, _, h4⟩ => ⟨v, h1, h2, h4⟩
end Go.Proofs.YtekghemhccfhkaaGreatDoor
