/-
  Walks of the program's functions: NPower, NFromD.
-/
import Derived.Test.YtekghemhccfhkaaGreatDoorB44
import Derived.Deep.LoopGhost
import Derived.Test.YtekghemhccfhkaaGreatDoorB40
import Derived.Test.YtekghemhccfhkaaGreatDoorB07
namespace Go.Big
open Go Go.RowKit
theorem Sn.mono {K L : Nat} {q : Rat} (h : Sn K q) (hl : K ≤ L) : Sn L q :=
  ⟨Nat.lt_of_lt_of_le h.1 (Nat.pow_le_pow_right (by decide) hl), Nat.lt_of_lt_of_le h.2 (Nat.pow_le_pow_right (by decide) hl)⟩
theorem sn_one {K : Nat} (h : 0 < K) : Sn K 1 := by
  have h1 : B32 ^ 1 ≤ B32 ^ K := Nat.pow_le_pow_right (by decide) h
  exact ⟨Nat.lt_of_lt_of_le (by decide : 1 < B32 ^ 1) h1, Nat.lt_of_lt_of_le (by decide : 1 < B32 ^ 1) h1⟩
/-- What the loop keeps: out * a^j = the power, a = A^t. -/
structure PowI (A : Rat) (N j t r : Nat) : Prop where
  eq : N = r + t * j
  tpos : 0 < t
theorem PowI.odd {A : Rat} {N j t r : Nat} (h : PowI A N (2 * j + 1) t r) : PowI A N j (t + t) (r + t) :=
  ⟨by rw [h.eq]; grind, by have := h.tpos; omega⟩
theorem PowI.even {A : Rat} {N j t r : Nat} (h : PowI A N (2 * j) t r) : PowI A N j (t + t) r :=
  ⟨by rw [h.eq]; grind, by have := h.tpos; omega⟩
theorem PowI.le {A : Rat} {N j t r : Nat} (h : PowI A N j t r) (hj : 0 < j) : r + t ≤ N := by
  rw [h.eq]; exact Nat.add_le_add_left (Nat.le_mul_of_pos_right t hj) r
theorem rpow_add (A : Rat) (m : Nat) : ∀ n, A ^ (m + n) = A ^ m * A ^ n
  | 0 => by rw [Nat.add_zero, Rat.pow_zero, Rat.mul_one]
  | n + 1 => by rw [← Nat.add_assoc, Rat.pow_succ, Rat.pow_succ, rpow_add A m n, Rat.mul_assoc]
theorem pow_dbl (A : Rat) (t : Nat) : A ^ t * A ^ t = A ^ (t + t) := (rpow_add A t t).symm
theorem pow_two' (A : Rat) (r t : Nat) : A ^ r * A ^ t = A ^ (r + t) := (rpow_add A r t).symm
end Go.Big
namespace Go.Proofs.YtekghemhccfhkaaGreatDoor
open Go.RowKit Go.Big
theorem sn_rmul {K L : Nat} {a b : Rat} (h1 : Sn K a) (h2 : Sn L b) : Sn (K + L) (a * b) := by
  have hd : 0 < a.den * b.den := Nat.mul_pos (Nat.pos_of_ne_zero a.den_nz) (Nat.pos_of_ne_zero b.den_nz)
  obtain ⟨l1, l2⟩ := frac_parts (q := a * b) (n := a.num * b.num) (d := ((a.den * b.den : Nat) : Int)) (by omega) (rat_mul a b)
  have m1 : (a.num * b.num).natAbs < B32 ^ (K + L) := by rw [Int.natAbs_mul, Nat.pow_add]; exact Nat.mul_lt_mul'' h1.1 h2.1
  have m2 : a.den * b.den < B32 ^ (K + L) := by rw [Nat.pow_add]; exact Nat.mul_lt_mul'' h1.2 h2.2
  refine ⟨?_, ?_⟩
  · rw [l1, Int.natAbs_tdiv]; exact Nat.lt_of_le_of_lt (Nat.div_le_self _ _) m1
  · have e : ((a * b).den : Int).natAbs = (a * b).den := Int.natAbs_natCast _
    rw [← e, l2, Int.natAbs_tdiv, Int.natAbs_natCast]; exact Nat.lt_of_le_of_lt (Nat.div_le_self _ _) m2
theorem sn_pow {K : Nat} {a : Rat} (h0 : 0 < K) (h : Sn K a) : ∀ m, Sn (K * m + 1) (a ^ m)
  | 0 => by rw [Rat.pow_zero]; exact sn_one (by omega)
  | m + 1 => by
    rw [Rat.pow_succ]
    exact (sn_rmul (sn_pow h0 h m) h).mono (by rw [Nat.mul_add, Nat.mul_one]; omega)
theorem _root_.Go.Big.NRat.sn4 {w : World} {v : Value} {q : Rat} {g : Nat} {b b' c c' : Bool} {s s' t t' : Value} (h : NRat w v q) (k : N4 g b s b' s' w) (ht : Cb t) : NRat (Go.Big.sn4 w g c t c' t') v q := by
  obtain ⟨ao, n, cap, ao', n', cap', e, h1, h2⟩ := h
  exact ⟨ao, n, cap, ao', n', cap', e, h1.sn4 k ht, h2.sn4 k ht⟩
theorem nrat_cells' {w : World} {b : Bool} {ao ao' : Option Addr} {k cap k' cap' : Nat} {q : Rat} (h : NRat w (.agg #[.bool b, .slice ao k cap, .bool false, .slice ao' k' cap']) q) : b = decide (q.num < 0) ∧ NatV w .u32 B32 (.slice ao k cap) q.num.natAbs ∧ NatV w .u32 B32 (.slice ao' k' cap') (dn q.den) := by
  obtain ⟨_, _, _, _, _, _, _, e, h0, h1, h2⟩ := h.op
  cases e
  exact ⟨h0, h1, h2⟩
theorem nrat_cell {w : World} {b : Bool} {ao ao' : Option Addr} {k cap k' cap' : Nat} {q : Rat} (_h : NRat w (.agg #[.bool b, .slice ao k cap, .bool false, .slice ao' k' cap']) q) : Cb (.slice ao k cap) ∧ Cb (.slice ao' k' cap') := ⟨Cb.sl _ _ _, Cb.sl _ _ _⟩
structure PowR (w : World) (g gr : Nat) (A : Rat) (N j : Nat) (pb : Bool) (pa : Option Addr) (pk pc : Nat) (qa : Option Addr) (qk qc : Nat) (ob : Bool) (oa : Option Addr) (ok oc : Nat) (ra : Option Addr) (rk rc : Nat) (t r : Nat) (wr : World) : Prop where
  inv : PowI A N j t r
  le : t ≤ 2 * N + 1 ∧ r ≤ N
  ka : N4 w.heap.size pb (.slice pa pk pc) false (.slice qa qk qc) wr
  ko : N4 g ob (.slice oa ok oc) false (.slice ra rk rc) wr
  kr : N4 gr false (.slice none 0 0) false (.slice none 0 0) wr
  ha : NRat wr (.agg #[.bool pb, .slice pa pk pc, .bool false, .slice qa qk qc]) (A ^ t)
  ho : NRat wr (.agg #[.bool ob, .slice oa ok oc, .bool false, .slice ra rk rc]) (A ^ r)
  hb : Below w.heap.size w wr
set_option maxRecDepth 100000 in
set_option maxHeartbeats 4000000 in
/-- Power of the reference -/
theorem npower_any {v : Value} {A : Rat} {N K : Nat} {w : World} (h : NRat w v A) (hK0 : 0 < K) (sA : Sn K A) (hN : N ≤ 1000) (hKN : K * (2 * N + 1) + 1 < 10000) : Calls Tryz.prog 86 #[v, .int .i64 (N : Int)] w (RetRat w (A ^ N)) := by
  obtain ⟨b1, a1, l1, p1, c1, m1, r1, rfl, e1, h1, i1⟩ := h.op
  obtain ⟨w0, hw0, hb0, k0, k1, hz0⟩ := nboxes2 w #[.bool b1, .slice a1 l1 p1, .bool false, .slice c1 m1 r1] 32 #[.bool false, .slice none 0 0, .bool false, .slice none 0 0] 32 (cb4 b1 h1.cb false i1.cb) (cb4 false cb_nil false cb_nil)
  have k0 : N4 w.heap.size b1 (.slice a1 l1 p1) false (.slice c1 m1 r1) w0 := k0
  have k1 : N4 (w.heap.size + 1) false (.slice none 0 0) false (.slice none 0 0) w0 := k1
  have HK := Lib.hid (And.intro k0 (And.intro k1 hb0))
  have HZ0 := Lib.hid hz0
  have HA := Lib.hid (h.below hb0)
  have HS : Hid (∀ m, m ≤ 2 * N + 1 → Sn (K * (2 * N + 1) + 1) (A ^ m)) := Lib.hid (fun m hm => (sn_pow hK0 sA m).mono (by have := Nat.mul_le_mul_left K hm; omega))
  have HKN := Lib.hid hKN
  have HI1 : Hid (IsS 1) := Lib.hid ⟨by decide, by decide⟩
  clear h h1 i1 e1 hb0 k0 k1 hz0 sA hKN hK0
  go_enter Tryz.func86, Tryz.ntmps86
  go_wp2_with fail
  refine (nR_any HI1.out _).mono ?_
  rintro e w1 ⟨v1, rfl, hv1, hb1⟩
  obtain ⟨ob, oa, ok, oc, ra, rk, rc, rfl, eo, ho1, ho2⟩ := hv1.op
  obtain ⟨w2, hw2, hb2, ko, hz2⟩ := nbox1 w1 #[.bool ob, .slice oa ok oc, .bool false, .slice ra rk rc] 32 (cb4 ob (Cb.sl oa ok oc) false (Cb.sl ra rk rc))
  have ko : N4 w1.heap.size ob (.slice oa ok oc) false (.slice ra rk rc) w2 := ko
  have hb12 := hb1.trans (hb2.mono hb1.size)
  have hv1 : NRat w2 (.agg #[.bool ob, .slice oa ok oc, .bool false, .slice ra rk rc]) (A ^ 0) := by rw [Rat.pow_zero]; exact hv1.below hb2
  have HG : Hid (w.heap.size + 2 ≤ w1.heap.size) := Lib.hid (by have := hb1.size; have := HZ0.out; omega)
  have HST : Hid (PowR w w1.heap.size (w.heap.size + 1) A N N b1 a1 l1 p1 c1 m1 r1 ob oa ok oc ra rk rc 1 0 w2) := Lib.hid ⟨⟨by omega, by omega⟩, ⟨by omega, by omega⟩, HK.out.1.below hb12, ko, HK.out.2.1.below hb12, by have := HA.out.below hb12; rwa [show A ^ 1 = A by rw [show 1 = 0 + 1 from rfl, Rat.pow_succ, Rat.pow_zero, Rat.one_mul]], hv1, HK.out.2.2.trans (hb12.mono HK.out.2.2.size)⟩
  clear eo ho1 ho2 hv1 hb1 hb2 hb12 hz2 ko
  go_wp2_with fail
  go_loopw [1] (fun y wr => ∃ (j : Nat) (pb : Bool) (pa : Option Addr) (pk pc : Nat) (qa : Option Addr) (qk qc : Nat) (ob : Bool) (oa : Option Addr) (ok oc : Nat) (ra : Option Addr) (rk rc t r : Nat), y = .int .i64 (j : Int) ∧ j ≤ 1000 ∧ Hid (PowR w w1.heap.size (w.heap.size + 1) A N j pb pa pk pc qa qk qc ob oa ok oc ra rk rc t r wr)) (fun y _ => (intOf y).toNat)
  case atStart => exact ⟨N, _, _, _, _, _, _, _, _, _, _, _, _, _, _, _, _, rfl, hN, HST⟩
  case round =>
    clear HST
    obtain ⟨j, pb, pa, pk, pc, qa, qk, qc, ob, oa, ok, oc, ra, rk, rc, t, r, rfl, hj, HR⟩ := hrel
    rcases Nat.eq_zero_or_pos j with hj0 | hpos
    · subst hj0
      have HN : Hid (r = N) := Lib.hid (by have := HR.out.inv.eq; rw [Nat.mul_zero, Nat.add_zero] at this; exact this.symm)
      have y0 := HR.out.ko.c0
      have y1 := HR.out.ko.c1
      have y2 := HR.out.ko.c2
      have y3 := HR.out.ko.c3
      have d0 := HR.out.kr.c0
      have d1 := HR.out.kr.c1
      have d2 := HR.out.kr.c2
      have d3 := HR.out.kr.c3
      have f0 := HR.out.kr.f 0
      have f1 := HR.out.kr.f 1
      have f2 := HR.out.kr.f 2
      have f3 := HR.out.kr.f 3
      obtain ⟨WW, hWW⟩ : ∃ WW, (((wr.setCell ⟨w.heap.size + 1, 0, none⟩ (.bool ob)).setCell ⟨w.heap.size + 1, 1, none⟩ (.slice oa ok oc)).setCell ⟨w.heap.size + 1, 2, none⟩ (.bool false)).setCell ⟨w.heap.size + 1, 3, none⟩ (.slice ra rk rc) = WW := ⟨_, rfl⟩
      obtain ⟨hx0, hx1, hx2⟩ := nrat_cells' HR.out.ho
      obtain ⟨z0, z1, z2, z3, z4⟩ := ret_rat (w := w) (q := A ^ r) HR.out.kr hx0 hx1 hx2 HR.out.hb (by omega) hWW
      have HZ := Lib.hid z4
      clear z4 hx0 hx1 hx2 hj
      go_wp2_with fail
      exact bodyPost_ret (v := .agg #[.bool ob, .slice oa ok oc, .bool false, .slice ra rk rc]) (by simp [results, Tryz.results86, go_sem, z0, z1, z2, z3]) rfl (by rw [← HN.out]; exact HZ.out)
    · have hj1 : (0 : Int) < (j : Int) := by omega
      rcases Nat.mod_two_eq_zero_or_one j with h2 | h2
      · obtain ⟨i, hi⟩ : ∃ i, j = 2 * i := ⟨j / 2, by omega⟩
        have em : (j : Int).tmod 2 = 0 := by rw [Int.tmod_eq_emod_of_nonneg (by omega)]; omega
        have ed : (j : Int).tdiv 2 = (i : Int) := by rw [Int.tdiv_eq_ediv_of_nonneg (by omega)]; omega
        have hin := HR.out.inv
        rw [show j = 2 * i by omega] at hin
        have HIN := Lib.hid hin.even
        have HT : Hid (t ≤ 2 * N + 1 ∧ r + t ≤ N ∧ (i = 0 ∨ True)) := Lib.hid ⟨HR.out.le.1, hin.le (by omega), .inr trivial⟩
        have HKA := Lib.hid HR.out.ka
        have HKO := Lib.hid HR.out.ko
        have HKR := Lib.hid HR.out.kr
        have HAW := Lib.hid HR.out.ha
        have HOW := Lib.hid HR.out.ho
        have HBW := Lib.hid HR.out.hb
        have y0 := HR.out.ka.c0
        have y1 := HR.out.ka.c1
        have y2 := HR.out.ka.c2
        have y3 := HR.out.ka.c3
        clear hin
        go_wp2_with fail
        refine (rmul_any (K := K * (2 * N + 1) + 1) HAW.out HAW.out HKN.out (HS.out t HT.out.1) (HS.out t HT.out.1)).mono ?_
        rintro e w4 ⟨v4, rfl, hv4, hb4⟩
        rw [pow_dbl] at hv4
        obtain ⟨sb, sa, sk, sc, ta, tk, tc, rfl, es, hs1, hs2⟩ := hv4.op
        have ka := HKA.out.below hb4
        have ko := HKO.out.below hb4
        have kr := HKR.out.below hb4
        obtain ⟨W2, hW2⟩ : ∃ W, (((w4.setCell ⟨w.heap.size, 0, none⟩ (.bool sb)).setCell ⟨w.heap.size, 1, none⟩ (.slice sa sk sc)).setCell ⟨w.heap.size, 2, none⟩ (.bool false)).setCell ⟨w.heap.size, 3, none⟩ (.slice ta tk tc) = W := ⟨_, rfl⟩
        have hw : W2 = sn4 w4 w.heap.size sb (.slice sa sk sc) false (.slice ta tk tc) := hW2.symm
        have HRR : Hid (PowR w w1.heap.size (w.heap.size + 1) A N i sb sa sk sc ta tk tc ob oa ok oc ra rk rc (t + t) r W2) := Lib.hid (by
          subst hw
          exact ⟨HIN.out, ⟨by have := HT.out.2.1; have := HT.out.2.2; omega, by have := HT.out.2.1; omega⟩, ka.st sb (Cb.sl _ _ _) false (Cb.sl _ _ _), ko.o4 (by have := HG.out; omega) _ _ _ _, kr.o4 (by omega) _ _ _ _, hv4.sn4 ka (Cb.sl _ _ _), (HOW.out.below hb4).sn4 ka (Cb.sl _ _ _), (HBW.out.trans (hb4.mono HBW.out.size)).sn4 (Nat.le_refl _) _ _ _ _⟩)
        have d0 := ka.c0
        have d1 := ka.c1
        have d2 := ka.c2
        have d3 := ka.c3
        have f0 := ka.f 0
        have f1 := ka.f 1
        have f2 := ka.f 2
        have f3 := ka.f 3
        clear hv4 es hs1 hs2 ka ko kr hb4 hw
        go_wp2_with fail
        go_roundw
        case rel => exact ⟨i, _, _, _, _, _, _, _, _, _, _, _, _, _, _, _, _, by first | rfl | go_num, by omega, HRR⟩
        case measure => simp [intOf]; omega
      · obtain ⟨i, hi⟩ : ∃ i, j = 2 * i + 1 := ⟨j / 2, by omega⟩
        have em : (j : Int).tmod 2 = 1 := by rw [Int.tmod_eq_emod_of_nonneg (by omega)]; omega
        have ed : (j : Int).tdiv 2 = (i : Int) := by rw [Int.tdiv_eq_ediv_of_nonneg (by omega)]; omega
        have hin := HR.out.inv
        rw [show j = 2 * i + 1 by omega] at hin
        have HIN := Lib.hid hin.odd
        have HT : Hid (t ≤ 2 * N + 1 ∧ r + t ≤ N ∧ (i = 0 ∨ True)) := Lib.hid ⟨HR.out.le.1, hin.le (by omega), .inr trivial⟩
        have y0 := HR.out.ka.c0
        have y1 := HR.out.ka.c1
        have y2 := HR.out.ka.c2
        have y3 := HR.out.ka.c3
        have x0 := HR.out.ko.c0
        have x1 := HR.out.ko.c1
        have x2 := HR.out.ko.c2
        have x3 := HR.out.ko.c3
        clear hin
        go_wp2_with fail
        refine (rmul_any (K := K * (2 * N + 1) + 1) HR.out.ho HR.out.ha HKN.out (HS.out r (by have := HR.out.le.2; omega)) (HS.out t HR.out.le.1)).mono ?_
        rintro e w3 ⟨v3, rfl, hv3, hb3⟩
        rw [pow_two'] at hv3
        obtain ⟨xb, xa, xk, xc, ya, yk, yc, rfl, es, hs1, hs2⟩ := hv3.op
        have ka := HR.out.ka.below hb3
        have ko := HR.out.ko.below hb3
        have kr := HR.out.kr.below hb3
        obtain ⟨W1, hW1⟩ : ∃ W, (((w3.setCell ⟨w1.heap.size, 0, none⟩ (.bool xb)).setCell ⟨w1.heap.size, 1, none⟩ (.slice xa xk xc)).setCell ⟨w1.heap.size, 2, none⟩ (.bool false)).setCell ⟨w1.heap.size, 3, none⟩ (.slice ya yk yc) = W := ⟨_, rfl⟩
        have hw : W1 = sn4 w3 w1.heap.size xb (.slice xa xk xc) false (.slice ya yk yc) := hW1.symm
        have HKA : Hid (N4 w.heap.size pb (.slice pa pk pc) false (.slice qa qk qc) W1) := Lib.hid (by subst hw; exact ka.o4 (by have := HG.out; omega) _ _ _ _)
        have HKO : Hid (N4 w1.heap.size xb (.slice xa xk xc) false (.slice ya yk yc) W1) := Lib.hid (by subst hw; exact ko.st xb (Cb.sl _ _ _) false (Cb.sl _ _ _))
        have HKR : Hid (N4 (w.heap.size + 1) false (.slice none 0 0) false (.slice none 0 0) W1) := Lib.hid (by subst hw; exact kr.o4 (by have := HG.out; omega) _ _ _ _)
        have HAW : Hid (NRat W1 (.agg #[.bool pb, .slice pa pk pc, .bool false, .slice qa qk qc]) (A ^ t)) := Lib.hid (by subst hw; exact (HR.out.ha.below hb3).sn4 ko (Cb.sl _ _ _))
        have HOW : Hid (NRat W1 (.agg #[.bool xb, .slice xa xk xc, .bool false, .slice ya yk yc]) (A ^ (r + t))) := Lib.hid (by subst hw; exact hv3.sn4 ko (Cb.sl _ _ _))
        have HBW : Hid (Below w.heap.size w W1) := Lib.hid (by subst hw; exact (HR.out.hb.trans (hb3.mono HR.out.hb.size)).sn4 (by have := HG.out; omega) _ _ _ _)
        have d0 := ko.c0
        have d1 := ko.c1
        have d2 := ko.c2
        have d3 := ko.c3
        have f0 := ko.f 0
        have f1 := ko.f 1
        have f2 := ko.f 2
        have f3 := ko.f 3
        have z0 := HKA.out.c0
        have z1 := HKA.out.c1
        have z2 := HKA.out.c2
        have z3 := HKA.out.c3
        clear hv3 es hs1 hs2 ka ko kr hb3 hw
        go_wp2_with fail
        refine (rmul_any (K := K * (2 * N + 1) + 1) HAW.out HAW.out HKN.out (HS.out t HT.out.1) (HS.out t HT.out.1)).mono ?_
        rintro e w4 ⟨v4, rfl, hv4, hb4⟩
        rw [pow_dbl] at hv4
        obtain ⟨sb, sa, sk, sc, ta, tk, tc, rfl, es, hs1, hs2⟩ := hv4.op
        have ka := HKA.out.below hb4
        have ko := HKO.out.below hb4
        have kr := HKR.out.below hb4
        obtain ⟨W2, hW2⟩ : ∃ W, (((w4.setCell ⟨w.heap.size, 0, none⟩ (.bool sb)).setCell ⟨w.heap.size, 1, none⟩ (.slice sa sk sc)).setCell ⟨w.heap.size, 2, none⟩ (.bool false)).setCell ⟨w.heap.size, 3, none⟩ (.slice ta tk tc) = W := ⟨_, rfl⟩
        have hw : W2 = sn4 w4 w.heap.size sb (.slice sa sk sc) false (.slice ta tk tc) := hW2.symm
        have HRR : Hid (PowR w w1.heap.size (w.heap.size + 1) A N i sb sa sk sc ta tk tc xb xa xk xc ya yk yc (t + t) (r + t) W2) := Lib.hid (by
          subst hw
          exact ⟨HIN.out, ⟨by have := HT.out.2.1; have := HT.out.2.2; omega, by have := HT.out.2.1; omega⟩, ka.st sb (Cb.sl _ _ _) false (Cb.sl _ _ _), ko.o4 (by have := HG.out; omega) _ _ _ _, kr.o4 (by omega) _ _ _ _, hv4.sn4 ka (Cb.sl _ _ _), (HOW.out.below hb4).sn4 ka (Cb.sl _ _ _), (HBW.out.trans (hb4.mono HBW.out.size)).sn4 (Nat.le_refl _) _ _ _ _⟩)
        have d0 := ka.c0
        have d1 := ka.c1
        have d2 := ka.c2
        have d3 := ka.c3
        have f0 := ka.f 0
        have f1 := ka.f 1
        have f2 := ka.f 2
        have f3 := ka.f 3
        clear hv4 es hs1 hs2 ka ko kr hb4 hw
        go_wp2_with fail
        go_roundw
        case rel => exact ⟨i, _, _, _, _, _, _, _, _, _, _, _, _, _, _, _, _, by first | rfl | go_num, by omega, HRR⟩
        case measure => simp [intOf]; omega
end Go.Proofs.YtekghemhccfhkaaGreatDoor
namespace Go.Big
open Go Go.RowKit
/-- What the inner loop has read behind i: k digits. -/
theorem fd_step {L : List UInt8} {i k : Nat} (h : i + k < L.length) : dec ((L.drop i).take (k + 1)) = dec ((L.drop i).take k) * 10 + (L[i + k].toNat - 48) := by
  rw [dec_take _ _ (by rw [List.length_drop]; omega)]
  simp
theorem fd_join (L : List UInt8) (i k : Nat) (h : i + k ≤ L.length) : dec (L.take (i + k)) = dec (L.take i) * 10 ^ k + dec ((L.drop i).take k) := by
  rw [List.take_add, dec_append, List.length_take, List.length_drop, Nat.min_eq_left (by omega)]
theorem fd_lt {L : List UInt8} {i k : Nat} (h : Dig (L.take (i + k))) : dec ((L.drop i).take k) < 10 ^ k := by
  rw [List.take_add] at h
  refine Nat.lt_of_lt_of_le (dec_lt (fun b hb => h b (List.mem_append_right _ hb))) (Nat.pow_le_pow_right (by decide) ?_)
  rw [List.length_take]; omega
theorem pow_k9 {k : Nat} (h : k ≤ 9) : 10 ^ k ≤ 1000000000 := Nat.pow_le_pow_right (n := 10) (by decide) h
theorem nz_one {x : Nat} (h : 0 < x) : Nz [x] := by
  intro e
  simp at e ⊢
  omega
theorem one_b32 (n : Nat) : 4294967296 ≤ B32 ^ (n + 1) := by
  rw [Nat.pow_succ]; exact Nat.le_mul_of_pos_left _ (Nat.pow_pos (by decide))
theorem dec_b32 {L : List UInt8} (h : Dig L) {n : Nat} (hn : L.length ≤ n) : dec L < B32 ^ n :=
  Nat.lt_of_lt_of_le (dec_lt h) (Nat.le_trans (Nat.pow_le_pow_left (show 10 ≤ B32 by decide) _) (Nat.pow_le_pow_right (by decide) hn))
end Go.Big
namespace Go.Proofs.YtekghemhccfhkaaGreatDoor
open Go.RowKit Go.Big
def NfdPost (s : ByteArray) (w : World) (e : Ending) (w' : World) : Prop :=
  ∃ (v : Value) (b : Bool) (n : Int), e = .returned (.tuple #[v, .bool b]) ∧ (b = true ↔ Dig s.data.toList ∧ 0 < s.size) ∧ NumV w' v n ∧ (b = true → n = (dec s.data.toList : Nat)) ∧ Below w.heap.size w w'
set_option maxRecDepth 100000 in
set_option maxHeartbeats 4000000 in
/-- FromDigits -/
theorem nfromDigits_any (s : ByteArray) (hl : s.size ≤ 1000000) (w : World) : Calls Tryz.prog 70 #[.string s] w (NfdPost s w) := by
  obtain ⟨w0, hw0, hb0, k0, hz0⟩ := nbox1 w #[.bool false, .slice none 0 0] 30 (cb2 false cb_nil)
  have k0 : N2 w.heap.size false (.slice none 0 0) w0 := k0
  have hsz : s.data.toList.length = s.size := (Lib.size_eq s).symm
  have HS := Lib.hid (And.intro hsz hl)
  have HK := Lib.hid (And.intro k0 hb0)
  clear hsz k0 hz0 hb0
  go_enter Tryz.func70, Tryz.ntmps70
  go_wp2_with fail
  go_loopw [4, 5] (fun x y wr => ∃ i : Nat, i ≤ s.size ∧ y = .int .i64 i ∧ Hid (Dig (s.data.toList.take i)) ∧ NatV wr .u32 B32 x (dec (s.data.toList.take i)) ∧ Below w0.heap.size w0 wr) (fun _ y _ => s.size - (intOf y).toNat)
  case atStart => exact ⟨0, by omega, rfl, Lib.hid (fun b hb => by simp at hb), mag_nil _, Below.refl _ _⟩
  case round =>
    obtain ⟨i, hi, rfl, hdig, hM, hbel⟩ := hrel
    have HM := Lib.hid (And.intro hM hbel)
    obtain ⟨ao, cap, l, rfl, hlm, _, _, _⟩ := hM
    have hlm := hlm.len_le
    clear hbel
    by_cases h : i < s.size
    · go_wp2_with fail
      go_loopw [5, 6, 7, 8] (fun y v f k wx => wr = wx ∧ ∃ kn p dv fv : Nat, p ≤ s.size ∧ kn ≤ 9 ∧ y = .int .i64 (p : Nat) ∧ k = .int .i64 kn ∧ f = .int .u32 (fv : Nat) ∧ v = .int .u32 (dv : Nat) ∧ Hid (i + kn = p ∧ 10 ^ kn = fv ∧ dec ((s.data.toList.drop i).take kn) = dv ∧ Dig (s.data.toList.take p))) (fun _ _ _ k _ => 9 - (intOf k).toNat)
      case atStart => exact ⟨rfl, 0, i, 0, 1, hi, by omega, rfl, rfl, rfl, rfl, Lib.hid ⟨rfl, rfl, rfl, hdig.out⟩⟩
      case round =>
        obtain ⟨rfl, kn, p, dv, fv, hp, hk9, rfl, rfl, rfl, rfl, HI⟩ := hrel
        have HKX := Lib.hid (And.intro (HK.out.1.below HM.out.2) (HK.out.2.trans (HM.out.2.mono HK.out.2.size)))
        by_cases hA : kn < 9 ∧ p < s.size
        · obtain ⟨hk, hps⟩ := hA
          have hdt := fd_step (L := s.data.toList) (i := i) (k := kn) (by have := HS.out.1; have := HI.out.1; omega)
          have hb : s[p] = s.data.toList[p]'(by have := HS.out.1; omega) := by simp [ByteArray.getElem_eq_getElem_data]
          have hmem : s[p] ∈ s.data.toList := by rw [hb]; exact List.getElem_mem _
          have hnext : 48 ≤ s[p].toNat ∧ s[p].toNat ≤ 57 → Dig (s.data.toList.take (p + 1)) := by
            intro hc b hbm
            rw [List.take_succ_eq_append_getElem (by have := HS.out.1; omega), ← hb] at hbm
            rcases List.mem_append.1 hbm with h1 | h1
            · exact HI.out.2.2.2 b h1
            · rw [List.mem_singleton.1 h1]; exact hc
          simp only [HI.out.1, HI.out.2.2.1] at hdt
          rw [← hb] at hdt
          obtain ⟨c, hc⟩ : ∃ c, s[p].toNat = c := ⟨_, rfl⟩
          have hci : ((s[p].toNat : Nat) : Int) = (c : Int) := by rw [hc]
          rw [hc] at hdt hnext
          have HC := Lib.hid hc
          have HMEM := Lib.hid hmem
          have HDT := Lib.hid hdt
          have HN := Lib.hid hnext
          have hdv : dv < 1000000000 := by
            rw [← HI.out.2.2.1]
            exact Nat.lt_of_lt_of_le (fd_lt (by rw [HI.out.1]; exact HI.out.2.2.2)) (pow_k9 (by omega))
          have hdv9 : dv * 10 < 1000000000 := by
            have h9 : dv < 10 ^ kn := by rw [← HI.out.2.2.1]; exact fd_lt (by rw [HI.out.1]; exact HI.out.2.2.2)
            have h8 : 10 ^ (kn + 1) ≤ 1000000000 := pow_k9 (by omega)
            rw [Nat.pow_succ] at h8; omega
          have hfv : fv * 10 ≤ 1000000000 := by
            have h8 : 10 ^ (kn + 1) ≤ 1000000000 := pow_k9 (by omega)
            rw [Nat.pow_succ, HI.out.2.1] at h8; omega
          clear hb hmem hnext hdt hc hdv
          by_cases c1 : c < 48
          · clear hdv9 hfv
            obtain ⟨WW, hWW⟩ : ∃ WW, (wr.setCell ⟨w.heap.size, 0, none⟩ (.bool false)).setCell ⟨w.heap.size, 1, none⟩ (.slice none 0 0) = WW := ⟨_, rfl⟩
            obtain ⟨z0, z1, z2⟩ := ret_num (n := 0) HKX.out.1 rfl (mag_nil _) HKX.out.2 (Nat.le_refl _) hWW
            have HZ : Hid (NfdPost s w (.returned (.tuple #[.agg #[.bool false, .slice none 0 0], .bool false])) WW) := by
              obtain ⟨v, hv1, hv2, hv3⟩ := z2
              cases hv1
              exact Lib.hid ⟨_, false, 0, rfl, ⟨fun h => (by cases h), fun h => (by have h1 := h.1 _ HMEM.out; rw [HC.out] at h1; omega)⟩, hv2, fun h => (by cases h), hv3⟩
            have d0 := HKX.out.1.c0
            have d1 := HKX.out.1.c1
            have f0 := HKX.out.1.f 0
            have f1 := HKX.out.1.f 1
            clear z2
            go_wp2_with fail
            exact bodyPost_ret (v := .tuple #[.agg #[.bool false, .slice none 0 0], .bool false]) (by simp [results, Tryz.results70, go_sem, z0, z1]) rfl HZ.out
          · by_cases c2 : 57 < c
            · clear hdv9 hfv
              obtain ⟨WW, hWW⟩ : ∃ WW, (wr.setCell ⟨w.heap.size, 0, none⟩ (.bool false)).setCell ⟨w.heap.size, 1, none⟩ (.slice none 0 0) = WW := ⟨_, rfl⟩
              obtain ⟨z0, z1, z2⟩ := ret_num (n := 0) HKX.out.1 rfl (mag_nil _) HKX.out.2 (Nat.le_refl _) hWW
              have HZ : Hid (NfdPost s w (.returned (.tuple #[.agg #[.bool false, .slice none 0 0], .bool false])) WW) := by
                obtain ⟨v, hv1, hv2, hv3⟩ := z2
                cases hv1
                exact Lib.hid ⟨_, false, 0, rfl, ⟨fun h => (by cases h), fun h => (by have h1 := h.1 _ HMEM.out; rw [HC.out] at h1; omega)⟩, hv2, fun h => (by cases h), hv3⟩
              have d0 := HKX.out.1.c0
              have d1 := HKX.out.1.c1
              have f0 := HKX.out.1.f 0
              have f1 := HKX.out.1.f 1
              clear z2
              go_wp2_with fail
              exact bodyPost_ret (v := .tuple #[.agg #[.bool false, .slice none 0 0], .bool false]) (by simp [results, Tryz.results70, go_sem, z0, z1]) rfl HZ.out
            · obtain ⟨d, hd⟩ : ∃ d, d + 48 = c := ⟨c - 48, by omega⟩
              have hd9 : d ≤ 9 := by omega
              have e1 : IntKind.u8.wrap ((c : Int) - 48) = (d : Int) := by rw [show (c : Int) - 48 = (d : Int) by omega]; show (d : Int) % 256 = d; omega
              have e2 : IntKind.u32.wrap (d : Int) = (d : Int) := by rw [wrap32_nat, Nat.mod_eq_of_lt (by omega)]
              have e3 : IntKind.u32.wrap ((dv : Int) * 10) = ((dv * 10 : Nat) : Int) := by rw [show (dv : Int) * 10 = ((dv * 10 : Nat) : Int) by push_cast; rfl, wrap32_nat, Nat.mod_eq_of_lt (by omega)]
              have e4 : IntKind.u32.wrap ((fv : Int) * 10) = ((fv * 10 : Nat) : Int) := by rw [show (fv : Int) * 10 = ((fv * 10 : Nat) : Int) by push_cast; rfl, wrap32_nat, Nat.mod_eq_of_lt (by omega)]
              go_wp2_with fail
              go_roundw
              case rel => exact ⟨by first | rfl | trivial, kn + 1, p + 1, dv * 10 + d, fv * 10, by omega, by omega, by go_num, by go_num, by go_num, by go_num, Lib.hid ⟨by have := HI.out.1; omega, by rw [Nat.pow_succ, HI.out.2.1], by rw [HDT.out, ← hd, Nat.add_sub_cancel], HN.out (by omega)⟩⟩
              case measure => simp [intOf]; omega
        · have HA := Lib.hid hA
          have HA2 : Hid (0 < kn) := Lib.hid (by
            rcases Nat.eq_zero_or_pos kn with h0 | h0
            · exact absurd ⟨by omega, by have := HI.out.1; omega⟩ hA
            · exact h0)
          have hbA : Below wr.heap.size wr (wr.alloc (.cells (cellsOf .u32 [fv]) 73)) := (Below.refl _ _).alloc (Nat.le_refl _) _
          have HEQ : Hid (dec (s.data.toList.take p) = dec (s.data.toList.take i) * fv + dv ∧ dec (s.data.toList.take i) * fv < B32 ^ (s.size + s.size + 2) ∧ dv < B32 ^ (s.size + s.size + 2) ∧ Wd B32 [dv] ∧ fv < 4294967296 ∧ 0 < fv) := Lib.hid (by
            have h1 := fd_join s.data.toList i kn (by have := HS.out.1; have := HI.out.1; omega)
            rw [HI.out.1, HI.out.2.1, HI.out.2.2.1] at h1
            have h2 : dv < fv := by rw [← HI.out.2.1, ← HI.out.2.2.1]; exact fd_lt (by rw [HI.out.1]; exact HI.out.2.2.2)
            have h3 : fv ≤ 1000000000 := by rw [← HI.out.2.1]; exact pow_k9 hk9
            have h4 := dec_b32 HI.out.2.2.2 (n := s.size + s.size + 2) (by rw [List.length_take]; have := HS.out.1; omega)
            exact ⟨h1, by omega, by omega, by intro y hy; rw [List.mem_singleton.1 hy]; show dv < 4294967296; omega, by omega, by omega⟩)
          have hF : NatV (wr.alloc (.cells (cellsOf .u32 [fv]) 73)) .u32 B32 (.slice (some ⟨wr.heap.size, 0, none⟩) 1 1) fv :=
            ⟨_, 1, [fv], rfl, (isRow_alloc wr 73 .u32 [fv]).sl (by simp) (by simp), by intro y hy; rw [List.mem_singleton.1 hy]; exact HEQ.out.2.2.2.2.1, nz_one HEQ.out.2.2.2.2.2, by simp [val]⟩
          have HMU := Lib.hid (mulMag_any (K := s.size + 1) (HM.out.1.below hbA) hF (by have := HS.out.2; omega) (dec_b32 hdig.out (by rw [List.length_take]; have := HS.out.1; omega)) (Nat.lt_of_lt_of_le HEQ.out.2.2.2.2.1 (one_b32 _)))
          have HB0 := Lib.hid (HM.out.2.trans (hbA.mono HM.out.2.size))
          clear hF hbA
          by_cases hk : kn < 9
          · have hps : ¬ p < s.size := fun h => hA ⟨hk, h⟩
            clear hA
            go_wp2_with fail
            refine HMU.out.mono ?_
            rintro e w1 ⟨v1, rfl, hv1, hb1⟩
            have hr2 := isRow_alloc w1 73 .u32 [dv]
            have hsl2 := hr2.sl (cap := 1) (by simp) (by simp)
            have hbB : Below w1.heap.size w1 (w1.alloc (.cells (cellsOf .u32 [dv]) 73)) := (Below.refl _ _).alloc (Nat.le_refl _) _
            have HTR := Lib.hid (ntrim_at (n := 1) hsl2 rfl)
            have HSL := Lib.hid (And.intro hsl2 (And.intro (hv1.below hbB) ((hb1.trans (hbB.mono hb1.size)))))
            clear HMU hr2 hsl2 hbB hv1 hb1
            go_wp2_with fail
            refine HTR.out.mono ?_
            intro e w2 ht
            obtain ⟨v2, rfl, hv2, hb2⟩ := ntrim_ret (w0 := w1.alloc (.cells (cellsOf .u32 [dv]) 73)) (n := dv) HSL.out.1 HEQ.out.2.2.2.1 (by simp [val]) (Below.refl _ _) ht
            have HAD := Lib.hid (addMag_any (K := s.size + s.size + 2) (HSL.out.2.1.below hb2) hv2 (by have := HS.out.2; omega) HEQ.out.2.1 HEQ.out.2.2.1)
            have HB2 := Lib.hid (HSL.out.2.2.trans (hb2.mono HSL.out.2.2.size))
            clear HTR HSL hv2 hb2 ht
            go_wp2_with fail
            refine HAD.out.mono ?_
            rintro e w3 ⟨v3, rfl, hv3, hb3⟩
            rw [← HEQ.out.1] at hv3
            have HV3 := Lib.hid (And.intro hv3 (HB0.out.trans ((HB2.out.trans (hb3.mono HB2.out.size)).mono HB0.out.size)))
            clear HAD hv3 hb3
            go_wp2_with fail
            go_roundw
            case rel => exact ⟨p, hp, rfl, Lib.hid HI.out.2.2.2, HV3.out.1, HV3.out.2⟩
            case measure => simp [intOf]; have := HI.out.1; have := HA2.out; omega
          · clear hA
            go_wp2_with fail
            refine HMU.out.mono ?_
            rintro e w1 ⟨v1, rfl, hv1, hb1⟩
            have hr2 := isRow_alloc w1 73 .u32 [dv]
            have hsl2 := hr2.sl (cap := 1) (by simp) (by simp)
            have hbB : Below w1.heap.size w1 (w1.alloc (.cells (cellsOf .u32 [dv]) 73)) := (Below.refl _ _).alloc (Nat.le_refl _) _
            have HTR := Lib.hid (ntrim_at (n := 1) hsl2 rfl)
            have HSL := Lib.hid (And.intro hsl2 (And.intro (hv1.below hbB) ((hb1.trans (hbB.mono hb1.size)))))
            clear HMU hr2 hsl2 hbB hv1 hb1
            go_wp2_with fail
            refine HTR.out.mono ?_
            intro e w2 ht
            obtain ⟨v2, rfl, hv2, hb2⟩ := ntrim_ret (w0 := w1.alloc (.cells (cellsOf .u32 [dv]) 73)) (n := dv) HSL.out.1 HEQ.out.2.2.2.1 (by simp [val]) (Below.refl _ _) ht
            have HAD := Lib.hid (addMag_any (K := s.size + s.size + 2) (HSL.out.2.1.below hb2) hv2 (by have := HS.out.2; omega) HEQ.out.2.1 HEQ.out.2.2.1)
            have HB2 := Lib.hid (HSL.out.2.2.trans (hb2.mono HSL.out.2.2.size))
            clear HTR HSL hv2 hb2 ht
            go_wp2_with fail
            refine HAD.out.mono ?_
            rintro e w3 ⟨v3, rfl, hv3, hb3⟩
            rw [← HEQ.out.1] at hv3
            have HV3 := Lib.hid (And.intro hv3 (HB0.out.trans ((HB2.out.trans (hb3.mono HB2.out.size)).mono HB0.out.size)))
            clear HAD hv3 hb3
            go_wp2_with fail
            go_roundw
            case rel => exact ⟨p, hp, rfl, Lib.hid HI.out.2.2.2, HV3.out.1, HV3.out.2⟩
            case measure => simp [intOf]; have := HI.out.1; have := HA2.out; omega
    · have he : i = s.size := by omega
      have hf : s.data.toList.take i = s.data.toList := List.take_of_length_le (by have := HS.out.1; omega)
      rw [hf] at hdig HM
      have HMK := Lib.hid (make1_any false HM.out.1)
      have HKX := Lib.hid (And.intro (HK.out.1.below HM.out.2) (HK.out.2.trans (HM.out.2.mono HK.out.2.size)))
      clear hf hlm
      subst he
      go_wp2_with fail
      refine HMK.out.mono ?_
      rintro e w1 ⟨v1, rfl, hv1, hb1⟩
      obtain ⟨rb, ra, rk, rc, rfl, hrb, hr1⟩ := hv1.op
      have k2 := HKX.out.1.below hb1
      have hs := HKX.out.2.trans (hb1.mono HKX.out.2.size)
      obtain ⟨WW, hWW⟩ : ∃ WW, (w1.setCell ⟨w.heap.size, 0, none⟩ (.bool rb)).setCell ⟨w.heap.size, 1, none⟩ (.slice ra rk rc) = WW := ⟨_, rfl⟩
      obtain ⟨z0, z1, z2⟩ := ret_num k2 hrb hr1 hs (Nat.le_refl _) hWW
      have d0 := k2.c0
      have d1 := k2.c1
      have f0 := k2.f 0
      have f1 := k2.f 1
      have HZ := Lib.hid z2
      clear z2 hv1 hr1 hs hb1 k2 hrb HMK HKX
      go_wp2_with fail
      obtain ⟨v4, hv4, hv5, hv6⟩ := HZ.out
      cases hv4
      refine bodyPost_ret (v := .tuple #[.agg #[.bool rb, .slice ra rk rc], .bool (!s.toList.isEmpty)]) (by simp [results, Tryz.results70, go_sem, z0, z1]) rfl ⟨_, _, _, rfl, ?_, hv5, fun _ => rfl, hv6⟩
      rw [Lib.toList_data, Bool.not_eq_true', ← Bool.not_eq_true, List.isEmpty_iff_length_eq_zero, HS.out.1]
      exact ⟨fun h => ⟨hdig.out, by omega⟩, fun h => by have := h.2; omega⟩
end Go.Proofs.YtekghemhccfhkaaGreatDoor
