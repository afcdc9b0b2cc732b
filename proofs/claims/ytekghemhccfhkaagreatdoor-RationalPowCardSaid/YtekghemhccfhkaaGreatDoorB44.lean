/-
  Walks of the program's functions: NInt6, NInt7, NRat2, NRat3, NRat5, NRat6, NRat7, NFrac, NRat8, NRat4.
-/
import Derived.Test.YtekghemhccfhkaaGreatDoorB41
import Derived.Test.YtekghemhccfhkaaGreatDoorB43
import Derived.Deep.QuietTactic
import Derived.BigQuiet
import Derived.Deep.LoopGhost
import Derived.Test.YtekghemhccfhkaaGreatDoorB02
import Derived.Deep.RegionWith
namespace Go.Big
open Go Go.RowKit
/-- The quotient rounded towards 0, and the remainder. -/
theorem quo_sign {m n : Int} {b b' : Bool} (e1 : b = decide (m < 0)) (e2 : b' = decide (n < 0)) : signed (!(b == b')) (m.natAbs / n.natAbs) = m.tdiv n := by
  subst e1 e2
  unfold signed
  rcases Int.natAbs_eq m with hm | hm <;> rcases Int.natAbs_eq n with hn | hn <;> generalize m.natAbs = a at * <;> generalize n.natAbs = c at * <;> subst hm <;> subst hn
  · have h1 : ¬ (a : Int) < 0 := by omega
    have h2 : ¬ (c : Int) < 0 := by omega
    rw [decide_eq_false h1, decide_eq_false h2]; rfl
  · have h1 : ¬ (a : Int) < 0 := by omega
    rw [decide_eq_false h1, Int.tdiv_neg]
    rcases Nat.eq_zero_or_pos c with h0 | h0
    · subst h0; simp
    · rw [decide_eq_true (by omega : -(c : Int) < 0)]; rfl
  · have h2 : ¬ (c : Int) < 0 := by omega
    rw [decide_eq_false h2, Int.neg_tdiv]
    rcases Nat.eq_zero_or_pos a with h0 | h0
    · subst h0; simp
    · rw [decide_eq_true (by omega : -(a : Int) < 0)]; rfl
  · rw [Int.neg_tdiv, Int.tdiv_neg, Int.neg_neg]
    rcases Nat.eq_zero_or_pos a with h0 | h0
    · subst h0
      simp
    · rcases Nat.eq_zero_or_pos c with h1 | h1
      · subst h1; simp
      · rw [decide_eq_true (by omega : -(a : Int) < 0), decide_eq_true (by omega : -(c : Int) < 0)]; rfl
theorem rem_sign {m n : Int} {b : Bool} (e1 : b = decide (m < 0)) : signed b (m.natAbs % n.natAbs) = m.tmod n := by
  subst e1
  unfold signed
  rcases Int.natAbs_eq n with hn | hn <;> generalize n.natAbs = c at * <;> subst hn
  · rcases Int.natAbs_eq m with hm | hm <;> generalize m.natAbs = a at * <;> subst hm
    · rw [if_neg (by simp)]; rfl
    · rw [Int.neg_tmod]
      rcases Nat.eq_zero_or_pos a with h0 | h0
      · subst h0; simp
      · rw [if_pos (by simp; omega)]; rfl
  · rw [Int.tmod_neg]
    rcases Int.natAbs_eq m with hm | hm <;> generalize m.natAbs = a at * <;> subst hm
    · rw [if_neg (by simp)]; rfl
    · rw [Int.neg_tmod]
      rcases Nat.eq_zero_or_pos a with h0 | h0
      · subst h0; simp
      · rw [if_pos (by simp; omega)]; rfl
end Go.Big
namespace Go.Proofs.YtekghemhccfhkaaGreatDoor
open Go.RowKit Go.Big
theorem nboxes4 (w : World) (c1 : Array Value) (t1 : TypeId) (c2 : Array Value) (t2 : TypeId) (c3 : Array Value) (t3 : TypeId) (c4 : Array Value) (t4 : TypeId) (h1 : ∀ c ∈ c1, Cb c) (h2 : ∀ c ∈ c2, Cb c) (h3 : ∀ c ∈ c3, Cb c) (h4 : ∀ c ∈ c4, Cb c) :
    ∃ w0, (((w.alloc (.cells c1 t1)).alloc (.cells c2 t2)).alloc (.cells c3 t3)).alloc (.cells c4 t4) = w0 ∧ Below w.heap.size w w0 ∧ Bb w0 w.heap.size c1 t1 ∧ Bb w0 (w.heap.size + 1) c2 t2 ∧ Bb w0 (w.heap.size + 1 + 1) c3 t3 ∧ Bb w0 (w.heap.size + 1 + 1 + 1) c4 t4 ∧ w0.heap.size = w.heap.size + 4 := by
  obtain ⟨w1, e1, b1, x1, y1, z1, s1⟩ := nboxes3 w c1 t1 c2 t2 c3 t3 h1 h2 h3
  obtain ⟨w2, e2, b2, x2, s2⟩ := nbox1 w1 c4 t4 h4
  rw [s1] at x2
  exact ⟨w2, by rw [e1, e2], b1.trans (b2.mono b1.size), x1.below b2, y1.below b2, z1.below b2, x2, by omega⟩
def RetNum2 (w : World) (m n : Int) (e : Ending) (w' : World) : Prop := ∃ v v', e = .returned (.tuple #[v, v']) ∧ NumV w' v m ∧ NumV w' v' n ∧ Below w.heap.size w w'
theorem ret_num2 {w w3 : World} {g g' : Nat} {b0 b b0' b' : Bool} {s0 s s0' s' : Value} {m n : Int} (k : N2 g b0 s0 w3) (k' : N2 g' b0' s0' w3) (hne : g ≠ g') (hb : b = decide (m < 0)) (h : NatV w3 .u32 B32 s m.natAbs) (hb' : b' = decide (n < 0)) (h' : NatV w3 .u32 B32 s' n.natAbs)
    (s3 : Below w.heap.size w w3) (hg : w.heap.size ≤ g) (hg' : w.heap.size ≤ g') {W : World} (hW : (((w3.setCell ⟨g, 0, none⟩ (.bool b)).setCell ⟨g, 1, none⟩ s).setCell ⟨g', 0, none⟩ (.bool b')).setCell ⟨g', 1, none⟩ s' = W) :
    W.cell? ⟨g, 0, none⟩ = some (.bool b) ∧ W.cell? ⟨g, 1, none⟩ = some s ∧ W.cell? ⟨g', 0, none⟩ = some (.bool b') ∧ W.cell? ⟨g', 1, none⟩ = some s' ∧ RetNum2 w m n (.returned (.tuple #[.agg #[.bool b, s], .agg #[.bool b', s']])) W := by
  have hW : sn2 (sn2 w3 g b s) g' b' s' = W := hW
  subst hW
  have kA := k.st b h.cb
  have kA' := k'.o2 (b1 := b) (s1 := s) (Ne.symm hne)
  have kB := kA.o2 hne b' s'
  have kB' := kA'.st b' h'.cb
  have q1 := (h.sn2 (b1 := b) k h.cb).sn2 (b1 := b') kA' h'.cb
  have q2 := (h'.sn2 (b1 := b) k h.cb).sn2 (b1 := b') kA' h'.cb
  exact ⟨kB.c0, kB.c1, kB'.c0, kB'.c1, _, _, rfl, ⟨s, by rw [hb], q1⟩, ⟨s', by rw [hb'], q2⟩, (s3.sn2 hg b s).sn2 hg' b' s'⟩
set_option maxRecDepth 100000 in
set_option maxHeartbeats 4000000 in
/-- QuoRem -/
theorem nquoRem_any {v v' : Value} {m n : Int} {K : Nat} {w : World} (h : NumV w v m) (h' : NumV w v' n) (hn0 : n ≠ 0) (hK : K < 100000) (hm : m.natAbs < B32 ^ K) : Calls Tryz.prog 120 #[v, v'] w (RetNum2 w (m.tdiv n) (m.tmod n)) := by
  obtain ⟨b1, a1, l1, p1, rfl, e1, h1⟩ := h.op
  obtain ⟨b2, a2, l2, p2, rfl, e2, h2⟩ := h'.op
  obtain ⟨w0, hw0, hb0, k0, k1, k2, k3, hz0⟩ := nboxes4 w #[.bool b1, .slice a1 l1 p1] 30 #[.bool b2, .slice a2 l2 p2] 30 #[.bool false, .slice none 0 0] 30 #[.bool false, .slice none 0 0] 30 (cb2 b1 h1.cb) (cb2 b2 h2.cb) (cb2 false cb_nil) (cb2 false cb_nil)
  have k0 : N2 w.heap.size b1 (.slice a1 l1 p1) w0 := k0
  have k1 : N2 (w.heap.size + 1) b2 (.slice a2 l2 p2) w0 := k1
  have k2 : N2 (w.heap.size + 1 + 1) false (.slice none 0 0) w0 := k2
  have k3 : N2 (w.heap.size + 1 + 1 + 1) false (.slice none 0 0) w0 := k3
  have HD := Lib.hid (divMag_any (K := K) (h1.below hb0) (h2.below hb0) (by omega) (Nat.lt_trans hK (by decide)) hm)
  have HE := Lib.hid (And.intro e1 e2)
  have c00 := k0.c0
  have c01 := k0.c1
  have c10 := k1.c0
  have c11 := k1.c1
  clear h h' h1 h2 e1 e2 hz0 hK hm hn0
  go_enter Tryz.func120, Tryz.ntmps120
  go_wp2_with fail
  refine HD.out.mono ?_
  rintro e w9 ⟨vq, vr, rfl, hq, hr, hb9⟩
  have k0 := k0.below hb9
  have k1 := k1.below hb9
  have k2 := k2.below hb9
  have k3 := k3.below hb9
  have hs9 := hb0.trans (hb9.mono hb0.size)
  have HQ := Lib.hid hq
  have HR := Lib.hid hr
  clear c00 c01 c10 c11 HD hq hr hb9
  have c00 := k0.c0
  have c01 := k0.c1
  have c10 := k1.c0
  have c11 := k1.c1
  go_wp2_with fail
  have n02 : w.heap.size ≠ w.heap.size + 1 + 1 := by omega
  have n03 : w.heap.size ≠ w.heap.size + 1 + 1 + 1 := by omega
  have n12 : w.heap.size + 1 ≠ w.heap.size + 1 + 1 := by omega
  have n13 : w.heap.size + 1 ≠ w.heap.size + 1 + 1 + 1 := by omega
  have hg2 : w.heap.size ≤ w.heap.size + 1 + 1 := by omega
  have hg3 : w.heap.size ≤ w.heap.size + 1 + 1 + 1 := by omega
  have k0 : N2 w.heap.size b1 (.slice a1 l1 p1) w9.drew := k0
  have k1 : N2 (w.heap.size + 1) b2 (.slice a2 l2 p2) w9.drew := k1
  have k2 : N2 (w.heap.size + 1 + 1) false (.slice none 0 0) w9.drew := k2
  have k3 : N2 (w.heap.size + 1 + 1 + 1) false (.slice none 0 0) w9.drew := k3
  have hc : Below w9.heap.size w9 w9.drew := (Below.refl _ _).drew
  have hs : Below w.heap.size w w9.drew := hs9.drew
  go_region_held3 (fun w' => w'.cell? ⟨w.heap.size, 0, none⟩ = some (.bool b1) ∧ w'.cell? ⟨w.heap.size, 1, none⟩ = some (.slice a1 l1 p1) ∧ w'.cell? ⟨(w.heap.size + 1), 0, none⟩ = some (.bool b2) ∧ w'.cell? ⟨(w.heap.size + 1), 1, none⟩ = some (.slice a2 l2 p2) ∧ Below w.heap.size w w') (first | (with_reducible exact ⟨k0.c0, k0.c1, k1.c0, k1.c1, hs⟩) | (with_reducible exact ⟨(k0.o2 n02 _ _).c0, (k0.o2 n02 _ _).c1, (k1.o2 n12 _ _).c0, (k1.o2 n12 _ _).c1, hs.sn2 hg2 _ _⟩) | (with_reducible exact ⟨((k0.o2 n02 _ _).o2 n03 _ _).c0, ((k0.o2 n02 _ _).o2 n03 _ _).c1, ((k1.o2 n12 _ _).o2 n13 _ _).c0, ((k1.o2 n12 _ _).o2 n13 _ _).c1, (hs.sn2 hg2 _ _).sn2 hg3 _ _⟩) | fail) (first | (go_at_call 100; (with_reducible refine (make1_any (!(b1 == b2)) (HQ.out.below hc)).mono ?_); rintro e w3 ⟨v3, rfl, hv3, hb3⟩; have k0 := k0.below hb3; have k1 := k1.below hb3; have k2 := k2.below hb3; have k3 := k3.below hb3; have hs := hs.trans (hb3.mono hs.size); have hc := hc.trans (hb3.mono hc.size); obtain ⟨qb, qao, qk, qcap, rfl, hqb, hqs⟩ := hv3.op; have HQB := Lib.hid hqb; clear hqb) | (go_at_call 100; (with_reducible refine (make1_any b1 (HR.out.below hc)).mono ?_); rintro e w4 ⟨v4, rfl, hv4, hb4⟩; have k0 := k0.below hb4; have k1 := k1.below hb4; have k2 := k2.below hb4; have k3 := k3.below hb4; have hs := hs.trans (hb4.mono hs.size); have hc := hc.trans (hb4.mono hc.size); obtain ⟨rb, rao, rk, rcap, rfl, hrb, hrs⟩ := hv4.op; have HRB := Lib.hid hrb; clear hrb; have hqs := hqs.below hb4; have d0 := k2.c0; have d1 := k2.c1; have f0 := k2.f 0; have f1 := k2.f 1; have d2 := k3.c0; have d3 := k3.c1; have f2 := k3.f 0; have f3 := k3.f 1) | fail)
  obtain ⟨WW, hWW⟩ : ∃ WW, (((w4.setCell ⟨w.heap.size + 1 + 1, 0, none⟩ (.bool qb)).setCell ⟨w.heap.size + 1 + 1, 1, none⟩ (.slice qao qk qcap)).setCell ⟨w.heap.size + 1 + 1 + 1, 0, none⟩ (.bool rb)).setCell ⟨w.heap.size + 1 + 1 + 1, 1, none⟩ (.slice rao rk rcap) = WW := ⟨_, rfl⟩
  rw [hWW]
  have hqb := HQB.out
  have hrb := HRB.out
  have hv5 : signed (!(b1 == b2)) (m.natAbs / n.natAbs) = m.tdiv n := quo_sign HE.out.1 HE.out.2
  have hv6 : signed b1 (m.natAbs % n.natAbs) = m.tmod n := rem_sign HE.out.1
  rw [hv5] at hqb hqs
  rw [hv6] at hrb hrs
  obtain ⟨z0, z1, z2, z3, z4⟩ := ret_num2 (m := m.tdiv n) (n := m.tmod n) k2 k3 (by omega) hqb hqs hrb hrs hs hg2 hg3 hWW
  have HZ := Lib.hid z4
  clear hs hc d0 d1 f0 f1 d2 d3 f2 f3 hWW z4 k0 k1 k2 k3 hqb hrb hqs hrs
  go_wp2_with fail
  exact bodyPost_ret (v := .tuple #[.agg #[.bool qb, .slice qao qk qcap], .agg #[.bool rb, .slice rao rk rcap]]) (by simp [results, Tryz.results120, go_sem, z0, z1, z2, z3]) rfl HZ.out
end Go.Proofs.YtekghemhccfhkaaGreatDoor
namespace Go.Proofs.YtekghemhccfhkaaGreatDoor
open Go.RowKit Go.Big
set_option maxRecDepth 100000 in
set_option maxHeartbeats 4000000 in
/-- Gcd -/
theorem ngcd_any {v v' : Value} {m n : Int} {K : Nat} {w : World} (h : NumV w v m) (h' : NumV w v' n) (hK : K < 100000) (hm : m.natAbs < B32 ^ K) (hn : n.natAbs < B32 ^ K) : Calls Tryz.prog 93 #[v, v'] w (RetNum w (Nat.gcd m.natAbs n.natAbs : Nat)) := by
  obtain ⟨b1, a1, l1, p1, rfl, e1, h1⟩ := h.op
  obtain ⟨b2, a2, l2, p2, rfl, e2, h2⟩ := h'.op
  obtain ⟨w0, hw0, hb0, k0, k1, k2, hz0⟩ := nboxes3 w #[.bool b1, .slice a1 l1 p1] 30 #[.bool b2, .slice a2 l2 p2] 30 #[.bool false, .slice none 0 0] 30 (cb2 b1 h1.cb) (cb2 b2 h2.cb) (cb2 false cb_nil)
  have k0 : N2 w.heap.size b1 (.slice a1 l1 p1) w0 := k0
  have k1 : N2 (w.heap.size + 1) b2 (.slice a2 l2 p2) w0 := k1
  have k2 : N2 (w.heap.size + 1 + 1) false (.slice none 0 0) w0 := k2
  have HA := Lib.hid (h1.below hb0)
  have HB := Lib.hid (h2.below hb0)
  have HM := Lib.hid (And.intro hK (And.intro hm hn))
  have HB0 := Lib.hid hb0
  have HK2 := Lib.hid k2
  have c00 := k0.c0
  have c01 := k0.c1
  have c10 := k1.c0
  have c11 := k1.c1
  clear h h' h1 h2 e1 e2 hz0 hK hm hn k0 k1 k2 hb0
  go_enter Tryz.func93, Tryz.ntmps93
  go_wp2_with fail
  go_quiet (fail)
  go_wp2_with fail
  go_loopg [5, 6] n.natAbs (fun gg x y wr => ∃ p g : Nat, g ≤ gg ∧ NatV wr .u32 B32 x p ∧ NatV wr .u32 B32 y g ∧ p < B32 ^ K ∧ g < B32 ^ K ∧ Nat.gcd p g = Nat.gcd m.natAbs n.natAbs ∧ Below w0.heap.size w0 wr)
  case atStart => exact ⟨m.natAbs, n.natAbs, Nat.le_refl _, HA.out.drewN _, HB.out.drewN _, HM.out.2.1, HM.out.2.2, rfl, below_drewN (Below.refl _ _) _⟩
  case round =>
    obtain ⟨p, g, hgg, hp, hg, hpb, hgb, hgcd, hbel⟩ := hrel
    have hg' := hg
    obtain ⟨bo, capb, lb, rfl, sb, wb, nb, eb⟩ := hg'
    have hlm := sb.len_le
    by_cases h0 : 0 < lb.length
    · have hgp : 0 < g := by
        rcases Nat.eq_zero_or_pos g with h1 | h1
        · rw [h1] at eb
          rw [(val_zero_iff (B := B32) (by decide) nb).1 eb] at h0; simp at h0
        · exact h1
      have HD := Lib.hid (divMag_any hp hg hgp (Nat.lt_trans HM.out.1 (by decide)) hpb)
      have HG := Lib.hid hg
      have HN := Lib.hid (And.intro hpb (And.intro hgb (And.intro hgcd (And.intro hbel hgp))))
      clear hp hg hpb hgb hgcd hbel sb wb nb eb hgp
      go_wp2_with fail
      refine HD.out.mono ?_
      rintro e w1 ⟨vq, vr, rfl, hq, hr, hb1⟩
      have HG := Lib.hid (HG.out.below hb1)
      have HR := Lib.hid hr
      have HB1 := Lib.hid (HN.out.2.2.2.1.trans (hb1.mono HN.out.2.2.2.1.size))
      clear HD hq hr hb1
      go_wp2_with fail
      go_roundg (p % g)
      case rel => exact ⟨g, p % g, Nat.le_refl _, HG.out, HR.out, HN.out.2.1, Nat.lt_trans (Nat.mod_lt _ HN.out.2.2.2.2) HN.out.2.1, by rw [← HN.out.2.2.1, Nat.gcd_comm p g, Nat.gcd_rec g p, Nat.gcd_comm], HB1.out⟩
      case measure => have := Nat.mod_lt p HN.out.2.2.2.2; omega
    · have hg0 : g = 0 := by
        have : lb = [] := List.eq_nil_of_length_eq_zero (by omega)
        subst this
        rw [← eb]; rfl
      subst hg0
      clear hgg
      rw [Nat.gcd_zero_right] at hgcd
      have HMK := Lib.hid (make1_any false hp)
      have HN := Lib.hid (And.intro hgcd hbel)
      have hb' := HB0.out.trans (hbel.mono HB0.out.size)
      have k2 := HK2.out.below hbel
      clear hp hg hpb hgb hgcd hbel sb wb nb eb
      go_wp2_with fail
      refine HMK.out.mono ?_
      rintro e w1 ⟨v1, rfl, hv1, hb1⟩
      have hv1 := numv_signed (m := ((Nat.gcd m.natAbs n.natAbs : Nat) : Int)) hv1 (by rw [HN.out.1]; rfl)
      obtain ⟨rb, rao, rk, rcap, rfl, hrb, hrs⟩ := hv1.op
      have k2 := k2.below hb1
      have hs := hb'.trans (hb1.mono hb'.size)
      obtain ⟨WW, hWW⟩ : ∃ WW, (w1.setCell ⟨w.heap.size + 1 + 1, 0, none⟩ (.bool rb)).setCell ⟨w.heap.size + 1 + 1, 1, none⟩ (.slice rao rk rcap) = WW := ⟨_, rfl⟩
      obtain ⟨z0, z1, z2⟩ := ret_num (n := ((Nat.gcd m.natAbs n.natAbs : Nat) : Int)) k2 hrb hrs hs (by omega) hWW
      have d0 := k2.c0
      have d1 := k2.c1
      have f0 := k2.f 0
      have f1 := k2.f 1
      have HZ := Lib.hid z2
      clear z2 hv1 hrs hs hb1 k2 hrb HMK hb'
      go_wp2_with fail
      exact bodyPost_ret (v := .agg #[.bool rb, .slice rao rk rcap]) (by simp [results, Tryz.results93, go_sem, z0, z1]) rfl HZ.out
end Go.Proofs.YtekghemhccfhkaaGreatDoor
namespace Go.Proofs.YtekghemhccfhkaaGreatDoor
open Go.RowKit Go.Big
theorem ret_rat {w w3 : World} {g : Nat} {b0 b b0' : Bool} {s0 s0' : Value} {ao ao' : Option Addr} {k k' cap cap' : Nat} {q : Rat} (kk : N4 g b0 s0 b0' s0' w3) (hb : b = decide (q.num < 0)) (h : NatV w3 .u32 B32 (.slice ao k cap) q.num.natAbs) (h' : NatV w3 .u32 B32 (.slice ao' k' cap') (dn q.den))
    (s3 : Below w.heap.size w w3) (hg : w.heap.size ≤ g) {W : World} (hW : (((w3.setCell ⟨g, 0, none⟩ (.bool b)).setCell ⟨g, 1, none⟩ (.slice ao k cap)).setCell ⟨g, 2, none⟩ (.bool false)).setCell ⟨g, 3, none⟩ (.slice ao' k' cap') = W) :
    W.cell? ⟨g, 0, none⟩ = some (.bool b) ∧ W.cell? ⟨g, 1, none⟩ = some (.slice ao k cap) ∧ W.cell? ⟨g, 2, none⟩ = some (.bool false) ∧ W.cell? ⟨g, 3, none⟩ = some (.slice ao' k' cap') ∧ RetRat w q (.returned (.agg #[.bool b, .slice ao k cap, .bool false, .slice ao' k' cap'])) W := by
  have hW : sn4 w3 g b (.slice ao k cap) false (.slice ao' k' cap') = W := hW
  subst hW
  have k1 := kk.st b h.cb false h'.cb
  exact ⟨k1.c0, k1.c1, k1.c2, k1.c3, _, rfl, ⟨_, _, _, _, _, _, by rw [hb], h.sn4 kk h.cb, h'.sn4 kk h.cb⟩, s3.sn4 hg b _ false _⟩
theorem frac_parts {q : Rat} {n d : Int} (hd : 0 < d) (hq : q.num * d = n * q.den) : q.num = n.tdiv (Nat.gcd n.natAbs d.natAbs : Nat) ∧ (q.den : Int) = d.tdiv (Nat.gcd n.natAbs d.natAbs : Nat) := by
  obtain ⟨e, rfl⟩ := Int.eq_ofNat_of_zero_le (Int.le_of_lt hd)
  rw [Int.natAbs_natCast]
  have h := rat_reduce (q := q) (n := n) (d := e) (by omega) hq
  refine ⟨?_, ?_⟩
  · rw [h.1, Int.tdiv_eq_ediv_of_dvd gcd_dvd_int]
  · rw [h.2]; rfl
set_option maxRecDepth 100000 in
set_option maxHeartbeats 4000000 in
/-- Frac, the second number positive -/
theorem frac_pos {v v' : Value} {n d : Int} {K : Nat} {q : Rat} {w : World} (h : NumV w v n) (h' : NumV w v' d) (hd : 0 < d) (hK : K < 100000) (hm : n.natAbs < B32 ^ K) (hn : d.natAbs < B32 ^ K) (hq : q.num * d = n * q.den) : Calls Tryz.prog 75 #[v, v'] w (RetRat w q) := by
  obtain ⟨nb, na, nk, nc, rfl, e1, h1⟩ := h.op
  obtain ⟨b2, da, dk, dc, rfl, e2, h2⟩ := h'.op
  have hb2 : b2 = false := by rw [e2, decide_eq_false]; omega
  subst hb2
  obtain ⟨w0, hw0, hb0, k0, k1, k2, hz0⟩ := nboxes3 w #[.bool nb, .slice na nk nc] 30 #[.bool false, .slice da dk dc] 30 #[.bool false, .slice none 0 0, .bool false, .slice none 0 0] 32 (cb2 nb h1.cb) (cb2 false h2.cb) (cb4 false cb_nil false cb_nil)
  have k0 : N2 w.heap.size nb (.slice na nk nc) w0 := k0
  have k1 : N2 (w.heap.size + 1) false (.slice da dk dc) w0 := k1
  have k2 : N4 (w.heap.size + 1 + 1) false (.slice none 0 0) false (.slice none 0 0) w0 := k2
  have HG := Lib.hid (ngcd_any (num_of e1 (h1.below hb0)) (num_of e2 (h2.below hb0)) hK hm hn)
  have HP := Lib.hid (frac_parts hd hq)
  have HA := Lib.hid (num_of e1 (h1.below hb0))
  have HB := Lib.hid (num_of e2 (h2.below hb0))
  have HM := Lib.hid (And.intro hK (And.intro hm (And.intro hn hd)))
  have HE := Lib.hid (And.intro e1 e2)
  have HH := Lib.hid (And.intro (h1.below hb0) (h2.below hb0))
  have k0c0 := k0.c0
  have k0c1 := k0.c1
  have k1c0 := k1.c0
  have k1c1 := k1.c1
  clear h h' h1 h2 e1 e2 hz0 hK hm hn hq hd
  go_enter Tryz.func75, Tryz.ntmps75
  go_wp2_with fail
  refine HG.out.mono ?_
  rintro e w1 ⟨v1, rfl, hv1, hb1⟩
  obtain ⟨gb, ga, gk, gc, rfl, hgb, hgs⟩ := hv1.op
  have hgb0 : gb = false := by rw [hgb, decide_eq_false]; omega
  subst hgb0
  obtain ⟨WA, hWA⟩ : ∃ WA, w1.alloc (.cells #[.bool false, .slice none 0 0] 30) = WA := ⟨_, rfl⟩
  have kA : N2 w1.heap.size false (.slice none 0 0) WA := by rw [← hWA]; exact Bb.new w1 30 (cb2 false cb_nil)
  have hbA : Below w1.heap.size w1 WA := by rw [← hWA]; exact (Below.refl _ _).alloc (Nat.le_refl _) _
  obtain ⟨WG, hWG⟩ : ∃ WG, (WA.setCell ⟨w1.heap.size, 0, none⟩ (.bool false)).setCell ⟨w1.heap.size, 1, none⟩ (.slice ga gk gc) = WG := ⟨_, rfl⟩
  have k3 : N2 w1.heap.size false (.slice ga gk gc) WG := by rw [← hWG]; exact kA.st false (Cb.sl _ _ _)
  have hbG : Below w1.heap.size w1 WG := by rw [← hWG]; exact hbA.sn2 (Nat.le_refl _) _ _
  have hb1G : Below w0.heap.size w0 WG := hb1.trans (hbG.mono hb1.size)
  have k0 := k0.below hb1G
  have k1 := k1.below hb1G
  have k2 := k2.below hb1G
  have hs := hb0.trans (hb1G.mono hb0.size)
  have hgz : w.heap.size + 2 < w1.heap.size := by have := hb1.size; have := hw0; have h9 : w0.heap.size = w.heap.size + 3 := by rw [← hw0]; simp
                                                  omega
  obtain ⟨g, hgd⟩ : ∃ g, Nat.gcd n.natAbs d.natAbs = g := ⟨_, rfl⟩
  rw [hgd] at hgb hgs
  rw [hgd] at HP
  have hgs : NatV WG .u32 B32 (.slice ga gk gc) g := by rw [Int.natAbs_natCast] at hgs; exact hgs.below hbG
  have HGS := Lib.hid hgs
  have HHG := Lib.hid (And.intro (HH.out.1.below hb1G) (HH.out.2.below hb1G))
  have HGD := Lib.hid hgd
  have HBT := Lib.hid (nbits_any (num_of (n := (g : Int)) (show false = decide ((g : Int) < 0) by rw [decide_eq_false]; omega) (by rw [Int.natAbs_natCast]; exact hgs)))
  have kAc0 := kA.c0
  have kAc1 := kA.c1
  have kAf0 := kA.f 0
  have kAf1 := kA.f 1
  have k3c0 := k3.c0
  have k3c1 := k3.c1
  clear HG hv1 hgb hgs hgd HH hb1 hbA hbG hb1G kA hb0 HA HB
  clear k0c0 k0c1 k1c0 k1c1
  go_wp2_with fail
  refine HBT.out.mono ?_
  rintro e w5 ⟨kg, rfl, hkg, hb5⟩
  rw [Int.natAbs_natCast] at hkg
  have k0 := k0.below hb5
  have k1 := k1.below hb5
  have k2 := k2.below hb5
  have k3 := k3.below hb5
  have hs := hs.trans (hb5.mono hs.size)
  have HGS := Lib.hid (HGS.out.below hb5)
  have HHG := Lib.hid (And.intro (HHG.out.1.below hb5) (HHG.out.2.below hb5))
  clear k3c0 k3c1 kAc0 kAc1
  clear kAf0 kAf1
  clear HBT hb5
  have hgpos : 0 < g := by rw [← HGD.out]; exact Nat.gcd_pos_of_pos_right _ (by have := HM.out.2.2.2; omega)
  by_cases hg1 : 1 < g
  · have h1 : decide ((1 : Int) < (kg : Int)) = true := decide_eq_true (by have := hkg.many.2 hg1; omega)
    have hgb : g < B32 ^ K := Nat.lt_of_le_of_lt (by rw [← HGD.out]; exact Nat.le_of_dvd (by have := HM.out.2.2.2; omega) (Nat.gcd_dvd_right _ _)) HM.out.2.2.1
    have HQ1 := Lib.hid (nquoRem_any (num_of HE.out.1 HHG.out.1) (num_of (n := (g : Int)) (show false = decide ((g : Int) < 0) by rw [decide_eq_false]; omega) (by rw [Int.natAbs_natCast]; exact HGS.out)) (by omega) HM.out.1 HM.out.2.1)
    have k0c0 := k0.c0
    have k0c1 := k0.c1
    have k3c0 := k3.c0
    have k3c1 := k3.c1
    clear hkg hg1 hgb
    go_wp2_with fail
    refine HQ1.out.mono ?_
    rintro e w6 ⟨vq, vr, rfl, hq1, hr1, hb6⟩
    obtain ⟨mb, ma, mk, mc, rfl, hmb, hms⟩ := hq1.op
    obtain ⟨xb, xa, xk, xc, rfl, _, _⟩ := hr1.op
    have k0 := k0.below hb6
    have k1 := k1.below hb6
    have k2 := k2.below hb6
    have k3 := k3.below hb6
    have hs := hs.trans (hb6.mono hs.size)
    obtain ⟨W6, hW6⟩ : ∃ W6, (w6.setCell ⟨w.heap.size, 0, none⟩ (.bool mb)).setCell ⟨w.heap.size, 1, none⟩ (.slice ma mk mc) = W6 := ⟨_, rfl⟩
    have HNB : Hid (mb = decide (q.num < 0)) := by rw [HP.out.1]; exact hmb
    have hmsW : NatV W6 .u32 B32 (.slice ma mk mc) q.num.natAbs := by rw [HP.out.1, ← hW6]; exact hms.sn2 k0 hms.cb
    have hdW : NatV W6 .u32 B32 (.slice da dk dc) d.natAbs := by rw [← hW6]; exact (HHG.out.2.below hb6).sn2 k0 hms.cb
    have hgW : NatV W6 .u32 B32 (.slice ga gk gc) g := by rw [← hW6]; exact (HGS.out.below hb6).sn2 k0 hms.cb
    have j0 : N2 w.heap.size mb (.slice ma mk mc) W6 := by rw [← hW6]; exact k0.st mb hms.cb
    have j1 : N2 (w.heap.size + 1) false (.slice da dk dc) W6 := by rw [← hW6]; exact k1.o2 (by omega) _ _
    have j2 : N4 (w.heap.size + 1 + 1) false (.slice none 0 0) false (.slice none 0 0) W6 := by rw [← hW6]; exact k2.o2 (by omega) _ _
    have j3 : N2 w1.heap.size false (.slice ga gk gc) W6 := by rw [← hW6]; exact k3.o2 (by omega) _ _
    have hs6 : Below w.heap.size w W6 := by rw [← hW6]; exact hs.sn2 (Nat.le_refl _) _ _
    have HNN := Lib.hid hmsW
    have HQ2 := Lib.hid (nquoRem_any (num_of HE.out.2 hdW) (num_of (n := (g : Int)) (show false = decide ((g : Int) < 0) by rw [decide_eq_false]; omega) (by rw [Int.natAbs_natCast]; exact hgW)) (by omega) HM.out.1 HM.out.2.2.1)
    have HJ := Lib.hid (And.intro j0 (And.intro j1 (And.intro j2 (And.intro j3 hs6))))
    have y0c0 := k0.c0
    have y0f0 := k0.f 0
    have y0c1 := k0.c1
    have y0f1 := k0.f 1
    have y1c0 := j1.c0
    have y1c1 := j1.c1
    have y3c0 := j3.c0
    have y3c1 := j3.c1
    clear HQ1 hq1 hr1 hms hmb hmsW hdW hgW hb6 k0 k1 k2 k3 hs j0 j1 j2 j3 hs6 k0c0 k0c1 k3c0 k3c1 HHG HGS
    go_wp2_with fail
    refine HQ2.out.mono ?_
    rintro e w7 ⟨vq2, vr2, rfl, hq2, hr2, hb7⟩
    obtain ⟨ob, oa, ok, oc, rfl, hob, hos⟩ := hq2.op
    obtain ⟨ub, ua, uk, uc, rfl, _, _⟩ := hr2.op
    have hob0 : ob = false := by rw [hob, decide_eq_false]; rw [← HP.out.2]; omega
    subst hob0
    have k0 := HJ.out.1.below hb7
    have k1 := HJ.out.2.1.below hb7
    have k2 := HJ.out.2.2.1.below hb7
    have hs := HJ.out.2.2.2.2.trans (hb7.mono HJ.out.2.2.2.2.size)
    obtain ⟨W7, hW7⟩ : ∃ W7, (w7.setCell ⟨w.heap.size + 1, 0, none⟩ (.bool false)).setCell ⟨w.heap.size + 1, 1, none⟩ (.slice oa ok oc) = W7 := ⟨_, rfl⟩
    have hoD : NatV W7 .u32 B32 (.slice oa ok oc) q.den := by
      have h9 : (d.tdiv (g : Int)).natAbs = q.den := by rw [← HP.out.2, Int.natAbs_natCast]
      rw [← h9, ← hW7]; exact hos.sn2 k1 hos.cb
    have hnD : NatV W7 .u32 B32 (.slice ma mk mc) q.num.natAbs := by rw [← hW7]; exact (HNN.out.below hb7).sn2 k1 hos.cb
    have j0 : N2 w.heap.size mb (.slice ma mk mc) W7 := by rw [← hW7]; exact k0.o2 (by omega) _ _
    have j1 : N2 (w.heap.size + 1) false (.slice oa ok oc) W7 := by rw [← hW7]; exact k1.st false hos.cb
    have j2 : N4 (w.heap.size + 1 + 1) false (.slice none 0 0) false (.slice none 0 0) W7 := by rw [← hW7]; exact k2.o2 (by omega) _ _
    have hs7 : Below w.heap.size w W7 := by rw [← hW7]; exact hs.sn2 (by omega) _ _
    have HNN := Lib.hid hnD
    have HDD := Lib.hid hoD
    have y1d0 := k1.c0
    have y1d1 := k1.c1
    have y1f0 := k1.f 0
    have y1f1 := k1.f 1
    clear HQ2 hq2 hr2 hos hob hoD hnD hb7 k0 k1 k2 hs HJ y0c0 y0c1 y0f0 y0f1 y1c0 y1c1 y3c0 y3c1 hW6
    have k0 := j0
    have k1 := j1
    have k2 := j2
    have hs := hs7
    clear j0 j1 j2 hs7
    have HBD := Lib.hid (nbits_any (num_of (n := (q.den : Int)) (show false = decide ((q.den : Int) < 0) by rw [decide_eq_false]; omega) (by rw [Int.natAbs_natCast]; exact HDD.out)))
    have k1c0 := k1.c0
    have k1c1 := k1.c1
    go_wp2_with fail
    refine HBD.out.mono ?_
    rintro e w8 ⟨kb, rfl, hkb, hb8⟩
    rw [Int.natAbs_natCast] at hkb
    have k0 := k0.below hb8
    have k1 := k1.below hb8
    have k2 := k2.below hb8
    have hs8 := hs.trans (hb8.mono hs.size)
    have HNN := Lib.hid (HNN.out.below hb8)
    have HDD := Lib.hid (HDD.out.below hb8)
    clear HBD hb8 hs
    clear k1c0 k1c1
    by_cases hd1 : q.den = 1
    · have h1 : ((kb : Int) == 1) = true := by rw [beq_iff_eq]; have := hkb.one.2 hd1; omega
      obtain ⟨W8, hW8⟩ : ∃ W8, (w8.setCell ⟨w.heap.size + 1, 0, none⟩ (.bool false)).setCell ⟨w.heap.size + 1, 1, none⟩ (.slice none 0 0) = W8 := ⟨_, rfl⟩
      have j0 : N2 w.heap.size mb (.slice ma mk mc) W8 := by rw [← hW8]; exact k0.o2 (by omega) _ _
      have j1 : N2 (w.heap.size + 1) false (.slice none 0 0) W8 := by rw [← hW8]; exact k1.st false cb_nil
      have j2 : N4 (w.heap.size + 1 + 1) false (.slice none 0 0) false (.slice none 0 0) W8 := by rw [← hW8]; exact k2.o2 (by omega) _ _
      have hs9 : Below w.heap.size w W8 := by rw [← hW8]; exact hs8.sn2 (by omega) _ _
      have hN8 : NatV W8 .u32 B32 (.slice ma mk mc) q.num.natAbs := by rw [← hW8]; exact HNN.out.sn2 k1 cb_nil
      obtain ⟨WW, hWW⟩ : ∃ WW, (((W8.setCell ⟨w.heap.size + 1 + 1, 0, none⟩ (.bool mb)).setCell ⟨w.heap.size + 1 + 1, 1, none⟩ (.slice ma mk mc)).setCell ⟨w.heap.size + 1 + 1, 2, none⟩ (.bool false)).setCell ⟨w.heap.size + 1 + 1, 3, none⟩ (.slice none 0 0) = WW := ⟨_, rfl⟩
      obtain ⟨z0, z1, z2, z3, z4⟩ := ret_rat (q := q) j2 HNB.out hN8 (by rw [hd1]; exact mag_nil _) hs9 (by omega) hWW
      have k1c0 := k1.c0
      have k1c1 := k1.c1
      have k1f0 := k1.f 0
      have k1f1 := k1.f 1
      have j0c0 := j0.c0
      have j0c1 := j0.c1
      have j1c0 := j1.c0
      have j1c1 := j1.c1
      have j2c0 := j2.c0
      have j2c1 := j2.c1
      have j2c2 := j2.c2
      have j2c3 := j2.c3
      have j2f0 := j2.f 0
      have j2f1 := j2.f 1
      have j2f2 := j2.f 2
      have j2f3 := j2.f 3
      have HZ := Lib.hid z4
      clear z4 hs8 hs9 hN8 k0 k1 k2 j0 j1 j2 hkb hd1
      go_wp2_with fail
      exact bodyPost_ret (v := .agg #[.bool mb, .slice ma mk mc, .bool false, .slice none 0 0]) (by simp [results, Tryz.results75, go_sem, z0, z1, z2, z3]) rfl HZ.out
    · have h1 : ((kb : Int) == 1) = false := by rw [beq_eq_false_iff_ne]; have := mt hkb.one.1 hd1; omega
      have hdn : dn q.den = q.den := if_neg hd1
      obtain ⟨WW, hWW⟩ : ∃ WW, (((w8.setCell ⟨w.heap.size + 1 + 1, 0, none⟩ (.bool mb)).setCell ⟨w.heap.size + 1 + 1, 1, none⟩ (.slice ma mk mc)).setCell ⟨w.heap.size + 1 + 1, 2, none⟩ (.bool false)).setCell ⟨w.heap.size + 1 + 1, 3, none⟩ (.slice oa ok oc) = WW := ⟨_, rfl⟩
      obtain ⟨z0, z1, z2, z3, z4⟩ := ret_rat (q := q) k2 HNB.out HNN.out (by rw [hdn]; exact HDD.out) hs8 (by omega) hWW
      have k0c0 := k0.c0
      have k0c1 := k0.c1
      have k1c0 := k1.c0
      have k1c1 := k1.c1
      have k2c0 := k2.c0
      have k2c1 := k2.c1
      have k2c2 := k2.c2
      have k2c3 := k2.c3
      have k2f0 := k2.f 0
      have k2f1 := k2.f 1
      have k2f2 := k2.f 2
      have k2f3 := k2.f 3
      have HZ := Lib.hid z4
      clear z4 hs8 k0 k1 k2 hkb hd1 hdn
      go_wp2_with fail
      exact bodyPost_ret (v := .agg #[.bool mb, .slice ma mk mc, .bool false, .slice oa ok oc]) (by simp [results, Tryz.results75, go_sem, z0, z1, z2, z3]) rfl HZ.out
  · have h1 : decide ((1 : Int) < (kg : Int)) = false := decide_eq_false (by have := mt hkg.many.1 hg1; omega)
    have hg1' : g = 1 := by omega
    have HP2 : Hid (q.num = n ∧ (q.den : Int) = d) := by
      have := HP.out
      rw [hg1'] at this
      rw [this.1, this.2]; exact ⟨Int.tdiv_one _, Int.tdiv_one _⟩
    have HNB : Hid (nb = decide (q.num < 0)) := by rw [HP2.out.1]; exact HE.out.1
    have HNN := Lib.hid (show NatV w5 .u32 B32 (.slice na nk nc) q.num.natAbs from by rw [HP2.out.1]; exact HHG.out.1)
    have HDD := Lib.hid (show NatV w5 .u32 B32 (.slice da dk dc) q.den from by rw [show q.den = d.natAbs by have := HP2.out.2; omega]; exact HHG.out.2)
    clear hkg hg1 hg1' hgpos k3 HGS HHG
    have HBD := Lib.hid (nbits_any (num_of (n := (q.den : Int)) (show false = decide ((q.den : Int) < 0) by rw [decide_eq_false]; omega) (by rw [Int.natAbs_natCast]; exact HDD.out)))
    have k1c0 := k1.c0
    have k1c1 := k1.c1
    go_wp2_with fail
    refine HBD.out.mono ?_
    rintro e w8 ⟨kb, rfl, hkb, hb8⟩
    rw [Int.natAbs_natCast] at hkb
    have k0 := k0.below hb8
    have k1 := k1.below hb8
    have k2 := k2.below hb8
    have hs8 := hs.trans (hb8.mono hs.size)
    have HNN := Lib.hid (HNN.out.below hb8)
    have HDD := Lib.hid (HDD.out.below hb8)
    clear HBD hb8 hs
    clear k1c0 k1c1
    by_cases hd1 : q.den = 1
    · have h1 : ((kb : Int) == 1) = true := by rw [beq_iff_eq]; have := hkb.one.2 hd1; omega
      obtain ⟨W8, hW8⟩ : ∃ W8, (w8.setCell ⟨w.heap.size + 1, 0, none⟩ (.bool false)).setCell ⟨w.heap.size + 1, 1, none⟩ (.slice none 0 0) = W8 := ⟨_, rfl⟩
      have j0 : N2 w.heap.size nb (.slice na nk nc) W8 := by rw [← hW8]; exact k0.o2 (by omega) _ _
      have j1 : N2 (w.heap.size + 1) false (.slice none 0 0) W8 := by rw [← hW8]; exact k1.st false cb_nil
      have j2 : N4 (w.heap.size + 1 + 1) false (.slice none 0 0) false (.slice none 0 0) W8 := by rw [← hW8]; exact k2.o2 (by omega) _ _
      have hs9 : Below w.heap.size w W8 := by rw [← hW8]; exact hs8.sn2 (by omega) _ _
      have hN8 : NatV W8 .u32 B32 (.slice na nk nc) q.num.natAbs := by rw [← hW8]; exact HNN.out.sn2 k1 cb_nil
      obtain ⟨WW, hWW⟩ : ∃ WW, (((W8.setCell ⟨w.heap.size + 1 + 1, 0, none⟩ (.bool nb)).setCell ⟨w.heap.size + 1 + 1, 1, none⟩ (.slice na nk nc)).setCell ⟨w.heap.size + 1 + 1, 2, none⟩ (.bool false)).setCell ⟨w.heap.size + 1 + 1, 3, none⟩ (.slice none 0 0) = WW := ⟨_, rfl⟩
      obtain ⟨z0, z1, z2, z3, z4⟩ := ret_rat (q := q) j2 HNB.out hN8 (by rw [hd1]; exact mag_nil _) hs9 (by omega) hWW
      have k1c0 := k1.c0
      have k1c1 := k1.c1
      have k1f0 := k1.f 0
      have k1f1 := k1.f 1
      have j0c0 := j0.c0
      have j0c1 := j0.c1
      have j1c0 := j1.c0
      have j1c1 := j1.c1
      have j2c0 := j2.c0
      have j2c1 := j2.c1
      have j2c2 := j2.c2
      have j2c3 := j2.c3
      have j2f0 := j2.f 0
      have j2f1 := j2.f 1
      have j2f2 := j2.f 2
      have j2f3 := j2.f 3
      have HZ := Lib.hid z4
      clear z4 hs8 hs9 hN8 k0 k1 k2 j0 j1 j2 hkb hd1
      go_wp2_with fail
      exact bodyPost_ret (v := .agg #[.bool nb, .slice na nk nc, .bool false, .slice none 0 0]) (by simp [results, Tryz.results75, go_sem, z0, z1, z2, z3]) rfl HZ.out
    · have h1 : ((kb : Int) == 1) = false := by rw [beq_eq_false_iff_ne]; have := mt hkb.one.1 hd1; omega
      have hdn : dn q.den = q.den := if_neg hd1
      obtain ⟨WW, hWW⟩ : ∃ WW, (((w8.setCell ⟨w.heap.size + 1 + 1, 0, none⟩ (.bool nb)).setCell ⟨w.heap.size + 1 + 1, 1, none⟩ (.slice na nk nc)).setCell ⟨w.heap.size + 1 + 1, 2, none⟩ (.bool false)).setCell ⟨w.heap.size + 1 + 1, 3, none⟩ (.slice da dk dc) = WW := ⟨_, rfl⟩
      obtain ⟨z0, z1, z2, z3, z4⟩ := ret_rat (q := q) k2 HNB.out HNN.out (by rw [hdn]; exact HDD.out) hs8 (by omega) hWW
      have k0c0 := k0.c0
      have k0c1 := k0.c1
      have k1c0 := k1.c0
      have k1c1 := k1.c1
      have k2c0 := k2.c0
      have k2c1 := k2.c1
      have k2c2 := k2.c2
      have k2c3 := k2.c3
      have k2f0 := k2.f 0
      have k2f1 := k2.f 1
      have k2f2 := k2.f 2
      have k2f3 := k2.f 3
      have HZ := Lib.hid z4
      clear z4 hs8 k0 k1 k2 hkb hd1 hdn
      go_wp2_with fail
      exact bodyPost_ret (v := .agg #[.bool nb, .slice na nk nc, .bool false, .slice da dk dc]) (by simp [results, Tryz.results75, go_sem, z0, z1, z2, z3]) rfl HZ.out
end Go.Proofs.YtekghemhccfhkaaGreatDoor
namespace Go.Big
open Go Go.RowKit
/-- Numerator and denominator have at most K words of 32 bits. -/
def Sn (K : Nat) (q : Rat) : Prop := q.num.natAbs < B32 ^ K ∧ q.den < B32 ^ K
theorem sn_mul {a b : Int} {K : Nat} (h1 : a.natAbs < B32 ^ K) (h2 : b.natAbs < B32 ^ K) : (a * b).natAbs < B32 ^ (K + K) := by
  rw [Int.natAbs_mul, Nat.pow_add]; exact Nat.mul_lt_mul'' h1 h2
theorem sn_up {a : Nat} {K : Nat} (h : a < B32 ^ K) : a < B32 ^ (K + 1) := Nat.lt_of_lt_of_le h (Nat.pow_le_pow_right (by decide) (by omega))
theorem sn_add {a b : Int} {K : Nat} (h1 : a.natAbs < B32 ^ K) (h2 : b.natAbs < B32 ^ K) : (a + b).natAbs < B32 ^ (K + 1) := by
  have h3 : (a + b).natAbs < B32 ^ K + B32 ^ K := by omega
  rw [Nat.pow_succ]
  have : B32 ^ K * 2 ≤ B32 ^ K * B32 := Nat.mul_le_mul_left _ (by decide)
  omega
theorem den_abs (q : Rat) : ((q.den : Nat) : Int).natAbs = q.den := Int.natAbs_natCast _
theorem add_whole {a b : Rat} (h1 : a.den = 1) (h2 : b.den = 1) : (a + b).num = a.num + b.num ∧ (a + b).den = 1 := by
  have h := rat_add a b
  rw [h1, h2] at h
  refine rat_of (by decide) (Nat.coprime_one_right _) ?_
  simpa using h
theorem mul_whole {a b : Rat} (h1 : a.den = 1) (h2 : b.den = 1) : (a * b).num = a.num * b.num ∧ (a * b).den = 1 := by
  have h := rat_mul a b
  rw [h1, h2] at h
  refine rat_of (by decide) (Nat.coprime_one_right _) ?_
  simpa using h
end Go.Big
namespace Go.Proofs.YtekghemhccfhkaaGreatDoor
open Go.RowKit Go.Big
set_option maxRecDepth 100000 in
set_option maxHeartbeats 4000000 in
/-- RAdd -/
theorem radd_any {v v' : Value} {q1 q2 : Rat} {K : Nat} {w : World} (h : NRat w v q1) (h' : NRat w v' q2) (hK : K < 10000) (s1 : Sn K q1) (s2 : Sn K q2) : Calls Tryz.prog 38 #[v, v'] w (RetRat w (q1 + q2)) := by
  obtain ⟨b1, a1, l1, p1, c1, m1, r1, rfl, e1, h1, i1⟩ := h.op
  obtain ⟨b2, a2, l2, p2, c2, m2, r2, rfl, e2, h2, i2⟩ := h'.op
  obtain ⟨w0, hw0, hb0, k0, k1, k2, hz0⟩ := nboxes3 w #[.bool b1, .slice a1 l1 p1, .bool false, .slice c1 m1 r1] 32 #[.bool b2, .slice a2 l2 p2, .bool false, .slice c2 m2 r2] 32 #[.bool false, .slice none 0 0, .bool false, .slice none 0 0] 32 (cb4 b1 h1.cb false i1.cb) (cb4 b2 h2.cb false i2.cb) (cb4 false cb_nil false cb_nil)
  have k0 : N4 w.heap.size b1 (.slice a1 l1 p1) false (.slice c1 m1 r1) w0 := k0
  have k1 : N4 (w.heap.size + 1) b2 (.slice a2 l2 p2) false (.slice c2 m2 r2) w0 := k1
  have k2 : N4 (w.heap.size + 1 + 1) false (.slice none 0 0) false (.slice none 0 0) w0 := k2
  have HA := Lib.hid (h.below hb0)
  have HB := Lib.hid (h'.below hb0)
  have HNA := Lib.hid (num_of e1 (h1.below hb0))
  have HNB := Lib.hid (num_of e2 (h2.below hb0))
  have HM := Lib.hid (And.intro hK (And.intro s1 s2))
  obtain ⟨hd1, hm1⟩ := dn_len q1.den_nz i1
  obtain ⟨hd2, hm2⟩ := dn_len q2.den_nz i2
  clear h h' h1 h2 i1 i2 e1 e2 hz0 hK s1 s2
  have HBN := Lib.hid (show (K < 100000 ∧ K + K < 100000 ∧ K + K + 1 < 100000) ∧ (q1.num.natAbs < B32 ^ K ∧ q2.num.natAbs < B32 ^ K ∧ (q1.den : Int).natAbs < B32 ^ K ∧ (q2.den : Int).natAbs < B32 ^ K) ∧ ((q1.num * (q2.den : Int)).natAbs < B32 ^ (K + K) ∧ (q2.num * (q1.den : Int)).natAbs < B32 ^ (K + K)) ∧ (((q1.den : Int) * (q2.den : Int)).natAbs < B32 ^ (K + K + 1) ∧ (q1.num * (q2.den : Int) + q2.num * (q1.den : Int)).natAbs < B32 ^ (K + K + 1) ∧ (q1.num * q2.num).natAbs < B32 ^ (K + K + 1)) from by
    have hk := HM.out.1
    obtain ⟨n1, d1⟩ := HM.out.2.1
    obtain ⟨n2, d2⟩ := HM.out.2.2
    have d1 : (q1.den : Int).natAbs < B32 ^ K := by rw [den_abs]; exact d1
    have d2 : (q2.den : Int).natAbs < B32 ^ K := by rw [den_abs]; exact d2
    exact ⟨⟨by omega, by omega, by omega⟩, ⟨n1, n2, d1, d2⟩, ⟨sn_mul n1 d2, sn_mul n2 d1⟩, sn_up (sn_mul d1 d2), sn_add (sn_mul n1 d2) (sn_mul n2 d1), sn_up (sn_mul n1 n2)⟩)
  have y00 := k0.c0
  have y01 := k0.c1
  have y02 := k0.c2
  have y03 := k0.c3
  have y10 := k1.c0
  have y11 := k1.c1
  have y12 := k1.c2
  have y13 := k1.c3
  have HPD := Lib.hid (show (0 : Int) < (q1.den : Int) * (q2.den : Int) from Int.mul_pos (by have := rat_den_pos q1; omega) (by have := rat_den_pos q2; omega))
  have HQ := Lib.hid (show (q1 + q2).num * ((q1.den : Int) * (q2.den : Int)) = (q1.num * (q2.den : Int) + q2.num * (q1.den : Int)) * (q1 + q2).den from by have := rat_add q1 q2; rwa [Int.natCast_mul] at this)
  by_cases hden : q1.den = 1 ∧ q2.den = 1
  · have t1 : ((m1 : Int) == 0) = true := by rw [beq_iff_eq]; have := hd1.2 hden.1; omega
    have t2 : ((m2 : Int) == 0) = true := by rw [beq_iff_eq]; have := hd2.2 hden.2; omega
    have HDD := Lib.hid (add_whole hden.1 hden.2)
    have HC := Lib.hid (nadd_any (K := K) HNA.out HNB.out (by have := HM.out.1; omega) HM.out.2.1.1 HM.out.2.2.1)
    clear hd1 hd2 hden
    go_enter Tryz.func38, Tryz.ntmps38
    go_wp2_with fail
    refine HC.out.mono ?_
    rintro e w1 ⟨v1, rfl, hv1, hb1⟩
    have hv1 := numv_signed (m := (q1 + q2).num) hv1 HDD.out.1.symm
    obtain ⟨rb, ra, rk, rc, rfl, hrb, hr1⟩ := hv1.op
    have k2 := k2.below hb1
    have hs := hb0.trans (hb1.mono hb0.size)
    obtain ⟨WW, hWW⟩ : ∃ WW, (((w1.setCell ⟨w.heap.size + 1 + 1, 0, none⟩ (.bool rb)).setCell ⟨w.heap.size + 1 + 1, 1, none⟩ (.slice ra rk rc)).setCell ⟨w.heap.size + 1 + 1, 2, none⟩ (.bool false)).setCell ⟨w.heap.size + 1 + 1, 3, none⟩ (.slice none 0 0) = WW := ⟨_, rfl⟩
    obtain ⟨z0, z1, z2, z3, z4⟩ := ret_rat (q := q1 + q2) k2 hrb hr1 (by rw [HDD.out.2]; exact mag_nil _) hs (by omega) hWW
    have HZ := Lib.hid z4
    have d0 := k2.c0
    have f0 := k2.f 0
    have d1 := k2.c1
    have f1 := k2.f 1
    have d2 := k2.c2
    have f2 := k2.f 2
    have d3 := k2.c3
    have f3 := k2.f 3
    clear hs hb1 hb0 z4 k0 k1 k2 hr1 hrb hv1 HC y00 y01 y02 y03 y10 y11 y12 y13
    go_wp2_with fail
    exact bodyPost_ret (v := .agg #[.bool rb, .slice ra rk rc, .bool false, .slice none 0 0]) (by simp [results, Tryz.results38, go_sem, z0, z1, z2, z3]) rfl HZ.out
  · by_cases hx1 : q1.den = 1
    · have hx2 : ¬ q2.den = 1 := fun h => hden ⟨hx1, h⟩
      have t1 : ((m1 : Int) == 0) = true := by rw [beq_iff_eq]; have := hd1.2 hx1; omega
      have t2 : ((m2 : Int) == 0) = false := by rw [beq_eq_false_iff_ne]; have := mt hd2.1 hx2; omega
      clear hd1 hd2 hden hx1 hx2
      go_enter Tryz.func38, Tryz.ntmps38
      go_wp2_with fail
      have n02 : w.heap.size ≠ w.heap.size + 1 + 1 := by omega
      have n12 : w.heap.size + 1 ≠ w.heap.size + 1 + 1 := by omega
      have hg : w.heap.size ≤ w.heap.size + 1 + 1 := by omega
      have k0 : N4 w.heap.size b1 (.slice a1 l1 p1) false (.slice c1 m1 r1) w0.drew := k0
      have k1 : N4 (w.heap.size + 1) b2 (.slice a2 l2 p2) false (.slice c2 m2 r2) w0.drew := k1
      have k2 : N4 (w.heap.size + 1 + 1) false (.slice none 0 0) false (.slice none 0 0) w0.drew := k2
      have hc : Below w0.heap.size w0 w0.drew := (Below.refl _ _).drew
      have hs : Below w.heap.size w w0.drew := hb0.drew
      go_region_held3 (fun w' => w'.cell? ⟨w.heap.size, 0, none⟩ = some (.bool b1) ∧ w'.cell? ⟨w.heap.size, 1, none⟩ = some (.slice a1 l1 p1) ∧ w'.cell? ⟨w.heap.size, 2, none⟩ = some (.bool false) ∧ w'.cell? ⟨w.heap.size, 3, none⟩ = some (.slice c1 m1 r1) ∧ w'.cell? ⟨(w.heap.size + 1), 0, none⟩ = some (.bool b2) ∧ w'.cell? ⟨(w.heap.size + 1), 1, none⟩ = some (.slice a2 l2 p2) ∧ w'.cell? ⟨(w.heap.size + 1), 2, none⟩ = some (.bool false) ∧ w'.cell? ⟨(w.heap.size + 1), 3, none⟩ = some (.slice c2 m2 r2) ∧ Below w.heap.size w w') (first | (with_reducible exact ⟨k0.c0, k0.c1, k0.c2, k0.c3, k1.c0, k1.c1, k1.c2, k1.c3, hs⟩) | (with_reducible exact ⟨(k0.o4 n02 _ _ _ _).c0, (k0.o4 n02 _ _ _ _).c1, (k0.o4 n02 _ _ _ _).c2, (k0.o4 n02 _ _ _ _).c3, (k1.o4 n12 _ _ _ _).c0, (k1.o4 n12 _ _ _ _).c1, (k1.o4 n12 _ _ _ _).c2, (k1.o4 n12 _ _ _ _).c3, hs.sn4 hg _ _ _ _⟩) | fail) (first | (go_at_call 83; (with_reducible refine (nden0_any (HB.out.below hc)).mono ?_); rintro e wb ⟨vb, rfl, hb, hbb⟩; have k0 := k0.below hbb; have k1 := k1.below hbb; have k2 := k2.below hbb; have hs := hs.trans (hbb.mono hs.size); have hc := hc.trans (hbb.mono hc.size); (try have ha := ha.below hbb); (try have hP := hP.below hbb); (try have hQ := hQ.below hbb); (try have hS := hS.below hbb); (try have hD := hD.below hbb)) | (go_at_call 83; (with_reducible refine (nden0_any (HA.out.below hc)).mono ?_); rintro e wa ⟨va, rfl, ha, hba⟩; have k0 := k0.below hba; have k1 := k1.below hba; have k2 := k2.below hba; have hs := hs.trans (hba.mono hs.size); have hc := hc.trans (hba.mono hc.size); (try have hb := hb.below hba); (try have hP := hP.below hba); (try have hQ := hQ.below hba); (try have hS := hS.below hba); (try have hD := hD.below hba)) | (go_at_call 72; (with_reducible refine (nmul_any (K := K) (HNA.out.below hc) hb HBN.out.1.1 HBN.out.2.1.1 HBN.out.2.1.2.2.2).mono ?_); rintro e wP ⟨vP, rfl, hP, hbP⟩; have k0 := k0.below hbP; have k1 := k1.below hbP; have k2 := k2.below hbP; have hs := hs.trans (hbP.mono hs.size); have hc := hc.trans (hbP.mono hc.size); (try have ha := ha.below hbP); (try have hb := hb.below hbP)) | (go_at_call 72; (with_reducible refine (nmul_any (K := K) (HNB.out.below hc) ha HBN.out.1.1 HBN.out.2.1.2.1 HBN.out.2.1.2.2.1).mono ?_); rintro e wQ ⟨vQ, rfl, hQ, hbQ⟩; have k0 := k0.below hbQ; have k1 := k1.below hbQ; have k2 := k2.below hbQ; have hs := hs.trans (hbQ.mono hs.size); have hc := hc.trans (hbQ.mono hc.size); (try have ha := ha.below hbQ); (try have hb := hb.below hbQ); (try have hP := hP.below hbQ)) | (go_at_call 73; (with_reducible refine (nadd_any (K := K + K) hP hQ HBN.out.1.2.1 HBN.out.2.2.1.1 HBN.out.2.2.1.2).mono ?_); rintro e wS ⟨vS, rfl, hS, hbS⟩; have k0 := k0.below hbS; have k1 := k1.below hbS; have k2 := k2.below hbS; have hs := hs.trans (hbS.mono hs.size); have hc := hc.trans (hbS.mono hc.size); (try have ha := ha.below hbS); (try have hb := hb.below hbS)) | (go_at_call 72; (with_reducible refine (nmul_any (K := K) ha hb HBN.out.1.1 HBN.out.2.1.2.2.1 HBN.out.2.1.2.2.2).mono ?_); rintro e wD ⟨vD, rfl, hD, hbD⟩; have k0 := k0.below hbD; have k1 := k1.below hbD; have k2 := k2.below hbD; have hs := hs.trans (hbD.mono hs.size); have hc := hc.trans (hbD.mono hc.size); (try have hS := hS.below hbD)) | (go_at_call 75; (with_reducible refine (frac_pos (K := K + K + 1) (q := q1 + q2) hS hD HPD.out HBN.out.1.2.2 HBN.out.2.2.2.2.1 HBN.out.2.2.2.1 HQ.out).mono ?_); rintro e wR ⟨vR, rfl, hR, hbR⟩; have k0 := k0.below hbR; have k1 := k1.below hbR; have k2 := k2.below hbR; have hs := hs.trans (hbR.mono hs.size); have hc := hc.trans (hbR.mono hc.size); obtain ⟨rb, ra, rk, rc, ra', rk', rc', rfl, hrb, hr1, hr2⟩ := hR.op; have HRB := Lib.hid hrb; clear hrb; have d0 := k2.c0; have f0 := k2.f 0; have d1 := k2.c1; have f1 := k2.f 1; have d2 := k2.c2; have f2 := k2.f 2; have d3 := k2.c3; have f3 := k2.f 3) | fail)
      obtain ⟨WW, hWW⟩ : ∃ WW, (((wR.setCell ⟨w.heap.size + 1 + 1, 0, none⟩ (.bool rb)).setCell ⟨w.heap.size + 1 + 1, 1, none⟩ (.slice ra rk rc)).setCell ⟨w.heap.size + 1 + 1, 2, none⟩ (.bool false)).setCell ⟨w.heap.size + 1 + 1, 3, none⟩ (.slice ra' rk' rc') = WW := ⟨_, rfl⟩
      rw [hWW]
      obtain ⟨z0, z1, z2, z3, z4⟩ := ret_rat (q := q1 + q2) k2 HRB.out hr1 hr2 hs hg hWW
      have HZ := Lib.hid z4
      clear hs hc hWW z4 k0 k1 k2 hr1 hr2 d0 d1 d2 d3 f0 f1 f2 f3
      go_wp2_with fail
      exact bodyPost_ret (v := .agg #[.bool rb, .slice ra rk rc, .bool false, .slice ra' rk' rc']) (by simp [results, Tryz.results38, go_sem, z0, z1, z2, z3]) rfl HZ.out
    · have t1 : ((m1 : Int) == 0) = false := by rw [beq_eq_false_iff_ne]; have := mt hd1.1 hx1; omega
      clear hd1 hd2 hden hx1
      go_enter Tryz.func38, Tryz.ntmps38
      go_wp2_with fail
      have n02 : w.heap.size ≠ w.heap.size + 1 + 1 := by omega
      have n12 : w.heap.size + 1 ≠ w.heap.size + 1 + 1 := by omega
      have hg : w.heap.size ≤ w.heap.size + 1 + 1 := by omega
      have k0 : N4 w.heap.size b1 (.slice a1 l1 p1) false (.slice c1 m1 r1) w0.drew := k0
      have k1 : N4 (w.heap.size + 1) b2 (.slice a2 l2 p2) false (.slice c2 m2 r2) w0.drew := k1
      have k2 : N4 (w.heap.size + 1 + 1) false (.slice none 0 0) false (.slice none 0 0) w0.drew := k2
      have hc : Below w0.heap.size w0 w0.drew := (Below.refl _ _).drew
      have hs : Below w.heap.size w w0.drew := hb0.drew
      go_region_held3 (fun w' => w'.cell? ⟨w.heap.size, 0, none⟩ = some (.bool b1) ∧ w'.cell? ⟨w.heap.size, 1, none⟩ = some (.slice a1 l1 p1) ∧ w'.cell? ⟨w.heap.size, 2, none⟩ = some (.bool false) ∧ w'.cell? ⟨w.heap.size, 3, none⟩ = some (.slice c1 m1 r1) ∧ w'.cell? ⟨(w.heap.size + 1), 0, none⟩ = some (.bool b2) ∧ w'.cell? ⟨(w.heap.size + 1), 1, none⟩ = some (.slice a2 l2 p2) ∧ w'.cell? ⟨(w.heap.size + 1), 2, none⟩ = some (.bool false) ∧ w'.cell? ⟨(w.heap.size + 1), 3, none⟩ = some (.slice c2 m2 r2) ∧ Below w.heap.size w w') (first | (with_reducible exact ⟨k0.c0, k0.c1, k0.c2, k0.c3, k1.c0, k1.c1, k1.c2, k1.c3, hs⟩) | (with_reducible exact ⟨(k0.o4 n02 _ _ _ _).c0, (k0.o4 n02 _ _ _ _).c1, (k0.o4 n02 _ _ _ _).c2, (k0.o4 n02 _ _ _ _).c3, (k1.o4 n12 _ _ _ _).c0, (k1.o4 n12 _ _ _ _).c1, (k1.o4 n12 _ _ _ _).c2, (k1.o4 n12 _ _ _ _).c3, hs.sn4 hg _ _ _ _⟩) | fail) (first | (go_at_call 83; (with_reducible refine (nden0_any (HB.out.below hc)).mono ?_); rintro e wb ⟨vb, rfl, hb, hbb⟩; have k0 := k0.below hbb; have k1 := k1.below hbb; have k2 := k2.below hbb; have hs := hs.trans (hbb.mono hs.size); have hc := hc.trans (hbb.mono hc.size); (try have ha := ha.below hbb); (try have hP := hP.below hbb); (try have hQ := hQ.below hbb); (try have hS := hS.below hbb); (try have hD := hD.below hbb)) | (go_at_call 83; (with_reducible refine (nden0_any (HA.out.below hc)).mono ?_); rintro e wa ⟨va, rfl, ha, hba⟩; have k0 := k0.below hba; have k1 := k1.below hba; have k2 := k2.below hba; have hs := hs.trans (hba.mono hs.size); have hc := hc.trans (hba.mono hc.size); (try have hb := hb.below hba); (try have hP := hP.below hba); (try have hQ := hQ.below hba); (try have hS := hS.below hba); (try have hD := hD.below hba)) | (go_at_call 72; (with_reducible refine (nmul_any (K := K) (HNA.out.below hc) hb HBN.out.1.1 HBN.out.2.1.1 HBN.out.2.1.2.2.2).mono ?_); rintro e wP ⟨vP, rfl, hP, hbP⟩; have k0 := k0.below hbP; have k1 := k1.below hbP; have k2 := k2.below hbP; have hs := hs.trans (hbP.mono hs.size); have hc := hc.trans (hbP.mono hc.size); (try have ha := ha.below hbP); (try have hb := hb.below hbP)) | (go_at_call 72; (with_reducible refine (nmul_any (K := K) (HNB.out.below hc) ha HBN.out.1.1 HBN.out.2.1.2.1 HBN.out.2.1.2.2.1).mono ?_); rintro e wQ ⟨vQ, rfl, hQ, hbQ⟩; have k0 := k0.below hbQ; have k1 := k1.below hbQ; have k2 := k2.below hbQ; have hs := hs.trans (hbQ.mono hs.size); have hc := hc.trans (hbQ.mono hc.size); (try have ha := ha.below hbQ); (try have hb := hb.below hbQ); (try have hP := hP.below hbQ)) | (go_at_call 73; (with_reducible refine (nadd_any (K := K + K) hP hQ HBN.out.1.2.1 HBN.out.2.2.1.1 HBN.out.2.2.1.2).mono ?_); rintro e wS ⟨vS, rfl, hS, hbS⟩; have k0 := k0.below hbS; have k1 := k1.below hbS; have k2 := k2.below hbS; have hs := hs.trans (hbS.mono hs.size); have hc := hc.trans (hbS.mono hc.size); (try have ha := ha.below hbS); (try have hb := hb.below hbS)) | (go_at_call 72; (with_reducible refine (nmul_any (K := K) ha hb HBN.out.1.1 HBN.out.2.1.2.2.1 HBN.out.2.1.2.2.2).mono ?_); rintro e wD ⟨vD, rfl, hD, hbD⟩; have k0 := k0.below hbD; have k1 := k1.below hbD; have k2 := k2.below hbD; have hs := hs.trans (hbD.mono hs.size); have hc := hc.trans (hbD.mono hc.size); (try have hS := hS.below hbD)) | (go_at_call 75; (with_reducible refine (frac_pos (K := K + K + 1) (q := q1 + q2) hS hD HPD.out HBN.out.1.2.2 HBN.out.2.2.2.2.1 HBN.out.2.2.2.1 HQ.out).mono ?_); rintro e wR ⟨vR, rfl, hR, hbR⟩; have k0 := k0.below hbR; have k1 := k1.below hbR; have k2 := k2.below hbR; have hs := hs.trans (hbR.mono hs.size); have hc := hc.trans (hbR.mono hc.size); obtain ⟨rb, ra, rk, rc, ra', rk', rc', rfl, hrb, hr1, hr2⟩ := hR.op; have HRB := Lib.hid hrb; clear hrb; have d0 := k2.c0; have f0 := k2.f 0; have d1 := k2.c1; have f1 := k2.f 1; have d2 := k2.c2; have f2 := k2.f 2; have d3 := k2.c3; have f3 := k2.f 3) | fail)
      obtain ⟨WW, hWW⟩ : ∃ WW, (((wR.setCell ⟨w.heap.size + 1 + 1, 0, none⟩ (.bool rb)).setCell ⟨w.heap.size + 1 + 1, 1, none⟩ (.slice ra rk rc)).setCell ⟨w.heap.size + 1 + 1, 2, none⟩ (.bool false)).setCell ⟨w.heap.size + 1 + 1, 3, none⟩ (.slice ra' rk' rc') = WW := ⟨_, rfl⟩
      rw [hWW]
      obtain ⟨z0, z1, z2, z3, z4⟩ := ret_rat (q := q1 + q2) k2 HRB.out hr1 hr2 hs hg hWW
      have HZ := Lib.hid z4
      clear hs hc hWW z4 k0 k1 k2 hr1 hr2 d0 d1 d2 d3 f0 f1 f2 f3
      go_wp2_with fail
      exact bodyPost_ret (v := .agg #[.bool rb, .slice ra rk rc, .bool false, .slice ra' rk' rc']) (by simp [results, Tryz.results38, go_sem, z0, z1, z2, z3]) rfl HZ.out
end Go.Proofs.YtekghemhccfhkaaGreatDoor
namespace Go.Big
open Go Go.RowKit
theorem sn_neg {K : Nat} {q : Rat} (h : Sn K q) : Sn K (-q) := by
  unfold Sn at *
  rw [Rat.neg_num, Rat.neg_den, Int.natAbs_neg]; exact h
end Go.Big
namespace Go.Proofs.YtekghemhccfhkaaGreatDoor
open Go.RowKit Go.Big
set_option maxRecDepth 100000 in
set_option maxHeartbeats 4000000 in
/-- RNeg -/
theorem rneg_any {v : Value} {q : Rat} {w : World} (h : NRat w v q) : Calls Tryz.prog 29 #[v] w (RetRat w (-q)) := by
  obtain ⟨b1, a1, l1, p1, c1, m1, r1, rfl, e1, h1, i1⟩ := h.op
  obtain ⟨w0, hw0, hb0, k0, k2, hz0⟩ := nboxes2 w #[.bool b1, .slice a1 l1 p1, .bool false, .slice c1 m1 r1] 32 #[.bool false, .slice none 0 0, .bool false, .slice none 0 0] 32 (cb4 b1 h1.cb false i1.cb) (cb4 false cb_nil false cb_nil)
  have HNA := Lib.hid (num_of e1 (h1.below hb0))
  have HD := Lib.hid (i1.below hb0)
  clear h h1 i1 e1 hz0
  have n02 : w.heap.size ≠ w.heap.size + 1 := by omega
  have hg : w.heap.size ≤ w.heap.size + 1 := by omega
  have k0 : N4 w.heap.size b1 (.slice a1 l1 p1) false (.slice c1 m1 r1) w0.drew := k0
  have k2 : N4 (w.heap.size + 1) false (.slice none 0 0) false (.slice none 0 0) w0.drew := k2
  have hc : Below w0.heap.size w0 w0.drew := (Below.refl _ _).drew
  have hs : Below w.heap.size w w0.drew := hb0.drew
  have y00 : w0.cell? ⟨w.heap.size, 0, none⟩ = some (.bool b1) := k0.c0
  have y01 : w0.cell? ⟨w.heap.size, 1, none⟩ = some (.slice a1 l1 p1) := k0.c1
  have y02 : w0.cell? ⟨w.heap.size, 2, none⟩ = some (.bool false) := k0.c2
  have y03 : w0.cell? ⟨w.heap.size, 3, none⟩ = some (.slice c1 m1 r1) := k0.c3
  go_enter Tryz.func29, Tryz.ntmps29
  go_wp2_with fail
  go_region_held3 (fun w' => w'.cell? ⟨w.heap.size, 0, none⟩ = some (.bool b1) ∧ w'.cell? ⟨w.heap.size, 1, none⟩ = some (.slice a1 l1 p1) ∧ w'.cell? ⟨w.heap.size, 2, none⟩ = some (.bool false) ∧ w'.cell? ⟨w.heap.size, 3, none⟩ = some (.slice c1 m1 r1) ∧ Below w.heap.size w w') (first | (with_reducible exact ⟨k0.c0, k0.c1, k0.c2, k0.c3, hs⟩) | (with_reducible exact ⟨(k0.o4 n02 _ _ _ _).c0, (k0.o4 n02 _ _ _ _).c1, (k0.o4 n02 _ _ _ _).c2, (k0.o4 n02 _ _ _ _).c3, hs.sn4 hg _ _ _ _⟩) | fail) (first | (go_at_call 74; (with_reducible refine (nneg_any (HNA.out.below hc)).mono ?_); rintro e wR ⟨v1, rfl, hv1, hb1⟩; have k0 := k0.below hb1; have k2 := k2.below hb1; have hs := hs.trans (hb1.mono hs.size); have hc := hc.trans (hb1.mono hc.size); obtain ⟨rb, ra, rk, rc, rfl, hrb, hr1⟩ := hv1.op; have HRB := Lib.hid hrb; clear hrb; have d0 := k2.c0; have f0 := k2.f 0; have d1 := k2.c1; have f1 := k2.f 1; have d2 := k2.c2; have f2 := k2.f 2; have d3 := k2.c3; have f3 := k2.f 3) | fail)
  obtain ⟨WW, hWW⟩ : ∃ WW, (((wR.setCell ⟨w.heap.size + 1, 0, none⟩ (.bool rb)).setCell ⟨w.heap.size + 1, 1, none⟩ (.slice ra rk rc)).setCell ⟨w.heap.size + 1, 2, none⟩ (.bool false)).setCell ⟨w.heap.size + 1, 3, none⟩ (.slice c1 m1 r1) = WW := ⟨_, rfl⟩
  rw [hWW]
  obtain ⟨z0, z1, z2, z3, z4⟩ := ret_rat (q := -q) k2 (by rw [Rat.neg_num]; exact HRB.out) (by rw [Rat.neg_num]; exact hr1) (by rw [Rat.neg_den]; exact HD.out.below hc) hs hg hWW
  have HZ := Lib.hid z4
  clear hs hc hWW z4 k0 k2 hr1 d0 d1 d2 d3 f0 f1 f2 f3
  go_wp2_with fail
  exact bodyPost_ret (v := .agg #[.bool rb, .slice ra rk rc, .bool false, .slice c1 m1 r1]) (by simp [results, Tryz.results29, go_sem, z0, z1, z2, z3]) rfl HZ.out
end Go.Proofs.YtekghemhccfhkaaGreatDoor
namespace Go.Proofs.YtekghemhccfhkaaGreatDoor
open Go.RowKit Go.Big
set_option maxRecDepth 100000 in
set_option maxHeartbeats 4000000 in
/-- RSub -/
theorem rsub_any {v v' : Value} {q1 q2 : Rat} {K : Nat} {w : World} (h : NRat w v q1) (h' : NRat w v' q2) (hK : K < 10000) (s1 : Sn K q1) (s2 : Sn K q2) : Calls Tryz.prog 40 #[v, v'] w (RetRat w (q1 + -q2)) := by
  obtain ⟨b1, a1, l1, p1, c1, m1, r1, rfl, e1, h1, i1⟩ := h.op
  obtain ⟨b2, a2, l2, p2, c2, m2, r2, rfl, e2, h2, i2⟩ := h'.op
  obtain ⟨w0, hw0, hb0, k0, k1, k2, hz0⟩ := nboxes3 w #[.bool b1, .slice a1 l1 p1, .bool false, .slice c1 m1 r1] 32 #[.bool b2, .slice a2 l2 p2, .bool false, .slice c2 m2 r2] 32 #[.bool false, .slice none 0 0, .bool false, .slice none 0 0] 32 (cb4 b1 h1.cb false i1.cb) (cb4 b2 h2.cb false i2.cb) (cb4 false cb_nil false cb_nil)
  have k0 : N4 w.heap.size b1 (.slice a1 l1 p1) false (.slice c1 m1 r1) w0 := k0
  have k1 : N4 (w.heap.size + 1) b2 (.slice a2 l2 p2) false (.slice c2 m2 r2) w0 := k1
  have k2 : N4 (w.heap.size + 1 + 1) false (.slice none 0 0) false (.slice none 0 0) w0 := k2
  have HA := Lib.hid (h.below hb0)
  have HB := Lib.hid (h'.below hb0)
  have HNA := Lib.hid (num_of e1 (h1.below hb0))
  have HNB := Lib.hid (num_of e2 (h2.below hb0))
  have HM := Lib.hid (And.intro hK (And.intro s1 (sn_neg s2)))
  clear h h' h1 h2 i1 i2 e1 e2 hz0 hK s1 s2
  have y00 := k0.c0
  have y01 := k0.c1
  have y02 := k0.c2
  have y03 := k0.c3
  have y10 := k1.c0
  have y11 := k1.c1
  have y12 := k1.c2
  have y13 := k1.c3
  go_enter Tryz.func40, Tryz.ntmps40
  go_wp2_with fail
  have n02 : w.heap.size ≠ w.heap.size + 1 + 1 := by omega
  have n12 : w.heap.size + 1 ≠ w.heap.size + 1 + 1 := by omega
  have hg : w.heap.size ≤ w.heap.size + 1 + 1 := by omega
  have k0 : N4 w.heap.size b1 (.slice a1 l1 p1) false (.slice c1 m1 r1) w0.drew := k0
  have k1 : N4 (w.heap.size + 1) b2 (.slice a2 l2 p2) false (.slice c2 m2 r2) w0.drew := k1
  have k2 : N4 (w.heap.size + 1 + 1) false (.slice none 0 0) false (.slice none 0 0) w0.drew := k2
  have hc : Below w0.heap.size w0 w0.drew := (Below.refl _ _).drew
  have hs : Below w.heap.size w w0.drew := hb0.drew
  go_region_held3 (fun w' => w'.cell? ⟨w.heap.size, 0, none⟩ = some (.bool b1) ∧ w'.cell? ⟨w.heap.size, 1, none⟩ = some (.slice a1 l1 p1) ∧ w'.cell? ⟨w.heap.size, 2, none⟩ = some (.bool false) ∧ w'.cell? ⟨w.heap.size, 3, none⟩ = some (.slice c1 m1 r1) ∧ w'.cell? ⟨(w.heap.size + 1), 0, none⟩ = some (.bool b2) ∧ w'.cell? ⟨(w.heap.size + 1), 1, none⟩ = some (.slice a2 l2 p2) ∧ w'.cell? ⟨(w.heap.size + 1), 2, none⟩ = some (.bool false) ∧ w'.cell? ⟨(w.heap.size + 1), 3, none⟩ = some (.slice c2 m2 r2) ∧ Below w.heap.size w w') (first | (with_reducible exact ⟨k0.c0, k0.c1, k0.c2, k0.c3, k1.c0, k1.c1, k1.c2, k1.c3, hs⟩) | (with_reducible exact ⟨(k0.o4 n02 _ _ _ _).c0, (k0.o4 n02 _ _ _ _).c1, (k0.o4 n02 _ _ _ _).c2, (k0.o4 n02 _ _ _ _).c3, (k1.o4 n12 _ _ _ _).c0, (k1.o4 n12 _ _ _ _).c1, (k1.o4 n12 _ _ _ _).c2, (k1.o4 n12 _ _ _ _).c3, hs.sn4 hg _ _ _ _⟩) | fail) (first | (go_at_call 29; (with_reducible refine (rneg_any (HB.out.below hc)).mono ?_); rintro e wN ⟨vN, rfl, hN, hbN⟩; have k0 := k0.below hbN; have k1 := k1.below hbN; have k2 := k2.below hbN; have hs := hs.trans (hbN.mono hs.size); have hc := hc.trans (hbN.mono hc.size)) | (go_at_call 38; (with_reducible refine (radd_any (K := K) (HA.out.below hc) hN HM.out.1 HM.out.2.1 HM.out.2.2).mono ?_); rintro e wR ⟨vR, rfl, hR, hbR⟩; have k0 := k0.below hbR; have k1 := k1.below hbR; have k2 := k2.below hbR; have hs := hs.trans (hbR.mono hs.size); have hc := hc.trans (hbR.mono hc.size); obtain ⟨rb, ra, rk, rc, ra', rk', rc', rfl, hrb, hr1, hr2⟩ := hR.op; have HRB := Lib.hid hrb; clear hrb; have d0 := k2.c0; have f0 := k2.f 0; have d1 := k2.c1; have f1 := k2.f 1; have d2 := k2.c2; have f2 := k2.f 2; have d3 := k2.c3; have f3 := k2.f 3) | fail)
  obtain ⟨WW, hWW⟩ : ∃ WW, (((wR.setCell ⟨w.heap.size + 1 + 1, 0, none⟩ (.bool rb)).setCell ⟨w.heap.size + 1 + 1, 1, none⟩ (.slice ra rk rc)).setCell ⟨w.heap.size + 1 + 1, 2, none⟩ (.bool false)).setCell ⟨w.heap.size + 1 + 1, 3, none⟩ (.slice ra' rk' rc') = WW := ⟨_, rfl⟩
  rw [hWW]
  obtain ⟨z0, z1, z2, z3, z4⟩ := ret_rat (q := q1 + -q2) k2 HRB.out hr1 hr2 hs hg hWW
  have HZ := Lib.hid z4
  clear hs hc hWW z4 k0 k1 k2 hr1 hr2 d0 d1 d2 d3 f0 f1 f2 f3
  go_wp2_with fail
  exact bodyPost_ret (v := .agg #[.bool rb, .slice ra rk rc, .bool false, .slice ra' rk' rc']) (by simp [results, Tryz.results40, go_sem, z0, z1, z2, z3]) rfl HZ.out
set_option maxRecDepth 100000 in
set_option maxHeartbeats 4000000 in
/-- RCmp -/
theorem rcmp_any {v v' : Value} {q1 q2 : Rat} {K : Nat} {w : World} (h : NRat w v q1) (h' : NRat w v' q2) (hK : K < 10000) (s1 : Sn K q1) (s2 : Sn K q2) : Calls Tryz.prog 32 #[v, v'] w (RetI w (Int.sign (q1 + -q2).num)) := by
  obtain ⟨b1, a1, l1, p1, c1, m1, r1, rfl, e1, h1, i1⟩ := h.op
  obtain ⟨b2, a2, l2, p2, c2, m2, r2, rfl, e2, h2, i2⟩ := h'.op
  obtain ⟨w0, hw0, hb0, k0, k1, hz0⟩ := nboxes2 w #[.bool b1, .slice a1 l1 p1, .bool false, .slice c1 m1 r1] 32 #[.bool b2, .slice a2 l2 p2, .bool false, .slice c2 m2 r2] 32 (cb4 b1 h1.cb false i1.cb) (cb4 b2 h2.cb false i2.cb)
  have k0 : N4 w.heap.size b1 (.slice a1 l1 p1) false (.slice c1 m1 r1) w0 := k0
  have k1 : N4 (w.heap.size + 1) b2 (.slice a2 l2 p2) false (.slice c2 m2 r2) w0 := k1
  have HS := Lib.hid (rsub_any (h.below hb0) (h'.below hb0) hK s1 s2)
  have HB0 := Lib.hid hb0
  have y00 := k0.c0
  have y01 := k0.c1
  have y02 := k0.c2
  have y03 := k0.c3
  have y10 := k1.c0
  have y11 := k1.c1
  have y12 := k1.c2
  have y13 := k1.c3
  clear h h' h1 h2 i1 i2 e1 e2 hz0 hb0 k0 k1
  go_enter Tryz.func32, Tryz.ntmps32
  go_wp2_with fail
  refine HS.out.mono ?_
  rintro e w1 ⟨v1, rfl, hv1, hb1⟩
  have HG := Lib.hid (rsign_any hv1)
  have HB1 := Lib.hid (HB0.out.trans (hb1.mono HB0.out.size))
  clear hv1 hb1 HS
  go_wp2_with fail
  refine HG.out.mono ?_
  rintro e w2 ⟨rfl, hb2⟩
  have HB2 := Lib.hid (HB1.out.trans (hb2.mono HB1.out.size))
  clear hb2 HG
  go_wp2_with fail
  go_ret
  exact ⟨rfl, HB2.out⟩
end Go.Proofs.YtekghemhccfhkaaGreatDoor
namespace Go.Proofs.YtekghemhccfhkaaGreatDoor
open Go.RowKit Go.Big
set_option maxRecDepth 100000 in
set_option maxHeartbeats 4000000 in
/-- Den -/
theorem nDen_any {v : Value} {q : Rat} {w : World} (h : NRat w v q) : Calls Tryz.prog 77 #[v] w (RetNum w (q.den : Int)) := by
  obtain ⟨b, ao, k, cap, ao', k', cap', rfl, hb, h1, h2⟩ := h.op
  obtain ⟨w0, hw0, hb0, k0, k1, hz0⟩ := nboxes2 w #[.bool b, .slice ao k cap, .bool false, .slice ao' k' cap'] 32 #[.bool false, .slice none 0 0] 30 (cb4 b (Cb.sl _ _ _) false (Cb.sl _ _ _)) (cb2 false cb_nil)
  have k0 : N4 w.heap.size b (.slice ao k cap) false (.slice ao' k' cap') w0 := k0
  have k1 : N2 (w.heap.size + 1) false (.slice none 0 0) w0 := k1
  have HD := Lib.hid (nden0_any (h.below hb0))
  have HB := Lib.hid hb0
  have HK := Lib.hid k1
  have c0 := k0.c0
  have c1 := k0.c1
  have c2 := k0.c2
  have c3 := k0.c3
  clear h h1 h2 hb hb0 k0 k1 hz0
  go_enter Tryz.func77, Tryz.ntmps77
  go_wp2_with fail
  refine HD.out.mono ?_
  rintro e w1 ⟨v1, rfl, hv1, hb1⟩
  obtain ⟨rb, rao, rk, rcap, rfl, hrb, hrs⟩ := hv1.op
  have k1 := HK.out.below hb1
  have hs := HB.out.trans (hb1.mono HB.out.size)
  obtain ⟨WW, hWW⟩ : ∃ WW, (w1.setCell ⟨w.heap.size + 1, 0, none⟩ (.bool rb)).setCell ⟨w.heap.size + 1, 1, none⟩ (.slice rao rk rcap) = WW := ⟨_, rfl⟩
  obtain ⟨z0, z1, z2⟩ := ret_num (n := (q.den : Int)) k1 hrb hrs hs (by omega) hWW
  have d0 := k1.c0
  have d1 := k1.c1
  have f0 := k1.f 0
  have f1 := k1.f 1
  have HZ := Lib.hid z2
  clear z2 hv1 hrs hs hb1 k1 hrb HD HB HK c0 c1 c2 c3
  go_wp2_with fail
  exact bodyPost_ret (v := .agg #[.bool rb, .slice rao rk rcap]) (by simp [results, Tryz.results77, go_sem, z0, z1]) rfl HZ.out
set_option maxRecDepth 100000 in
set_option maxHeartbeats 4000000 in
/-- R -/
theorem nR_any {n : Int} (hn : IsS n) (w : World) : Calls Tryz.prog 20 #[.int .i64 n] w (RetRat w (n : Rat)) := by
  obtain ⟨w0, hw0, hb0, k2, hz0⟩ := nbox1 w #[.bool false, .slice none 0 0, .bool false, .slice none 0 0] 32 (cb4 false cb_nil false cb_nil)
  have k2 : N4 w.heap.size false (.slice none 0 0) false (.slice none 0 0) w0 := k2
  have HF := Lib.hid (fun w => nfromInt_any (n := n) hn w)
  have HB := Lib.hid hb0
  have HK := Lib.hid k2
  clear hn hb0 k2 hz0
  go_enter Tryz.func20, Tryz.ntmps20
  go_wp2_with fail
  refine (HF.out _).mono ?_
  rintro e wR ⟨v1, rfl, hv1, hb1⟩
  obtain ⟨rb, ra, rk, rc, rfl, hrb, hr1⟩ := hv1.op
  have k2 := HK.out.below hb1
  have hs := HB.out.trans (hb1.mono HB.out.size)
  obtain ⟨WW, hWW⟩ : ∃ WW, (((wR.setCell ⟨w.heap.size, 0, none⟩ (.bool rb)).setCell ⟨w.heap.size, 1, none⟩ (.slice ra rk rc)).setCell ⟨w.heap.size, 2, none⟩ (.bool false)).setCell ⟨w.heap.size, 3, none⟩ (.slice none 0 0) = WW := ⟨_, rfl⟩
  obtain ⟨z0, z1, z2, z3, z4⟩ := ret_rat (w := w) (q := (n : Rat)) k2 (by rw [Rat.num_intCast]; exact hrb) (by rw [Rat.num_intCast]; exact hr1) (by rw [Rat.den_intCast]; exact mag_nil _) hs (Nat.le_refl _) hWW
  have d0 := k2.c0
  have d1 := k2.c1
  have d2 := k2.c2
  have d3 := k2.c3
  have f0 := k2.f 0
  have f1 := k2.f 1
  have f2 := k2.f 2
  have f3 := k2.f 3
  have HZ := Lib.hid z4
  clear z4 hv1 hr1 hs hb1 k2 hrb HF HB HK
  go_wp2_with fail
  exact bodyPost_ret (v := .agg #[.bool rb, .slice ra rk rc, .bool false, .slice none 0 0]) (by simp [results, Tryz.results20, go_sem, z0, z1, z2, z3]) rfl HZ.out
end Go.Proofs.YtekghemhccfhkaaGreatDoor
namespace Go.Proofs.YtekghemhccfhkaaGreatDoor
open Go.RowKit Go.Big
set_option maxRecDepth 100000 in
set_option maxHeartbeats 4000000 in
/-- Frac, the second number negative -/
theorem frac_neg {v v' : Value} {n0 d0 : Int} {K : Nat} {q : Rat} {w : World} (h : NumV w v n0) (h' : NumV w v' d0) (hd : d0 < 0) (hK : K < 100000) (hm : n0.natAbs < B32 ^ K) (hn : d0.natAbs < B32 ^ K) (hq : q.num * d0 = n0 * q.den) : Calls Tryz.prog 75 #[v, v'] w (RetRat w q) := by
  obtain ⟨xb, xa, xk, xc, rfl, e1, h1⟩ := h.op
  obtain ⟨b2, ya, yk, yc, rfl, e2, h2⟩ := h'.op
  have hb2 : b2 = true := by rw [e2, decide_eq_true]; exact hd
  subst hb2
  obtain ⟨wi, hwi, hb0, k0, k1, k2, hz0⟩ := nboxes3 w #[.bool xb, .slice xa xk xc] 30 #[.bool true, .slice ya yk yc] 30 #[.bool false, .slice none 0 0, .bool false, .slice none 0 0] 32 (cb2 xb h1.cb) (cb2 true h2.cb) (cb4 false cb_nil false cb_nil)
  have HZI := Lib.hid hz0
  have HNA := Lib.hid (num_of e1 (h1.below hb0))
  have HNB := Lib.hid (num_of e2 (h2.below hb0))
  obtain ⟨n, hnn⟩ : ∃ n, -n0 = n := ⟨_, rfl⟩
  obtain ⟨d, hdd⟩ : ∃ d, -d0 = d := ⟨_, rfl⟩
  have hd' : 0 < d := by omega
  have hm' : n.natAbs < B32 ^ K := by rw [← hnn, Int.natAbs_neg]; exact hm
  have hn' : d.natAbs < B32 ^ K := by rw [← hdd, Int.natAbs_neg]; exact hn
  have hq' : q.num * d = n * q.den := by rw [← hdd, ← hnn, Int.mul_neg, Int.neg_mul, hq]
  have HP := Lib.hid (frac_parts hd' hq')
  have HM := Lib.hid (And.intro hK (And.intro hm' (And.intro hn' hd')))
  have HND := Lib.hid (And.intro hnn hdd)
  have k0 : N2 w.heap.size xb (.slice xa xk xc) wi.drew := k0
  have k1 : N2 (w.heap.size + 1) true (.slice ya yk yc) wi.drew := k1
  have k2 : N4 (w.heap.size + 1 + 1) false (.slice none 0 0) false (.slice none 0 0) wi.drew := k2
  have hc : Below wi.heap.size wi wi.drew := (Below.refl _ _).drew
  have hs : Below w.heap.size w wi.drew := hb0.drew
  have y00 : wi.cell? ⟨w.heap.size, 0, none⟩ = some (.bool xb) := k0.c0
  have y01 : wi.cell? ⟨w.heap.size, 1, none⟩ = some (.slice xa xk xc) := k0.c1
  have y10 : wi.cell? ⟨w.heap.size + 1, 0, none⟩ = some (.bool true) := k1.c0
  have y11 : wi.cell? ⟨w.heap.size + 1, 1, none⟩ = some (.slice ya yk yc) := k1.c1
  have n01 : w.heap.size ≠ w.heap.size + 1 := by omega
  have hg1 : w.heap.size ≤ w.heap.size + 1 := by omega
  clear h h' h1 h2 e1 e2 hz0 hK hm hn hq hd hd' hm' hn' hq' hnn hdd hb0
  go_enter Tryz.func75, Tryz.ntmps75
  go_wp2_with fail
  have z00 := k0.c0
  have z01 := k0.c1
  have z10 := k1.c0
  have z11 := k1.c1
  go_region_with (first | (go_at_call 74; (with_reducible refine (nneg_any (HNA.out.below hc)).mono ?_); rintro e wN ⟨vN, rfl, hN, hbN⟩; have k0 := k0.below hbN; have k1 := k1.below hbN; have k2 := k2.below hbN; have hs := hs.trans (hbN.mono hs.size); have hc := hc.trans (hbN.mono hc.size); have u00 := k0.c0; have u01 := k0.c1; have u10 := k1.c0; have u11 := k1.c1) | (go_at_call 74; (with_reducible refine (nneg_any (HNB.out.below hc)).mono ?_); rintro e wM ⟨vM, rfl, hM, hbM⟩; have k0 := k0.below hbM; have k1 := k1.below hbM; have k2 := k2.below hbM; have hs := hs.trans (hbM.mono hs.size); have hc := hc.trans (hbM.mono hc.size); have hN := hN.below hbM; obtain ⟨nb, na, nk, nc, rfl, e1, h1⟩ := hN.op; obtain ⟨db, da, dk, dc, rfl, e2, h2⟩ := hM.op; have HE1 := Lib.hid e1; have HE2 := Lib.hid e2; clear e1 e2; have d00 := k0.c0; have f00 := k0.f 0; have d01 := k0.c1; have f01 := k0.f 1; have d10 := k1.c0; have f10 := k1.f 0; have d11 := k1.c1; have f11 := k1.f 1) | fail)
  all_goals
    obtain ⟨w0, hw0⟩ : ∃ WW, (((wM.setCell ⟨w.heap.size, 0, none⟩ (.bool nb)).setCell ⟨w.heap.size, 1, none⟩ (.slice na nk nc)).setCell ⟨w.heap.size + 1, 0, none⟩ (.bool db)).setCell ⟨w.heap.size + 1, 1, none⟩ (.slice da dk dc) = WW := ⟨_, rfl⟩
    rw [hw0]
    have hw0 : sn2 (sn2 wM w.heap.size nb (.slice na nk nc)) (w.heap.size + 1) db (.slice da dk dc) = w0 := hw0
    have e1 := HE1.out
    have e2 := HE2.out
    rw [HND.out.1] at e1 h1
    rw [HND.out.2] at e2 h2
    have hdb : db = false := by rw [e2, decide_eq_false]; have := HM.out.2.2.2; omega
    subst hdb
    have a0 := k0.st nb h1.cb
    have a1 := k1.o2 n01.symm nb (.slice na nk nc)
    have h1 := (h1.sn2 k0 h1.cb (b1 := nb)).sn2 a1 h2.cb (b1 := false)
    have h2 := (h2.sn2 k0 (Cb.sl na nk nc) (b1 := nb)).sn2 a1 h2.cb (b1 := false)
    have k0 := a0.o2 n01 false (.slice da dk dc)
    have k2 := (k2.o2 (show w.heap.size + 1 + 1 ≠ w.heap.size by omega) nb (.slice na nk nc)).o2 (show w.heap.size + 1 + 1 ≠ w.heap.size + 1 by omega) false (.slice da dk dc)
    have k1 := a1.st false h2.cb
    have hb0 := (hs.sn2 (Nat.le_refl _) nb (.slice na nk nc)).sn2 hg1 false (.slice da dk dc)
    have HZ0 : Hid (w.heap.size + 3 ≤ w0.heap.size) := by
      have := hc.size
      have h9 := HZI.out
      rw [← hw0]
      exact Lib.hid (by simp [sn2]; omega)
    rw [hw0] at h1 h2 k0 k1 k2 hb0
    have HG := Lib.hid (ngcd_any (num_of e1 h1) (num_of e2 h2) HM.out.1 HM.out.2.1 HM.out.2.2.1)
    have HE := Lib.hid (And.intro e1 e2)
    have HH := Lib.hid (And.intro h1 h2)
    have k0c0 := k0.c0
    have k0c1 := k0.c1
    have k1c0 := k1.c0
    have k1c1 := k1.c1
    clear h1 h2 e1 e2 a0 a1 hc hs hN hM d00 d01 d10 d11 f00 f01 f10 f11 HE1 HE2 HND HZI HNA HNB hw0
    go_wp2_with fail
    refine HG.out.mono ?_
    rintro e w1 ⟨v1, rfl, hv1, hb1⟩
    obtain ⟨gb, ga, gk, gc, rfl, hgb, hgs⟩ := hv1.op
    have hgb0 : gb = false := by rw [hgb, decide_eq_false]; omega
    subst hgb0
    obtain ⟨WA, hWA⟩ : ∃ WA, w1.alloc (.cells #[.bool false, .slice none 0 0] 30) = WA := ⟨_, rfl⟩
    have kA : N2 w1.heap.size false (.slice none 0 0) WA := by rw [← hWA]; exact Bb.new w1 30 (cb2 false cb_nil)
    have hbA : Below w1.heap.size w1 WA := by rw [← hWA]; exact (Below.refl _ _).alloc (Nat.le_refl _) _
    obtain ⟨WG, hWG⟩ : ∃ WG, (WA.setCell ⟨w1.heap.size, 0, none⟩ (.bool false)).setCell ⟨w1.heap.size, 1, none⟩ (.slice ga gk gc) = WG := ⟨_, rfl⟩
    have k3 : N2 w1.heap.size false (.slice ga gk gc) WG := by rw [← hWG]; exact kA.st false (Cb.sl _ _ _)
    have hbG : Below w1.heap.size w1 WG := by rw [← hWG]; exact hbA.sn2 (Nat.le_refl _) _ _
    have hb1G : Below w0.heap.size w0 WG := hb1.trans (hbG.mono hb1.size)
    have k0 := k0.below hb1G
    have k1 := k1.below hb1G
    have k2 := k2.below hb1G
    have hs := hb0.trans (hb1G.mono hb0.size)
    have hgz : w.heap.size + 2 < w1.heap.size := by have := hb1.size; have := HZ0.out; omega
    obtain ⟨g, hgd⟩ : ∃ g, Nat.gcd n.natAbs d.natAbs = g := ⟨_, rfl⟩
    rw [hgd] at hgb hgs
    rw [hgd] at HP
    have hgs : NatV WG .u32 B32 (.slice ga gk gc) g := by rw [Int.natAbs_natCast] at hgs; exact hgs.below hbG
    have HGS := Lib.hid hgs
    have HHG := Lib.hid (And.intro (HH.out.1.below hb1G) (HH.out.2.below hb1G))
    have HGD := Lib.hid hgd
    have HBT := Lib.hid (nbits_any (num_of (n := (g : Int)) (show false = decide ((g : Int) < 0) by rw [decide_eq_false]; omega) (by rw [Int.natAbs_natCast]; exact hgs)))
    have kAc0 := kA.c0
    have kAc1 := kA.c1
    have kAf0 := kA.f 0
    have kAf1 := kA.f 1
    have k3c0 := k3.c0
    have k3c1 := k3.c1
    clear HG hv1 hgb hgs hgd HH hb1 hbA hbG hb1G kA hb0
    clear k0c0 k0c1 k1c0 k1c1
    go_wp2_with fail
    refine HBT.out.mono ?_
    rintro e w5 ⟨kg, rfl, hkg, hb5⟩
    rw [Int.natAbs_natCast] at hkg
    have k0 := k0.below hb5
    have k1 := k1.below hb5
    have k2 := k2.below hb5
    have k3 := k3.below hb5
    have hs := hs.trans (hb5.mono hs.size)
    have HGS := Lib.hid (HGS.out.below hb5)
    have HHG := Lib.hid (And.intro (HHG.out.1.below hb5) (HHG.out.2.below hb5))
    clear k3c0 k3c1 kAc0 kAc1
    clear kAf0 kAf1
    clear HBT hb5
    have hgpos : 0 < g := by rw [← HGD.out]; exact Nat.gcd_pos_of_pos_right _ (by have := HM.out.2.2.2; omega)
    by_cases hg1 : 1 < g
    · have h1 : decide ((1 : Int) < (kg : Int)) = true := decide_eq_true (by have := hkg.many.2 hg1; omega)
      have hgb : g < B32 ^ K := Nat.lt_of_le_of_lt (by rw [← HGD.out]; exact Nat.le_of_dvd (by have := HM.out.2.2.2; omega) (Nat.gcd_dvd_right _ _)) HM.out.2.2.1
      have HQ1 := Lib.hid (nquoRem_any (num_of HE.out.1 HHG.out.1) (num_of (n := (g : Int)) (show false = decide ((g : Int) < 0) by rw [decide_eq_false]; omega) (by rw [Int.natAbs_natCast]; exact HGS.out)) (by omega) HM.out.1 HM.out.2.1)
      have k0c0 := k0.c0
      have k0c1 := k0.c1
      have k3c0 := k3.c0
      have k3c1 := k3.c1
      clear hkg hg1 hgb
      go_wp2_with fail
      refine HQ1.out.mono ?_
      rintro e w6 ⟨vq, vr, rfl, hq1, hr1, hb6⟩
      obtain ⟨mb, ma, mk, mc, rfl, hmb, hms⟩ := hq1.op
      obtain ⟨xb, xa, xk, xc, rfl, _, _⟩ := hr1.op
      have k0 := k0.below hb6
      have k1 := k1.below hb6
      have k2 := k2.below hb6
      have k3 := k3.below hb6
      have hs := hs.trans (hb6.mono hs.size)
      obtain ⟨W6, hW6⟩ : ∃ W6, (w6.setCell ⟨w.heap.size, 0, none⟩ (.bool mb)).setCell ⟨w.heap.size, 1, none⟩ (.slice ma mk mc) = W6 := ⟨_, rfl⟩
      have HNB : Hid (mb = decide (q.num < 0)) := by rw [HP.out.1]; exact hmb
      have hmsW : NatV W6 .u32 B32 (.slice ma mk mc) q.num.natAbs := by rw [HP.out.1, ← hW6]; exact hms.sn2 k0 hms.cb
      have hdW : NatV W6 .u32 B32 (.slice da dk dc) d.natAbs := by rw [← hW6]; exact (HHG.out.2.below hb6).sn2 k0 hms.cb
      have hgW : NatV W6 .u32 B32 (.slice ga gk gc) g := by rw [← hW6]; exact (HGS.out.below hb6).sn2 k0 hms.cb
      have j0 : N2 w.heap.size mb (.slice ma mk mc) W6 := by rw [← hW6]; exact k0.st mb hms.cb
      have j1 : N2 (w.heap.size + 1) false (.slice da dk dc) W6 := by rw [← hW6]; exact k1.o2 (by omega) _ _
      have j2 : N4 (w.heap.size + 1 + 1) false (.slice none 0 0) false (.slice none 0 0) W6 := by rw [← hW6]; exact k2.o2 (by omega) _ _
      have j3 : N2 w1.heap.size false (.slice ga gk gc) W6 := by rw [← hW6]; exact k3.o2 (by omega) _ _
      have hs6 : Below w.heap.size w W6 := by rw [← hW6]; exact hs.sn2 (Nat.le_refl _) _ _
      have HNN := Lib.hid hmsW
      have HQ2 := Lib.hid (nquoRem_any (num_of HE.out.2 hdW) (num_of (n := (g : Int)) (show false = decide ((g : Int) < 0) by rw [decide_eq_false]; omega) (by rw [Int.natAbs_natCast]; exact hgW)) (by omega) HM.out.1 HM.out.2.2.1)
      have HJ := Lib.hid (And.intro j0 (And.intro j1 (And.intro j2 (And.intro j3 hs6))))
      have y0c0 := k0.c0
      have y0f0 := k0.f 0
      have y0c1 := k0.c1
      have y0f1 := k0.f 1
      have y1c0 := j1.c0
      have y1c1 := j1.c1
      have y3c0 := j3.c0
      have y3c1 := j3.c1
      clear HQ1 hq1 hr1 hms hmb hmsW hdW hgW hb6 k0 k1 k2 k3 hs j0 j1 j2 j3 hs6 k0c0 k0c1 k3c0 k3c1 HHG HGS
      go_wp2_with fail
      refine HQ2.out.mono ?_
      rintro e w7 ⟨vq2, vr2, rfl, hq2, hr2, hb7⟩
      obtain ⟨ob, oa, ok, oc, rfl, hob, hos⟩ := hq2.op
      obtain ⟨ub, ua, uk, uc, rfl, _, _⟩ := hr2.op
      have hob0 : ob = false := by rw [hob, decide_eq_false]; rw [← HP.out.2]; omega
      subst hob0
      have k0 := HJ.out.1.below hb7
      have k1 := HJ.out.2.1.below hb7
      have k2 := HJ.out.2.2.1.below hb7
      have hs := HJ.out.2.2.2.2.trans (hb7.mono HJ.out.2.2.2.2.size)
      obtain ⟨W7, hW7⟩ : ∃ W7, (w7.setCell ⟨w.heap.size + 1, 0, none⟩ (.bool false)).setCell ⟨w.heap.size + 1, 1, none⟩ (.slice oa ok oc) = W7 := ⟨_, rfl⟩
      have hoD : NatV W7 .u32 B32 (.slice oa ok oc) q.den := by
        have h9 : (d.tdiv (g : Int)).natAbs = q.den := by rw [← HP.out.2, Int.natAbs_natCast]
        rw [← h9, ← hW7]; exact hos.sn2 k1 hos.cb
      have hnD : NatV W7 .u32 B32 (.slice ma mk mc) q.num.natAbs := by rw [← hW7]; exact (HNN.out.below hb7).sn2 k1 hos.cb
      have j0 : N2 w.heap.size mb (.slice ma mk mc) W7 := by rw [← hW7]; exact k0.o2 (by omega) _ _
      have j1 : N2 (w.heap.size + 1) false (.slice oa ok oc) W7 := by rw [← hW7]; exact k1.st false hos.cb
      have j2 : N4 (w.heap.size + 1 + 1) false (.slice none 0 0) false (.slice none 0 0) W7 := by rw [← hW7]; exact k2.o2 (by omega) _ _
      have hs7 : Below w.heap.size w W7 := by rw [← hW7]; exact hs.sn2 (by omega) _ _
      have HNN := Lib.hid hnD
      have HDD := Lib.hid hoD
      have y1d0 := k1.c0
      have y1d1 := k1.c1
      have y1f0 := k1.f 0
      have y1f1 := k1.f 1
      clear HQ2 hq2 hr2 hos hob hoD hnD hb7 k0 k1 k2 hs HJ y0c0 y0c1 y0f0 y0f1 y1c0 y1c1 y3c0 y3c1 hW6
      have k0 := j0
      have k1 := j1
      have k2 := j2
      have hs := hs7
      clear j0 j1 j2 hs7
      have HBD := Lib.hid (nbits_any (num_of (n := (q.den : Int)) (show false = decide ((q.den : Int) < 0) by rw [decide_eq_false]; omega) (by rw [Int.natAbs_natCast]; exact HDD.out)))
      have k1c0 := k1.c0
      have k1c1 := k1.c1
      go_wp2_with fail
      refine HBD.out.mono ?_
      rintro e w8 ⟨kb, rfl, hkb, hb8⟩
      rw [Int.natAbs_natCast] at hkb
      have k0 := k0.below hb8
      have k1 := k1.below hb8
      have k2 := k2.below hb8
      have hs8 := hs.trans (hb8.mono hs.size)
      have HNN := Lib.hid (HNN.out.below hb8)
      have HDD := Lib.hid (HDD.out.below hb8)
      clear HBD hb8 hs
      clear k1c0 k1c1
      by_cases hd1 : q.den = 1
      · have h1 : ((kb : Int) == 1) = true := by rw [beq_iff_eq]; have := hkb.one.2 hd1; omega
        obtain ⟨W8, hW8⟩ : ∃ W8, (w8.setCell ⟨w.heap.size + 1, 0, none⟩ (.bool false)).setCell ⟨w.heap.size + 1, 1, none⟩ (.slice none 0 0) = W8 := ⟨_, rfl⟩
        have j0 : N2 w.heap.size mb (.slice ma mk mc) W8 := by rw [← hW8]; exact k0.o2 (by omega) _ _
        have j1 : N2 (w.heap.size + 1) false (.slice none 0 0) W8 := by rw [← hW8]; exact k1.st false cb_nil
        have j2 : N4 (w.heap.size + 1 + 1) false (.slice none 0 0) false (.slice none 0 0) W8 := by rw [← hW8]; exact k2.o2 (by omega) _ _
        have hs9 : Below w.heap.size w W8 := by rw [← hW8]; exact hs8.sn2 (by omega) _ _
        have hN8 : NatV W8 .u32 B32 (.slice ma mk mc) q.num.natAbs := by rw [← hW8]; exact HNN.out.sn2 k1 cb_nil
        obtain ⟨WW, hWW⟩ : ∃ WW, (((W8.setCell ⟨w.heap.size + 1 + 1, 0, none⟩ (.bool mb)).setCell ⟨w.heap.size + 1 + 1, 1, none⟩ (.slice ma mk mc)).setCell ⟨w.heap.size + 1 + 1, 2, none⟩ (.bool false)).setCell ⟨w.heap.size + 1 + 1, 3, none⟩ (.slice none 0 0) = WW := ⟨_, rfl⟩
        obtain ⟨z0, z1, z2, z3, z4⟩ := ret_rat (q := q) j2 HNB.out hN8 (by rw [hd1]; exact mag_nil _) hs9 (by omega) hWW
        have k1c0 := k1.c0
        have k1c1 := k1.c1
        have k1f0 := k1.f 0
        have k1f1 := k1.f 1
        have j0c0 := j0.c0
        have j0c1 := j0.c1
        have j1c0 := j1.c0
        have j1c1 := j1.c1
        have j2c0 := j2.c0
        have j2c1 := j2.c1
        have j2c2 := j2.c2
        have j2c3 := j2.c3
        have j2f0 := j2.f 0
        have j2f1 := j2.f 1
        have j2f2 := j2.f 2
        have j2f3 := j2.f 3
        have HZ := Lib.hid z4
        clear z4 hs8 hs9 hN8 k0 k1 k2 j0 j1 j2 hkb hd1
        go_wp2_with fail
        exact bodyPost_ret (v := .agg #[.bool mb, .slice ma mk mc, .bool false, .slice none 0 0]) (by simp [results, Tryz.results75, go_sem, z0, z1, z2, z3]) rfl HZ.out
      · have h1 : ((kb : Int) == 1) = false := by rw [beq_eq_false_iff_ne]; have := mt hkb.one.1 hd1; omega
        have hdn : dn q.den = q.den := if_neg hd1
        obtain ⟨WW, hWW⟩ : ∃ WW, (((w8.setCell ⟨w.heap.size + 1 + 1, 0, none⟩ (.bool mb)).setCell ⟨w.heap.size + 1 + 1, 1, none⟩ (.slice ma mk mc)).setCell ⟨w.heap.size + 1 + 1, 2, none⟩ (.bool false)).setCell ⟨w.heap.size + 1 + 1, 3, none⟩ (.slice oa ok oc) = WW := ⟨_, rfl⟩
        obtain ⟨z0, z1, z2, z3, z4⟩ := ret_rat (q := q) k2 HNB.out HNN.out (by rw [hdn]; exact HDD.out) hs8 (by omega) hWW
        have k0c0 := k0.c0
        have k0c1 := k0.c1
        have k1c0 := k1.c0
        have k1c1 := k1.c1
        have k2c0 := k2.c0
        have k2c1 := k2.c1
        have k2c2 := k2.c2
        have k2c3 := k2.c3
        have k2f0 := k2.f 0
        have k2f1 := k2.f 1
        have k2f2 := k2.f 2
        have k2f3 := k2.f 3
        have HZ := Lib.hid z4
        clear z4 hs8 k0 k1 k2 hkb hd1 hdn
        go_wp2_with fail
        exact bodyPost_ret (v := .agg #[.bool mb, .slice ma mk mc, .bool false, .slice oa ok oc]) (by simp [results, Tryz.results75, go_sem, z0, z1, z2, z3]) rfl HZ.out
    · have h1 : decide ((1 : Int) < (kg : Int)) = false := decide_eq_false (by have := mt hkg.many.1 hg1; omega)
      have hg1' : g = 1 := by omega
      have HP2 : Hid (q.num = n ∧ (q.den : Int) = d) := by
        have := HP.out
        rw [hg1'] at this
        rw [this.1, this.2]; exact ⟨Int.tdiv_one _, Int.tdiv_one _⟩
      have HNB : Hid (nb = decide (q.num < 0)) := by rw [HP2.out.1]; exact HE.out.1
      have HNN := Lib.hid (show NatV w5 .u32 B32 (.slice na nk nc) q.num.natAbs from by rw [HP2.out.1]; exact HHG.out.1)
      have HDD := Lib.hid (show NatV w5 .u32 B32 (.slice da dk dc) q.den from by rw [show q.den = d.natAbs by have := HP2.out.2; omega]; exact HHG.out.2)
      clear hkg hg1 hg1' hgpos k3 HGS HHG
      have HBD := Lib.hid (nbits_any (num_of (n := (q.den : Int)) (show false = decide ((q.den : Int) < 0) by rw [decide_eq_false]; omega) (by rw [Int.natAbs_natCast]; exact HDD.out)))
      have k1c0 := k1.c0
      have k1c1 := k1.c1
      go_wp2_with fail
      refine HBD.out.mono ?_
      rintro e w8 ⟨kb, rfl, hkb, hb8⟩
      rw [Int.natAbs_natCast] at hkb
      have k0 := k0.below hb8
      have k1 := k1.below hb8
      have k2 := k2.below hb8
      have hs8 := hs.trans (hb8.mono hs.size)
      have HNN := Lib.hid (HNN.out.below hb8)
      have HDD := Lib.hid (HDD.out.below hb8)
      clear HBD hb8 hs
      clear k1c0 k1c1
      by_cases hd1 : q.den = 1
      · have h1 : ((kb : Int) == 1) = true := by rw [beq_iff_eq]; have := hkb.one.2 hd1; omega
        obtain ⟨W8, hW8⟩ : ∃ W8, (w8.setCell ⟨w.heap.size + 1, 0, none⟩ (.bool false)).setCell ⟨w.heap.size + 1, 1, none⟩ (.slice none 0 0) = W8 := ⟨_, rfl⟩
        have j0 : N2 w.heap.size nb (.slice na nk nc) W8 := by rw [← hW8]; exact k0.o2 (by omega) _ _
        have j1 : N2 (w.heap.size + 1) false (.slice none 0 0) W8 := by rw [← hW8]; exact k1.st false cb_nil
        have j2 : N4 (w.heap.size + 1 + 1) false (.slice none 0 0) false (.slice none 0 0) W8 := by rw [← hW8]; exact k2.o2 (by omega) _ _
        have hs9 : Below w.heap.size w W8 := by rw [← hW8]; exact hs8.sn2 (by omega) _ _
        have hN8 : NatV W8 .u32 B32 (.slice na nk nc) q.num.natAbs := by rw [← hW8]; exact HNN.out.sn2 k1 cb_nil
        obtain ⟨WW, hWW⟩ : ∃ WW, (((W8.setCell ⟨w.heap.size + 1 + 1, 0, none⟩ (.bool nb)).setCell ⟨w.heap.size + 1 + 1, 1, none⟩ (.slice na nk nc)).setCell ⟨w.heap.size + 1 + 1, 2, none⟩ (.bool false)).setCell ⟨w.heap.size + 1 + 1, 3, none⟩ (.slice none 0 0) = WW := ⟨_, rfl⟩
        obtain ⟨z0, z1, z2, z3, z4⟩ := ret_rat (q := q) j2 HNB.out hN8 (by rw [hd1]; exact mag_nil _) hs9 (by omega) hWW
        have k1c0 := k1.c0
        have k1c1 := k1.c1
        have k1f0 := k1.f 0
        have k1f1 := k1.f 1
        have j0c0 := j0.c0
        have j0c1 := j0.c1
        have j1c0 := j1.c0
        have j1c1 := j1.c1
        have j2c0 := j2.c0
        have j2c1 := j2.c1
        have j2c2 := j2.c2
        have j2c3 := j2.c3
        have j2f0 := j2.f 0
        have j2f1 := j2.f 1
        have j2f2 := j2.f 2
        have j2f3 := j2.f 3
        have HZ := Lib.hid z4
        clear z4 hs8 hs9 hN8 k0 k1 k2 j0 j1 j2 hkb hd1
        go_wp2_with fail
        exact bodyPost_ret (v := .agg #[.bool nb, .slice na nk nc, .bool false, .slice none 0 0]) (by simp [results, Tryz.results75, go_sem, z0, z1, z2, z3]) rfl HZ.out
      · have h1 : ((kb : Int) == 1) = false := by rw [beq_eq_false_iff_ne]; have := mt hkb.one.1 hd1; omega
        have hdn : dn q.den = q.den := if_neg hd1
        obtain ⟨WW, hWW⟩ : ∃ WW, (((w8.setCell ⟨w.heap.size + 1 + 1, 0, none⟩ (.bool nb)).setCell ⟨w.heap.size + 1 + 1, 1, none⟩ (.slice na nk nc)).setCell ⟨w.heap.size + 1 + 1, 2, none⟩ (.bool false)).setCell ⟨w.heap.size + 1 + 1, 3, none⟩ (.slice da dk dc) = WW := ⟨_, rfl⟩
        obtain ⟨z0, z1, z2, z3, z4⟩ := ret_rat (q := q) k2 HNB.out HNN.out (by rw [hdn]; exact HDD.out) hs8 (by omega) hWW
        have k0c0 := k0.c0
        have k0c1 := k0.c1
        have k1c0 := k1.c0
        have k1c1 := k1.c1
        have k2c0 := k2.c0
        have k2c1 := k2.c1
        have k2c2 := k2.c2
        have k2c3 := k2.c3
        have k2f0 := k2.f 0
        have k2f1 := k2.f 1
        have k2f2 := k2.f 2
        have k2f3 := k2.f 3
        have HZ := Lib.hid z4
        clear z4 hs8 k0 k1 k2 hkb hd1 hdn
        go_wp2_with fail
        exact bodyPost_ret (v := .agg #[.bool nb, .slice na nk nc, .bool false, .slice da dk dc]) (by simp [results, Tryz.results75, go_sem, z0, z1, z2, z3]) rfl HZ.out
end Go.Proofs.YtekghemhccfhkaaGreatDoor
namespace Go.Big
open Go Go.RowKit
theorem rat_div_of {a b : Rat} (hb : b.num ≠ 0) : (a / b).num * ((a.den : Int) * b.num) = (a.num * (b.den : Int)) * (a / b).den := by
  have e : a / b = Rat.divInt (a.num * b.den) (a.den * b.num) := by
    rw [Rat.div_def]
    conv => lhs; rw [← Rat.num_divInt_den a, ← Rat.num_divInt_den b, Rat.inv_divInt, Rat.divInt_mul_divInt]
  conv at e => lhs; rw [← Rat.num_divInt_den (a / b)]
  have h1 := a.den_nz
  have h2 := (a / b).den_nz
  rwa [Rat.divInt_eq_divInt_iff (by omega) (Int.mul_ne_zero (by omega) hb)] at e
end Go.Big
namespace Go.Proofs.YtekghemhccfhkaaGreatDoor
open Go.RowKit Go.Big
theorem frac_any {v v' : Value} {n d : Int} {K : Nat} {q : Rat} {w : World} (h : NumV w v n) (h' : NumV w v' d) (hd : d ≠ 0) (hK : K < 100000) (hm : n.natAbs < B32 ^ K) (hn : d.natAbs < B32 ^ K) (hq : q.num * d = n * q.den) : Calls Tryz.prog 75 #[v, v'] w (RetRat w q) := by
  by_cases h0 : 0 < d
  · exact frac_pos h h' h0 hK hm hn hq
  · exact frac_neg h h' (by omega) hK hm hn hq
set_option maxRecDepth 100000 in
set_option maxHeartbeats 4000000 in
/-- RDiv -/
theorem rdiv_any {v v' : Value} {q1 q2 : Rat} {K : Nat} {w : World} (h : NRat w v q1) (h' : NRat w v' q2) (hK : K < 10000) (s1 : Sn K q1) (s2 : Sn K q2) : Calls Tryz.prog 36 #[v, v'] w (RetRat w (q1 / q2)) := by
  obtain ⟨b1, a1, l1, p1, c1, m1, r1, rfl, e1, h1, i1⟩ := h.op
  obtain ⟨b2, a2, l2, p2, c2, m2, r2, rfl, e2, h2, i2⟩ := h'.op
  obtain ⟨w0, hw0, hb0, k0, k1, k2, hz0⟩ := nboxes3 w #[.bool b1, .slice a1 l1 p1, .bool false, .slice c1 m1 r1] 32 #[.bool b2, .slice a2 l2 p2, .bool false, .slice c2 m2 r2] 32 #[.bool false, .slice none 0 0, .bool false, .slice none 0 0] 32 (cb4 b1 h1.cb false i1.cb) (cb4 b2 h2.cb false i2.cb) (cb4 false cb_nil false cb_nil)
  have k0 : N4 w.heap.size b1 (.slice a1 l1 p1) false (.slice c1 m1 r1) w0 := k0
  have k1 : N4 (w.heap.size + 1) b2 (.slice a2 l2 p2) false (.slice c2 m2 r2) w0 := k1
  have k2 : N4 (w.heap.size + 1 + 1) false (.slice none 0 0) false (.slice none 0 0) w0 := k2
  have HA := Lib.hid (h.below hb0)
  have HB := Lib.hid (h'.below hb0)
  have HNA := Lib.hid (num_of e1 (h1.below hb0))
  have HNB := Lib.hid (num_of e2 (h2.below hb0))
  have HM := Lib.hid (And.intro hK (And.intro s1 s2))
  clear h h' h1 h2 i1 i2 e1 e2 hz0 hK s1 s2
  have HBN := Lib.hid (show (K < 100000 ∧ K + K < 100000) ∧ (q1.num.natAbs < B32 ^ K ∧ q2.num.natAbs < B32 ^ K ∧ (q1.den : Int).natAbs < B32 ^ K ∧ (q2.den : Int).natAbs < B32 ^ K) ∧ ((q1.num * (q2.den : Int)).natAbs < B32 ^ (K + K) ∧ ((q1.den : Int) * q2.num).natAbs < B32 ^ (K + K)) from by
    have hk := HM.out.1
    obtain ⟨n1, d1⟩ := HM.out.2.1
    obtain ⟨n2, d2⟩ := HM.out.2.2
    have d1 : (q1.den : Int).natAbs < B32 ^ K := by rw [den_abs]; exact d1
    have d2 : (q2.den : Int).natAbs < B32 ^ K := by rw [den_abs]; exact d2
    exact ⟨⟨by omega, by omega⟩, ⟨n1, n2, d1, d2⟩, sn_mul n1 d2, sn_mul d1 n2⟩)
  have y00 := k0.c0
  have y01 := k0.c1
  have y02 := k0.c2
  have y03 := k0.c3
  have y10 := k1.c0
  have y11 := k1.c1
  have y12 := k1.c2
  have y13 := k1.c3
  have HS := Lib.hid (rsign_any HB.out)
  by_cases hz : q2.num = 0
  · have HSG := Lib.hid (show q2.num.sign = 0 by rw [hz]; rfl)
    have HQ0 := Lib.hid (show q1 / q2 = 0 by rw [Rat.num_eq_zero.1 hz, Rat.div_def, Rat.inv_zero, Rat.mul_zero])
    clear hz
    go_enter Tryz.func36, Tryz.ntmps36
    go_wp2_with fail
    refine HS.out.mono ?_
    rintro e w1 ⟨rfl, hb1⟩
    rw [HSG.out]
    have k2 := k2.below hb1
    have hs := hb0.trans (hb1.mono hb0.size)
    obtain ⟨WW, hWW⟩ : ∃ WW, (((w1.setCell ⟨w.heap.size + 1 + 1, 0, none⟩ (.bool false)).setCell ⟨w.heap.size + 1 + 1, 1, none⟩ (.slice none 0 0)).setCell ⟨w.heap.size + 1 + 1, 2, none⟩ (.bool false)).setCell ⟨w.heap.size + 1 + 1, 3, none⟩ (.slice none 0 0) = WW := ⟨_, rfl⟩
    obtain ⟨z0, z1, z2, z3, z4⟩ := ret_rat (w := w) (q := (0 : Rat)) k2 rfl (mag_nil _) (mag_nil _) hs (by omega) hWW
    have HZ := Lib.hid z4
    have d0 := k2.c0
    have f0 := k2.f 0
    have d1 := k2.c1
    have f1 := k2.f 1
    have d2 := k2.c2
    have f2 := k2.f 2
    have d3 := k2.c3
    have f3 := k2.f 3
    clear hs hb1 hb0 z4 k0 k1 k2 HS y00 y01 y02 y03 y10 y11 y12 y13
    go_wp2_with fail
    exact bodyPost_ret (v := .agg #[.bool false, .slice none 0 0, .bool false, .slice none 0 0]) (by simp [results, Tryz.results36, go_sem, z0, z1, z2, z3]) rfl (by rw [HQ0.out]; exact HZ.out)
  · have hsg : (q2.num.sign == 0) = false := by rw [beq_eq_false_iff_ne]; exact fun e => hz (Int.sign_eq_zero_iff_zero.1 e)
    have HPD := Lib.hid (show (q1.den : Int) * q2.num ≠ 0 from Int.mul_ne_zero (by have := q1.den_nz; omega) hz)
    have HQ := Lib.hid (rat_div_of (a := q1) hz)
    clear hz
    go_enter Tryz.func36, Tryz.ntmps36
    go_wp2_with fail
    refine HS.out.mono ?_
    rintro e w1 ⟨rfl, hb1⟩
    generalize q2.num.sign = sg at hsg
    have HSG := Lib.hid hsg
    have x00 := (k0.below hb1).c0
    have x01 := (k0.below hb1).c1
    have x02 := (k0.below hb1).c2
    have x03 := (k0.below hb1).c3
    have x10 := (k1.below hb1).c0
    have x11 := (k1.below hb1).c1
    have x12 := (k1.below hb1).c2
    have x13 := (k1.below hb1).c3
    go_wp2_with fail
    have n02 : w.heap.size ≠ w.heap.size + 1 + 1 := by omega
    have n12 : w.heap.size + 1 ≠ w.heap.size + 1 + 1 := by omega
    have hg : w.heap.size ≤ w.heap.size + 1 + 1 := by omega
    have k0 : N4 w.heap.size b1 (.slice a1 l1 p1) false (.slice c1 m1 r1) w1.drew := k0.below hb1.drew
    have k1 : N4 (w.heap.size + 1) b2 (.slice a2 l2 p2) false (.slice c2 m2 r2) w1.drew := k1.below hb1.drew
    have k2 : N4 (w.heap.size + 1 + 1) false (.slice none 0 0) false (.slice none 0 0) w1.drew := k2.below hb1.drew
    have hc : Below w0.heap.size w0 w1.drew := hb1.drew
    have hs : Below w.heap.size w w1.drew := (hb0.trans (hb1.mono hb0.size)).drew
    go_region_held3 (fun w' => w'.cell? ⟨w.heap.size, 0, none⟩ = some (.bool b1) ∧ w'.cell? ⟨w.heap.size, 1, none⟩ = some (.slice a1 l1 p1) ∧ w'.cell? ⟨w.heap.size, 2, none⟩ = some (.bool false) ∧ w'.cell? ⟨w.heap.size, 3, none⟩ = some (.slice c1 m1 r1) ∧ w'.cell? ⟨(w.heap.size + 1), 0, none⟩ = some (.bool b2) ∧ w'.cell? ⟨(w.heap.size + 1), 1, none⟩ = some (.slice a2 l2 p2) ∧ w'.cell? ⟨(w.heap.size + 1), 2, none⟩ = some (.bool false) ∧ w'.cell? ⟨(w.heap.size + 1), 3, none⟩ = some (.slice c2 m2 r2) ∧ Below w.heap.size w w') (first | (with_reducible exact ⟨k0.c0, k0.c1, k0.c2, k0.c3, k1.c0, k1.c1, k1.c2, k1.c3, hs⟩) | (with_reducible exact ⟨(k0.o4 n02 _ _ _ _).c0, (k0.o4 n02 _ _ _ _).c1, (k0.o4 n02 _ _ _ _).c2, (k0.o4 n02 _ _ _ _).c3, (k1.o4 n12 _ _ _ _).c0, (k1.o4 n12 _ _ _ _).c1, (k1.o4 n12 _ _ _ _).c2, (k1.o4 n12 _ _ _ _).c3, hs.sn4 hg _ _ _ _⟩) | fail) (first | (go_at_call 83; (with_reducible refine (nden0_any (HB.out.below hc)).mono ?_); rintro e wb ⟨vb, rfl, hb, hbb⟩; have k0 := k0.below hbb; have k1 := k1.below hbb; have k2 := k2.below hbb; have hs := hs.trans (hbb.mono hs.size); have hc := hc.trans (hbb.mono hc.size); (try have ha := ha.below hbb); (try have hP := hP.below hbb); (try have hD := hD.below hbb)) | (go_at_call 83; (with_reducible refine (nden0_any (HA.out.below hc)).mono ?_); rintro e wa ⟨va, rfl, ha, hba⟩; have k0 := k0.below hba; have k1 := k1.below hba; have k2 := k2.below hba; have hs := hs.trans (hba.mono hs.size); have hc := hc.trans (hba.mono hc.size); (try have hb := hb.below hba); (try have hP := hP.below hba); (try have hD := hD.below hba)) | (go_at_call 72; (with_reducible refine (nmul_any (K := K) (HNA.out.below hc) hb HBN.out.1.1 HBN.out.2.1.1 HBN.out.2.1.2.2.2).mono ?_); rintro e wP ⟨vP, rfl, hP, hbP⟩; have k0 := k0.below hbP; have k1 := k1.below hbP; have k2 := k2.below hbP; have hs := hs.trans (hbP.mono hs.size); have hc := hc.trans (hbP.mono hc.size); (try have ha := ha.below hbP); (try have hb := hb.below hbP)) | (go_at_call 72; (with_reducible refine (nmul_any (K := K) ha (HNB.out.below hc) HBN.out.1.1 HBN.out.2.1.2.2.1 HBN.out.2.1.2.1).mono ?_); rintro e wD ⟨vD, rfl, hD, hbD⟩; have k0 := k0.below hbD; have k1 := k1.below hbD; have k2 := k2.below hbD; have hs := hs.trans (hbD.mono hs.size); have hc := hc.trans (hbD.mono hc.size); (try have hP := hP.below hbD)) | (go_at_call 75; (with_reducible refine (frac_any (K := K + K) (q := q1 / q2) hP hD HPD.out HBN.out.1.2 HBN.out.2.2.1 HBN.out.2.2.2 HQ.out).mono ?_); rintro e wR ⟨vR, rfl, hR, hbR⟩; have k0 := k0.below hbR; have k1 := k1.below hbR; have k2 := k2.below hbR; have hs := hs.trans (hbR.mono hs.size); have hc := hc.trans (hbR.mono hc.size); obtain ⟨rb, ra, rk, rc, ra', rk', rc', rfl, hrb, hr1, hr2⟩ := hR.op; have HRB := Lib.hid hrb; clear hrb; have d0 := k2.c0; have f0 := k2.f 0; have d1 := k2.c1; have f1 := k2.f 1; have d2 := k2.c2; have f2 := k2.f 2; have d3 := k2.c3; have f3 := k2.f 3) | fail)
    obtain ⟨WW, hWW⟩ : ∃ WW, (((wR.setCell ⟨w.heap.size + 1 + 1, 0, none⟩ (.bool rb)).setCell ⟨w.heap.size + 1 + 1, 1, none⟩ (.slice ra rk rc)).setCell ⟨w.heap.size + 1 + 1, 2, none⟩ (.bool false)).setCell ⟨w.heap.size + 1 + 1, 3, none⟩ (.slice ra' rk' rc') = WW := ⟨_, rfl⟩
    rw [hWW]
    obtain ⟨z0, z1, z2, z3, z4⟩ := ret_rat (q := q1 / q2) k2 HRB.out hr1 hr2 hs hg hWW
    have HZ := Lib.hid z4
    clear hs hc hWW z4 k0 k1 k2 hr1 hr2 d0 d1 d2 d3 f0 f1 f2 f3
    go_wp2_with fail
    exact bodyPost_ret (v := .agg #[.bool rb, .slice ra rk rc, .bool false, .slice ra' rk' rc']) (by simp [results, Tryz.results36, go_sem, z0, z1, z2, z3]) rfl HZ.out
end Go.Proofs.YtekghemhccfhkaaGreatDoor
namespace Go.Proofs.YtekghemhccfhkaaGreatDoor
open Go.RowKit Go.Big
set_option maxRecDepth 100000 in
set_option maxHeartbeats 4000000 in
/-- RMul -/
theorem rmul_any {v v' : Value} {q1 q2 : Rat} {K : Nat} {w : World} (h : NRat w v q1) (h' : NRat w v' q2) (hK : K < 10000) (s1 : Sn K q1) (s2 : Sn K q2) : Calls Tryz.prog 42 #[v, v'] w (RetRat w (q1 * q2)) := by
  obtain ⟨b1, a1, l1, p1, c1, m1, r1, rfl, e1, h1, i1⟩ := h.op
  obtain ⟨b2, a2, l2, p2, c2, m2, r2, rfl, e2, h2, i2⟩ := h'.op
  obtain ⟨w0, hw0, hb0, k0, k1, k2, hz0⟩ := nboxes3 w #[.bool b1, .slice a1 l1 p1, .bool false, .slice c1 m1 r1] 32 #[.bool b2, .slice a2 l2 p2, .bool false, .slice c2 m2 r2] 32 #[.bool false, .slice none 0 0, .bool false, .slice none 0 0] 32 (cb4 b1 h1.cb false i1.cb) (cb4 b2 h2.cb false i2.cb) (cb4 false cb_nil false cb_nil)
  have k0 : N4 w.heap.size b1 (.slice a1 l1 p1) false (.slice c1 m1 r1) w0 := k0
  have k1 : N4 (w.heap.size + 1) b2 (.slice a2 l2 p2) false (.slice c2 m2 r2) w0 := k1
  have k2 : N4 (w.heap.size + 1 + 1) false (.slice none 0 0) false (.slice none 0 0) w0 := k2
  have HA := Lib.hid (h.below hb0)
  have HB := Lib.hid (h'.below hb0)
  have HNA := Lib.hid (num_of e1 (h1.below hb0))
  have HNB := Lib.hid (num_of e2 (h2.below hb0))
  have HM := Lib.hid (And.intro hK (And.intro s1 s2))
  obtain ⟨hd1, hm1⟩ := dn_len q1.den_nz i1
  obtain ⟨hd2, hm2⟩ := dn_len q2.den_nz i2
  clear h h' h1 h2 i1 i2 e1 e2 hz0 hK s1 s2
  have HBN := Lib.hid (show (K < 100000 ∧ K + K < 100000 ∧ K + K + 1 < 100000) ∧ (q1.num.natAbs < B32 ^ K ∧ q2.num.natAbs < B32 ^ K ∧ (q1.den : Int).natAbs < B32 ^ K ∧ (q2.den : Int).natAbs < B32 ^ K) ∧ ((q1.num * (q2.den : Int)).natAbs < B32 ^ (K + K) ∧ (q2.num * (q1.den : Int)).natAbs < B32 ^ (K + K)) ∧ (((q1.den : Int) * (q2.den : Int)).natAbs < B32 ^ (K + K + 1) ∧ (q1.num * (q2.den : Int) + q2.num * (q1.den : Int)).natAbs < B32 ^ (K + K + 1) ∧ (q1.num * q2.num).natAbs < B32 ^ (K + K + 1)) from by
    have hk := HM.out.1
    obtain ⟨n1, d1⟩ := HM.out.2.1
    obtain ⟨n2, d2⟩ := HM.out.2.2
    have d1 : (q1.den : Int).natAbs < B32 ^ K := by rw [den_abs]; exact d1
    have d2 : (q2.den : Int).natAbs < B32 ^ K := by rw [den_abs]; exact d2
    exact ⟨⟨by omega, by omega, by omega⟩, ⟨n1, n2, d1, d2⟩, ⟨sn_mul n1 d2, sn_mul n2 d1⟩, sn_up (sn_mul d1 d2), sn_add (sn_mul n1 d2) (sn_mul n2 d1), sn_up (sn_mul n1 n2)⟩)
  have y00 := k0.c0
  have y01 := k0.c1
  have y02 := k0.c2
  have y03 := k0.c3
  have y10 := k1.c0
  have y11 := k1.c1
  have y12 := k1.c2
  have y13 := k1.c3
  have HPD := Lib.hid (show (0 : Int) < (q1.den : Int) * (q2.den : Int) from Int.mul_pos (by have := rat_den_pos q1; omega) (by have := rat_den_pos q2; omega))
  have HQ := Lib.hid (show (q1 * q2).num * ((q1.den : Int) * (q2.den : Int)) = (q1.num * q2.num) * (q1 * q2).den from by have := rat_mul q1 q2; rwa [Int.natCast_mul] at this)
  by_cases hden : q1.den = 1 ∧ q2.den = 1
  · have t1 : ((m1 : Int) == 0) = true := by rw [beq_iff_eq]; have := hd1.2 hden.1; omega
    have t2 : ((m2 : Int) == 0) = true := by rw [beq_iff_eq]; have := hd2.2 hden.2; omega
    have HDD := Lib.hid (mul_whole hden.1 hden.2)
    have HC := Lib.hid (nmul_any (K := K) HNA.out HNB.out (by have := HM.out.1; omega) HM.out.2.1.1 HM.out.2.2.1)
    clear hd1 hd2 hden
    go_enter Tryz.func42, Tryz.ntmps42
    go_wp2_with fail
    refine HC.out.mono ?_
    rintro e w1 ⟨v1, rfl, hv1, hb1⟩
    have hv1 := numv_signed (m := (q1 * q2).num) hv1 HDD.out.1.symm
    obtain ⟨rb, ra, rk, rc, rfl, hrb, hr1⟩ := hv1.op
    have k2 := k2.below hb1
    have hs := hb0.trans (hb1.mono hb0.size)
    obtain ⟨WW, hWW⟩ : ∃ WW, (((w1.setCell ⟨w.heap.size + 1 + 1, 0, none⟩ (.bool rb)).setCell ⟨w.heap.size + 1 + 1, 1, none⟩ (.slice ra rk rc)).setCell ⟨w.heap.size + 1 + 1, 2, none⟩ (.bool false)).setCell ⟨w.heap.size + 1 + 1, 3, none⟩ (.slice none 0 0) = WW := ⟨_, rfl⟩
    obtain ⟨z0, z1, z2, z3, z4⟩ := ret_rat (q := q1 * q2) k2 hrb hr1 (by rw [HDD.out.2]; exact mag_nil _) hs (by omega) hWW
    have HZ := Lib.hid z4
    have d0 := k2.c0
    have f0 := k2.f 0
    have d1 := k2.c1
    have f1 := k2.f 1
    have d2 := k2.c2
    have f2 := k2.f 2
    have d3 := k2.c3
    have f3 := k2.f 3
    clear hs hb1 hb0 z4 k0 k1 k2 hr1 hrb hv1 HC y00 y01 y02 y03 y10 y11 y12 y13
    go_wp2_with fail
    exact bodyPost_ret (v := .agg #[.bool rb, .slice ra rk rc, .bool false, .slice none 0 0]) (by simp [results, Tryz.results42, go_sem, z0, z1, z2, z3]) rfl HZ.out
  · by_cases hx1 : q1.den = 1
    · have hx2 : ¬ q2.den = 1 := fun h => hden ⟨hx1, h⟩
      have t1 : ((m1 : Int) == 0) = true := by rw [beq_iff_eq]; have := hd1.2 hx1; omega
      have t2 : ((m2 : Int) == 0) = false := by rw [beq_eq_false_iff_ne]; have := mt hd2.1 hx2; omega
      clear hd1 hd2 hden hx1 hx2
      go_enter Tryz.func42, Tryz.ntmps42
      go_wp2_with fail
      have n02 : w.heap.size ≠ w.heap.size + 1 + 1 := by omega
      have n12 : w.heap.size + 1 ≠ w.heap.size + 1 + 1 := by omega
      have hg : w.heap.size ≤ w.heap.size + 1 + 1 := by omega
      have k0 : N4 w.heap.size b1 (.slice a1 l1 p1) false (.slice c1 m1 r1) w0.drew := k0
      have k1 : N4 (w.heap.size + 1) b2 (.slice a2 l2 p2) false (.slice c2 m2 r2) w0.drew := k1
      have k2 : N4 (w.heap.size + 1 + 1) false (.slice none 0 0) false (.slice none 0 0) w0.drew := k2
      have hc : Below w0.heap.size w0 w0.drew := (Below.refl _ _).drew
      have hs : Below w.heap.size w w0.drew := hb0.drew
      go_region_held3 (fun w' => w'.cell? ⟨w.heap.size, 0, none⟩ = some (.bool b1) ∧ w'.cell? ⟨w.heap.size, 1, none⟩ = some (.slice a1 l1 p1) ∧ w'.cell? ⟨w.heap.size, 2, none⟩ = some (.bool false) ∧ w'.cell? ⟨w.heap.size, 3, none⟩ = some (.slice c1 m1 r1) ∧ w'.cell? ⟨(w.heap.size + 1), 0, none⟩ = some (.bool b2) ∧ w'.cell? ⟨(w.heap.size + 1), 1, none⟩ = some (.slice a2 l2 p2) ∧ w'.cell? ⟨(w.heap.size + 1), 2, none⟩ = some (.bool false) ∧ w'.cell? ⟨(w.heap.size + 1), 3, none⟩ = some (.slice c2 m2 r2) ∧ Below w.heap.size w w') (first | (with_reducible exact ⟨k0.c0, k0.c1, k0.c2, k0.c3, k1.c0, k1.c1, k1.c2, k1.c3, hs⟩) | (with_reducible exact ⟨(k0.o4 n02 _ _ _ _).c0, (k0.o4 n02 _ _ _ _).c1, (k0.o4 n02 _ _ _ _).c2, (k0.o4 n02 _ _ _ _).c3, (k1.o4 n12 _ _ _ _).c0, (k1.o4 n12 _ _ _ _).c1, (k1.o4 n12 _ _ _ _).c2, (k1.o4 n12 _ _ _ _).c3, hs.sn4 hg _ _ _ _⟩) | fail) (first | (go_at_call 72; (with_reducible refine (nmul_any (K := K) (HNA.out.below hc) (HNB.out.below hc) HBN.out.1.1 HBN.out.2.1.1 HBN.out.2.1.2.1).mono ?_); rintro e wP ⟨vP, rfl, hP, hbP⟩; have k0 := k0.below hbP; have k1 := k1.below hbP; have k2 := k2.below hbP; have hs := hs.trans (hbP.mono hs.size); have hc := hc.trans (hbP.mono hc.size); (try have ha := ha.below hbP); (try have hb := hb.below hbP)) | (go_at_call 83; (with_reducible refine (nden0_any (HA.out.below hc)).mono ?_); rintro e wa ⟨va, rfl, ha, hba⟩; have k0 := k0.below hba; have k1 := k1.below hba; have k2 := k2.below hba; have hs := hs.trans (hba.mono hs.size); have hc := hc.trans (hba.mono hc.size); (try have hb := hb.below hba); (try have hP := hP.below hba); (try have hQ := hQ.below hba); (try have hS := hS.below hba); (try have hD := hD.below hba)) | (go_at_call 83; (with_reducible refine (nden0_any (HB.out.below hc)).mono ?_); rintro e wb ⟨vb, rfl, hb, hbb⟩; have k0 := k0.below hbb; have k1 := k1.below hbb; have k2 := k2.below hbb; have hs := hs.trans (hbb.mono hs.size); have hc := hc.trans (hbb.mono hc.size); (try have ha := ha.below hbb); (try have hP := hP.below hbb); (try have hQ := hQ.below hbb); (try have hS := hS.below hbb); (try have hD := hD.below hbb)) | (go_at_call 72; (with_reducible refine (nmul_any (K := K) ha hb HBN.out.1.1 HBN.out.2.1.2.2.1 HBN.out.2.1.2.2.2).mono ?_); rintro e wD ⟨vD, rfl, hD, hbD⟩; have k0 := k0.below hbD; have k1 := k1.below hbD; have k2 := k2.below hbD; have hs := hs.trans (hbD.mono hs.size); have hc := hc.trans (hbD.mono hc.size); (try have hP := hP.below hbD)) | (go_at_call 75; (with_reducible refine (frac_pos (K := K + K + 1) (q := q1 * q2) hP hD HPD.out HBN.out.1.2.2 HBN.out.2.2.2.2.2 HBN.out.2.2.2.1 HQ.out).mono ?_); rintro e wR ⟨vR, rfl, hR, hbR⟩; have k0 := k0.below hbR; have k1 := k1.below hbR; have k2 := k2.below hbR; have hs := hs.trans (hbR.mono hs.size); have hc := hc.trans (hbR.mono hc.size); obtain ⟨rb, ra, rk, rc, ra', rk', rc', rfl, hrb, hr1, hr2⟩ := hR.op; have HRB := Lib.hid hrb; clear hrb; have d0 := k2.c0; have f0 := k2.f 0; have d1 := k2.c1; have f1 := k2.f 1; have d2 := k2.c2; have f2 := k2.f 2; have d3 := k2.c3; have f3 := k2.f 3) | fail)
      obtain ⟨WW, hWW⟩ : ∃ WW, (((wR.setCell ⟨w.heap.size + 1 + 1, 0, none⟩ (.bool rb)).setCell ⟨w.heap.size + 1 + 1, 1, none⟩ (.slice ra rk rc)).setCell ⟨w.heap.size + 1 + 1, 2, none⟩ (.bool false)).setCell ⟨w.heap.size + 1 + 1, 3, none⟩ (.slice ra' rk' rc') = WW := ⟨_, rfl⟩
      rw [hWW]
      obtain ⟨z0, z1, z2, z3, z4⟩ := ret_rat (q := q1 * q2) k2 HRB.out hr1 hr2 hs hg hWW
      have HZ := Lib.hid z4
      clear hs hc hWW z4 k0 k1 k2 hr1 hr2 d0 d1 d2 d3 f0 f1 f2 f3
      go_wp2_with fail
      exact bodyPost_ret (v := .agg #[.bool rb, .slice ra rk rc, .bool false, .slice ra' rk' rc']) (by simp [results, Tryz.results42, go_sem, z0, z1, z2, z3]) rfl HZ.out
    · have t1 : ((m1 : Int) == 0) = false := by rw [beq_eq_false_iff_ne]; have := mt hd1.1 hx1; omega
      clear hd1 hd2 hden hx1
      go_enter Tryz.func42, Tryz.ntmps42
      go_wp2_with fail
      have n02 : w.heap.size ≠ w.heap.size + 1 + 1 := by omega
      have n12 : w.heap.size + 1 ≠ w.heap.size + 1 + 1 := by omega
      have hg : w.heap.size ≤ w.heap.size + 1 + 1 := by omega
      have k0 : N4 w.heap.size b1 (.slice a1 l1 p1) false (.slice c1 m1 r1) w0.drew := k0
      have k1 : N4 (w.heap.size + 1) b2 (.slice a2 l2 p2) false (.slice c2 m2 r2) w0.drew := k1
      have k2 : N4 (w.heap.size + 1 + 1) false (.slice none 0 0) false (.slice none 0 0) w0.drew := k2
      have hc : Below w0.heap.size w0 w0.drew := (Below.refl _ _).drew
      have hs : Below w.heap.size w w0.drew := hb0.drew
      go_region_held3 (fun w' => w'.cell? ⟨w.heap.size, 0, none⟩ = some (.bool b1) ∧ w'.cell? ⟨w.heap.size, 1, none⟩ = some (.slice a1 l1 p1) ∧ w'.cell? ⟨w.heap.size, 2, none⟩ = some (.bool false) ∧ w'.cell? ⟨w.heap.size, 3, none⟩ = some (.slice c1 m1 r1) ∧ w'.cell? ⟨(w.heap.size + 1), 0, none⟩ = some (.bool b2) ∧ w'.cell? ⟨(w.heap.size + 1), 1, none⟩ = some (.slice a2 l2 p2) ∧ w'.cell? ⟨(w.heap.size + 1), 2, none⟩ = some (.bool false) ∧ w'.cell? ⟨(w.heap.size + 1), 3, none⟩ = some (.slice c2 m2 r2) ∧ Below w.heap.size w w') (first | (with_reducible exact ⟨k0.c0, k0.c1, k0.c2, k0.c3, k1.c0, k1.c1, k1.c2, k1.c3, hs⟩) | (with_reducible exact ⟨(k0.o4 n02 _ _ _ _).c0, (k0.o4 n02 _ _ _ _).c1, (k0.o4 n02 _ _ _ _).c2, (k0.o4 n02 _ _ _ _).c3, (k1.o4 n12 _ _ _ _).c0, (k1.o4 n12 _ _ _ _).c1, (k1.o4 n12 _ _ _ _).c2, (k1.o4 n12 _ _ _ _).c3, hs.sn4 hg _ _ _ _⟩) | fail) (first | (go_at_call 72; (with_reducible refine (nmul_any (K := K) (HNA.out.below hc) (HNB.out.below hc) HBN.out.1.1 HBN.out.2.1.1 HBN.out.2.1.2.1).mono ?_); rintro e wP ⟨vP, rfl, hP, hbP⟩; have k0 := k0.below hbP; have k1 := k1.below hbP; have k2 := k2.below hbP; have hs := hs.trans (hbP.mono hs.size); have hc := hc.trans (hbP.mono hc.size); (try have ha := ha.below hbP); (try have hb := hb.below hbP)) | (go_at_call 83; (with_reducible refine (nden0_any (HA.out.below hc)).mono ?_); rintro e wa ⟨va, rfl, ha, hba⟩; have k0 := k0.below hba; have k1 := k1.below hba; have k2 := k2.below hba; have hs := hs.trans (hba.mono hs.size); have hc := hc.trans (hba.mono hc.size); (try have hb := hb.below hba); (try have hP := hP.below hba); (try have hQ := hQ.below hba); (try have hS := hS.below hba); (try have hD := hD.below hba)) | (go_at_call 83; (with_reducible refine (nden0_any (HB.out.below hc)).mono ?_); rintro e wb ⟨vb, rfl, hb, hbb⟩; have k0 := k0.below hbb; have k1 := k1.below hbb; have k2 := k2.below hbb; have hs := hs.trans (hbb.mono hs.size); have hc := hc.trans (hbb.mono hc.size); (try have ha := ha.below hbb); (try have hP := hP.below hbb); (try have hQ := hQ.below hbb); (try have hS := hS.below hbb); (try have hD := hD.below hbb)) | (go_at_call 72; (with_reducible refine (nmul_any (K := K) ha hb HBN.out.1.1 HBN.out.2.1.2.2.1 HBN.out.2.1.2.2.2).mono ?_); rintro e wD ⟨vD, rfl, hD, hbD⟩; have k0 := k0.below hbD; have k1 := k1.below hbD; have k2 := k2.below hbD; have hs := hs.trans (hbD.mono hs.size); have hc := hc.trans (hbD.mono hc.size); (try have hP := hP.below hbD)) | (go_at_call 75; (with_reducible refine (frac_pos (K := K + K + 1) (q := q1 * q2) hP hD HPD.out HBN.out.1.2.2 HBN.out.2.2.2.2.2 HBN.out.2.2.2.1 HQ.out).mono ?_); rintro e wR ⟨vR, rfl, hR, hbR⟩; have k0 := k0.below hbR; have k1 := k1.below hbR; have k2 := k2.below hbR; have hs := hs.trans (hbR.mono hs.size); have hc := hc.trans (hbR.mono hc.size); obtain ⟨rb, ra, rk, rc, ra', rk', rc', rfl, hrb, hr1, hr2⟩ := hR.op; have HRB := Lib.hid hrb; clear hrb; have d0 := k2.c0; have f0 := k2.f 0; have d1 := k2.c1; have f1 := k2.f 1; have d2 := k2.c2; have f2 := k2.f 2; have d3 := k2.c3; have f3 := k2.f 3) | fail)
      obtain ⟨WW, hWW⟩ : ∃ WW, (((wR.setCell ⟨w.heap.size + 1 + 1, 0, none⟩ (.bool rb)).setCell ⟨w.heap.size + 1 + 1, 1, none⟩ (.slice ra rk rc)).setCell ⟨w.heap.size + 1 + 1, 2, none⟩ (.bool false)).setCell ⟨w.heap.size + 1 + 1, 3, none⟩ (.slice ra' rk' rc') = WW := ⟨_, rfl⟩
      rw [hWW]
      obtain ⟨z0, z1, z2, z3, z4⟩ := ret_rat (q := q1 * q2) k2 HRB.out hr1 hr2 hs hg hWW
      have HZ := Lib.hid z4
      clear hs hc hWW z4 k0 k1 k2 hr1 hr2 d0 d1 d2 d3 f0 f1 f2 f3
      go_wp2_with fail
      exact bodyPost_ret (v := .agg #[.bool rb, .slice ra rk rc, .bool false, .slice ra' rk' rc']) (by simp [results, Tryz.results42, go_sem, z0, z1, z2, z3]) rfl HZ.out
end Go.Proofs.YtekghemhccfhkaaGreatDoor
