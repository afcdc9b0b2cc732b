/-
  Walks of the program's functions: NInt6, NInt7, NRat2, NRat3, NRat5, NRat6, NRat7, NFrac, NRat8, NFromD, NRat4.
-/
import Derived.Test.YtekghemhccfhkaaGreatDoorB44
import Derived.Test.YtekghemhccfhkaaGreatDoorB46
import Derived.Deep.QuietTactic
import Derived.BigQuiet
import Derived.Deep.LoopGhost
import Derived.Test.YtekghemhccfhkaaGreatDoorB02
import Derived.Deep.RegionWith
import Derived.Test.YtekghemhccfhkaaGreatDoorB43
import Derived.Test.YtekghemhccfhkaaGreatDoorB07
namespace Go.Big
open Go Go.RowKit
/-- The quotient rounded towards 0, and the remainder. -/
theorem quo_sign {m n : Int} {b b' : Bool} (e1 : b = decide (m < 0)) (e2 : b' = decide (n < 0)) : signed (!(b == b')) (m.natAbs / n.natAbs) = m.tdiv n := by
  subst e1 e2
  unfold signed
  rcases Int.natAbs_eq m with hm | hm <;> rcases Int.natAbs_eq n with hn | hn <;> generalize m.natAbs = a at * <;> generalize n.natAbs = c at * <;> subst hm <;> subst hn
  · have h1 : ¬ (a : Int) < 0 := by omega
    have h2 : ¬ (c : Int) < 0 := by omega
    rw [decide_eq_false h1, decide_eq_false h2]; rfl
  · have h1 : ¬ (a : Int) < 0 := by omega
    rw [decide_eq_false h1, Int.tdiv_neg]
    rcases Nat.eq_zero_or_pos c with h0 | h0
    · subst h0; simp
    · rw [decide_eq_true (by omega : -(c : Int) < 0)]; rfl
  · have h2 : ¬ (c : Int) < 0 := by omega
    rw [decide_eq_false h2, Int.neg_tdiv]
    rcases Nat.eq_zero_or_pos a with h0 | h0
    · subst h0; simp
    · rw [decide_eq_true (by omega : -(a : Int) < 0)]; rfl
  · rw [Int.neg_tdiv, Int.tdiv_neg, Int.neg_neg]
    rcases Nat.eq_zero_or_pos a with h0 | h0
    · subst h0
      simp
    · rcases Nat.eq_zero_or_pos c with h1 | h1
      · subst h1; simp
      · rw [decide_eq_true (by omega : -(a : Int) < 0), decide_eq_true (by omega : -(c : Int) < 0)]; rfl
theorem rem_sign {m n : Int} {b : Bool} (e1 : b = decide (m < 0)) : signed b (m.natAbs % n.natAbs) = m.tmod n := by
  subst e1
  unfold signed
  rcases Int.natAbs_eq n with hn | hn <;> generalize n.natAbs = c at * <;> subst hn
  · rcases Int.natAbs_eq m with hm | hm <;> generalize m.natAbs = a at * <;> subst hm
    · rw [if_neg (by simp)]; rfl
    · rw [Int.neg_tmod]
      rcases Nat.eq_zero_or_pos a with h0 | h0
      · subst h0; simp
      · rw [if_pos (by simp; omega)]; rfl
  · rw [Int.tmod_neg]
    rcases Int.natAbs_eq m with hm | hm <;> generalize m.natAbs = a at * <;> subst hm
    · rw [if_neg (by simp)]; rfl
    · rw [Int.neg_tmod]
      rcases Nat.eq_zero_or_pos a with h0 | h0
      · subst h0; simp
      · rw [if_pos (by simp; omega)]; rfl
end Go.Big
namespace Go.Proofs.YtekghemhccfhkaaGreatDoor
open Go.RowKit Go.Big
theorem nboxes4 (w : World) (c1 : Array Value) (t1 : TypeId) (c2 : Array Value) (t2 : TypeId) (c3 : Array Value) (t3 : TypeId) (c4 : Array Value) (t4 : TypeId) (h1 : ∀ c ∈ c1, Cb c) (h2 : ∀ c ∈ c2, Cb c) (h3 : ∀ c ∈ c3, Cb c) (h4 : ∀ c ∈ c4, Cb c) :
    ∃ w0, (((w.alloc (.cells c1 t1)).alloc (.cells c2 t2)).alloc (.cells c3 t3)).alloc (.cells c4 t4) = w0 ∧ Below w.heap.size w w0 ∧ Bb w0 w.heap.size c1 t1 ∧ Bb w0 (w.heap.size + 1) c2 t2 ∧ Bb w0 (w.heap.size + 1 + 1) c3 t3 ∧ Bb w0 (w.heap.size + 1 + 1 + 1) c4 t4 ∧ w0.heap.size = w.heap.size + 4 := by
  obtain ⟨w1, e1, b1, x1, y1, z1, s1⟩ := nboxes3 w c1 t1 c2 t2 c3 t3 h1 h2 h3
  obtain ⟨w2, e2, b2, x2, s2⟩ := nbox1 w1 c4 t4 h4
  rw [s1] at x2
  exact ⟨w2, by rw [e1, e2], b1.trans (b2.mono b1.size), x1.below b2, y1.below b2, z1.below b2, x2, by omega⟩
def RetNum2 (w : World) (m n : Int) (e : Ending) (w' : World) : Prop := ∃ v v', e = .returned (.tuple #[v, v']) ∧ NumV w' v m ∧ NumV w' v' n ∧ Below w.heap.size w w'
theorem ret_num2 {w w3 : World} {g g' : Nat} {b0 b b0' b' : Bool} {s0 s s0' s' : Value} {m n : Int} (k : N2 g b0 s0 w3) (k' : N2 g' b0' s0' w3) (hne : g ≠ g') (hb : b = decide (m < 0)) (h : NatV w3 .u32 B32 s m.natAbs) (hb' : b' = decide (n < 0)) (h' : NatV w3 .u32 B32 s' n.natAbs)
    (s3 : Below w.heap.size w w3) (hg : w.heap.size ≤ g) (hg' : w.heap.size ≤ g') {W : World} (hW : (((w3.setCell ⟨g, 0, none⟩ (.bool b)).setCell ⟨g, 1, none⟩ s).setCell ⟨g', 0, none⟩ (.bool b')).setCell ⟨g', 1, none⟩ s' = W) :
    W.cell? ⟨g, 0, none⟩ = some (.bool b) ∧ W.cell? ⟨g, 1, none⟩ = some s ∧ W.cell? ⟨g', 0, none⟩ = some (.bool b') ∧ W.cell? ⟨g', 1, none⟩ = some s' ∧ RetNum2 w m n (.returned (.tuple #[.agg #[.bool b, s], .agg #[.bool b', s']])) W := by
  have hW : sn2 (sn2 w3 g b s) g' b' s' = W := hW
  subst hW
  have kA := k.st b h.cb
  have kA' := k'.o2 (b1 := b) (s1 := s) (Ne.symm hne)
  have kB := kA.o2 hne b' s'
  have kB' := kA'.st b' h'.cb
  have q1 := (h.sn2 (b1 := b) k h.cb).sn2 (b1 := b') kA' h'.cb
  have q2 := (h'.sn2 (b1 := b) k h.cb).sn2 (b1 := b') kA' h'.cb
  exact ⟨kB.c0, kB.c1, kB'.c0, kB'.c1, _, _, rfl, ⟨s, by rw [hb], q1⟩, ⟨s', by rw [hb'], q2⟩, (s3.sn2 hg b s).sn2 hg' b' s'⟩
set_option maxRecDepth 100000 in
set_option maxHeartbeats 4000000 in
/-- QuoRem -/
theorem nquoRem_any {v v' : Value} {m n : Int} {K : Nat} {w : World} (h : NumV w v m) (h' : NumV w v' n) (hn0 : n ≠ 0) (hK : K < 100000) (hm : m.natAbs < B32 ^ K) : Calls Tryz.prog 120 #[v, v'] w (RetNum2 w (m.tdiv n) (m.tmod n)) := by
  obtain ⟨b1, a1, l1, p1, rfl, e1, h1⟩ := h.op
  obtain ⟨b2, a2, l2, p2, rfl, e2, h2⟩ := h'.op
  obtain ⟨w0, hw0, hb0, k0, k1, k2, k3, hz0⟩ := nboxes4 w #[.bool b1, .slice a1 l1 p1] 30 #[.bool b2, .slice a2 l2 p2] 30 #[.bool false, .slice none 0 0] 30 #[.bool false, .slice none 0 0] 30 (cb2 b1 h1.cb) (cb2 b2 h2.cb) (cb2 false cb_nil) (cb2 false cb_nil)
  have k0 : N2 w.heap.size b1 (.slice a1 l1 p1) w0 := k0
  have k1 : N2 (w.heap.size + 1) b2 (.slice a2 l2 p2) w0 := k1
  have k2 : N2 (w.heap.size + 1 + 1) false (.slice none 0 0) w0 := k2
  have k3 : N2 (w.heap.size + 1 + 1 + 1) false (.slice none 0 0) w0 := k3
  have HD := Lib.hid (divMag_any (K := K) (h1.below hb0) (h2.below hb0) (by omega) (Nat.lt_trans hK (by decide)) hm)
  have HE := Lib.hid (And.intro e1 e2)
  have c00 := k0.c0
  have c01 := k0.c1
  have c10 := k1.c0
  have c11 := k1.c1
  clear h h' h1 h2 e1 e2 hz0 hK hm hn0
  go_enter Tryz.func120, Tryz.ntmps120
  go_wp2_with fail
  refine HD.out.mono ?_
  rintro e w9 ⟨vq, vr, rfl, hq, hr, hb9⟩
  have k0 := k0.below hb9
  have k1 := k1.below hb9
  have k2 := k2.below hb9
  have k3 := k3.below hb9
  have hs9 := hb0.trans (hb9.mono hb0.size)
  have HQ := Lib.hid hq
  have HR := Lib.hid hr
  clear c00 c01 c10 c11 HD hq hr hb9
  have c00 := k0.c0
  have c01 := k0.c1
  have c10 := k1.c0
  have c11 := k1.c1
  go_wp2_with fail
  have n02 : w.heap.size ≠ w.heap.size + 1 + 1 := by omega
  have n03 : w.heap.size ≠ w.heap.size + 1 + 1 + 1 := by omega
  have n12 : w.heap.size + 1 ≠ w.heap.size + 1 + 1 := by omega
  have n13 : w.heap.size + 1 ≠ w.heap.size + 1 + 1 + 1 := by omega
  have hg2 : w.heap.size ≤ w.heap.size + 1 + 1 := by omega
  have hg3 : w.heap.size ≤ w.heap.size + 1 + 1 + 1 := by omega
  have k0 : N2 w.heap.size b1 (.slice a1 l1 p1) w9.drew := k0
  have k1 : N2 (w.heap.size + 1) b2 (.slice a2 l2 p2) w9.drew := k1
  have k2 : N2 (w.heap.size + 1 + 1) false (.slice none 0 0) w9.drew := k2
  have k3 : N2 (w.heap.size + 1 + 1 + 1) false (.slice none 0 0) w9.drew := k3
  have hc : Below w9.heap.size w9 w9.drew := (Below.refl _ _).drew
  have hs : Below w.heap.size w w9.drew := hs9.drew
  go_region_held3 (fun w' => w'.cell? ⟨w.heap.size, 0, none⟩ = some (.bool b1) ∧ w'.cell? ⟨w.heap.size, 1, none⟩ = some (.slice a1 l1 p1) ∧ w'.cell? ⟨(w.heap.size + 1), 0, none⟩ = some (.bool b2) ∧ w'.cell? ⟨(w.heap.size + 1), 1, none⟩ = some (.slice a2 l2 p2) ∧ Below w.heap.size w w') (first | (with_reducible exact ⟨k0.c0, k0.c1, k1.c0, k1.c1, hs⟩) | (with_reducible exact ⟨(k0.o2 n02 _ _).c0, (k0.o2 n02 _ _).c1, (k1.o2 n12 _ _).c0, (k1.o2 n12 _ _).c1, hs.sn2 hg2 _ _⟩) | (with_reducible exact ⟨((k0.o2 n02 _ _).o2 n03 _ _).c0, ((k0.o2 n02 _ _).o2 n03 _ _).c1, ((k1.o2 n12 _ _).o2 n13 _ _).c0, ((k1.o2 n12 _ _).o2 n13 _ _).c1, (hs.sn2 hg2 _ _).sn2 hg3 _ _⟩) | fail) (first | (go_at_call 100; (with_reducible refine (make1_any (!(b1 == b2)) (HQ.out.below hc)).mono ?_); rintro e w3 ⟨v3, rfl, hv3, hb3⟩; have k0 := k0.below hb3; have k1 := k1.below hb3; have k2 := k2.below hb3; have k3 := k3.below hb3; have hs := hs.trans (hb3.mono hs.size); have hc := hc.trans (hb3.mono hc.size); obtain ⟨qb, qao, qk, qcap, rfl, hqb, hqs⟩ := hv3.op; have HQB := Lib.hid hqb; clear hqb) | (go_at_call 100; (with_reducible refine (make1_any b1 (HR.out.below hc)).mono ?_); rintro e w4 ⟨v4, rfl, hv4, hb4⟩; have k0 := k0.below hb4; have k1 := k1.below hb4; have k2 := k2.below hb4; have k3 := k3.below hb4; have hs := hs.trans (hb4.mono hs.size); have hc := hc.trans (hb4.mono hc.size); obtain ⟨rb, rao, rk, rcap, rfl, hrb, hrs⟩ := hv4.op; have HRB := Lib.hid hrb; clear hrb; have hqs := hqs.below hb4; have d0 := k2.c0; have d1 := k2.c1; have f0 := k2.f 0; have f1 := k2.f 1; have d2 := k3.c0; have d3 := k3.c1; have f2 := k3.f 0; have f3 := k3.f 1) | fail)
  obtain ⟨WW, hWW⟩ : ∃ WW, (((w4.setCell ⟨w.heap.size + 1 + 1, 0, none⟩ (.bool qb)).setCell ⟨w.heap.size + 1 + 1, 1, none⟩ (.slice qao qk qcap)).setCell ⟨w.heap.size + 1 + 1 + 1, 0, none⟩ (.bool rb)).setCell ⟨w.heap.size + 1 + 1 + 1, 1, none⟩ (.slice rao rk rcap) = WW := ⟨_, rfl⟩
  rw [hWW]
  have hqb := HQB.out
  have hrb := HRB.out
  have hv5 : signed (!(b1 == b2)) (m.natAbs / n.natAbs) = m.tdiv n := quo_sign HE.out.1 HE.out.2
  have hv6 : signed b1 (m.natAbs % n.natAbs) = m.tmod n := rem_sign HE.out.1
  rw [hv5] at hqb hqs
  rw [hv6] at hrb hrs
  obtain ⟨z0, z1, z2, z3, z4⟩ := ret_num2 (m := m.tdiv n) (n := m.tmod n) k2 k3 (by omega) hqb hqs hrb hrs hs hg2 hg3 hWW
  have HZ := Lib.hid z4
  clear hs hc d0 d1 f0 f1 d2 d3 f2 f3 hWW z4 k0 k1 k2 k3 hqb hrb hqs hrs
  go_wp2_with fail
  exact bodyPost_ret (v := .tuple #[.agg #[.bool qb, .slice qao qk qcap], .agg #[.bool rb, .slice rao rk rcap]]) (by simp [results, Tryz.results120, go_sem, z0, z1, z2, z3]) rfl HZ.out
end Go.Proofs.YtekghemhccfhkaaGreatDoor
namespace Go.Proofs.YtekghemhccfhkaaGreatDoor
open Go.RowKit Go.Big
set_option maxRecDepth 100000 in
set_option maxHeartbeats 4000000 in
/-- Gcd -/
theorem ngcd_any {v v' : Value} {m n : Int} {K : Nat} {w : World} (h : NumV w v m) (h' : NumV w v' n) (hK : K < 100000) (hm : m.natAbs < B32 ^ K) (hn : n.natAbs < B32 ^ K) : Calls Tryz.prog 93 #[v, v'] w (RetNum w (Nat.gcd m.natAbs n.natAbs : Nat)) := by
  obtain ⟨b1, a1, l1, p1, rfl, e1, h1⟩ := h.op
  obtain ⟨b2, a2, l2, p2, rfl, e2, h2⟩ := h'.op
  obtain ⟨w0, hw0, hb0, k0, k1, k2, hz0⟩ := nboxes3 w #[.bool b1, .slice a1 l1 p1] 30 #[.bool b2, .slice a2 l2 p2] 30 #[.bool false, .slice none 0 0] 30 (cb2 b1 h1.cb) (cb2 b2 h2.cb) (cb2 false cb_nil)
  have k0 : N2 w.heap.size b1 (.slice a1 l1 p1) w0 := k0
  have k1 : N2 (w.heap.size + 1) b2 (.slice a2 l2 p2) w0 := k1
  have k2 : N2 (w.heap.size + 1 + 1) false (.slice none 0 0) w0 := k2
  have HA := Lib.hid (h1.below hb0)
  have HB := Lib.hid (h2.below hb0)
  have HM := Lib.hid (And.intro hK (And.intro hm hn))
  have HB0 := Lib.hid hb0
  have HK2 := Lib.hid k2
  have c00 := k0.c0
  have c01 := k0.c1
  have c10 := k1.c0
  have c11 := k1.c1
  clear h h' h1 h2 e1 e2 hz0 hK hm hn k0 k1 k2 hb0
  go_enter Tryz.func93, Tryz.ntmps93
  go_wp2_with fail
  go_quiet (fail)
  go_wp2_with fail
  go_loopg [5, 6] n.natAbs (fun gg x y wr => ∃ p g : Nat, g ≤ gg ∧ NatV wr .u32 B32 x p ∧ NatV wr .u32 B32 y g ∧ p < B32 ^ K ∧ g < B32 ^ K ∧ Nat.gcd p g = Nat.gcd m.natAbs n.natAbs ∧ Below w0.heap.size w0 wr)
  case atStart => exact ⟨m.natAbs, n.natAbs, Nat.le_refl _, HA.out.drewN _, HB.out.drewN _, HM.out.2.1, HM.out.2.2, rfl, below_drewN (Below.refl _ _) _⟩
  case round =>
    obtain ⟨p, g, hgg, hp, hg, hpb, hgb, hgcd, hbel⟩ := hrel
    have hg' := hg
    obtain ⟨bo, capb, lb, rfl, sb, wb, nb, eb⟩ := hg'
    have hlm := sb.len_le
    by_cases h0 : 0 < lb.length
    · have hgp : 0 < g := by
        rcases Nat.eq_zero_or_pos g with h1 | h1
        · rw [h1] at eb
          rw [(val_zero_iff (B := B32) (by decide) nb).1 eb] at h0; simp at h0
        · exact h1
      have HD := Lib.hid (divMag_any hp hg hgp (Nat.lt_trans HM.out.1 (by decide)) hpb)
      have HG := Lib.hid hg
      have HN := Lib.hid (And.intro hpb (And.intro hgb (And.intro hgcd (And.intro hbel hgp))))
      clear hp hg hpb hgb hgcd hbel sb wb nb eb hgp
      go_wp2_with fail
      refine HD.out.mono ?_
      rintro e w1 ⟨vq, vr, rfl, hq, hr, hb1⟩
      have HG := Lib.hid (HG.out.below hb1)
      have HR := Lib.hid hr
      have HB1 := Lib.hid (HN.out.2.2.2.1.trans (hb1.mono HN.out.2.2.2.1.size))
      clear HD hq hr hb1
      go_wp2_with fail
      go_roundg (p % g)
      case rel => exact ⟨g, p % g, Nat.le_refl _, HG.out, HR.out, HN.out.2.1, Nat.lt_trans (Nat.mod_lt _ HN.out.2.2.2.2) HN.out.2.1, by rw [← HN.out.2.2.1, Nat.gcd_comm p g, Nat.gcd_rec g p, Nat.gcd_comm], HB1.out⟩
      case measure => have := Nat.mod_lt p HN.out.2.2.2.2; omega
    · have hg0 : g = 0 := by
        have : lb = [] := List.eq_nil_of_length_eq_zero (by omega)
        subst this
        rw [← eb]; rfl
      subst hg0
      clear hgg
      rw [Nat.gcd_zero_right] at hgcd
      have HMK := Lib.hid (make1_any false hp)
      have HN := Lib.hid (And.intro hgcd hbel)
      have hb' := HB0.out.trans (hbel.mono HB0.out.size)
      have k2 := HK2.out.below hbel
      clear hp hg hpb hgb hgcd hbel sb wb nb eb
      go_wp2_with fail
      refine HMK.out.mono ?_
      rintro e w1 ⟨v1, rfl, hv1, hb1⟩
      have hv1 := numv_signed (m := ((Nat.gcd m.natAbs n.natAbs : Nat) : Int)) hv1 (by rw [HN.out.1]; rfl)
      obtain ⟨rb, rao, rk, rcap, rfl, hrb, hrs⟩ := hv1.op
      have k2 := k2.below hb1
      have hs := hb'.trans (hb1.mono hb'.size)
      obtain ⟨WW, hWW⟩ : ∃ WW, (w1.setCell ⟨w.heap.size + 1 + 1, 0, none⟩ (.bool rb)).setCell ⟨w.heap.size + 1 + 1, 1, none⟩ (.slice rao rk rcap) = WW := ⟨_, rfl⟩
      obtain ⟨z0, z1, z2⟩ := ret_num (n := ((Nat.gcd m.natAbs n.natAbs : Nat) : Int)) k2 hrb hrs hs (by omega) hWW
      have d0 := k2.c0
      have d1 := k2.c1
      have f0 := k2.f 0
      have f1 := k2.f 1
      have HZ := Lib.hid z2
      clear z2 hv1 hrs hs hb1 k2 hrb HMK hb'
      go_wp2_with fail
      exact bodyPost_ret (v := .agg #[.bool rb, .slice rao rk rcap]) (by simp [results, Tryz.results93, go_sem, z0, z1]) rfl HZ.out
end Go.Proofs.YtekghemhccfhkaaGreatDoor
namespace Go.Proofs.YtekghemhccfhkaaGreatDoor
open Go.RowKit Go.Big
theorem ret_rat {w w3 : World} {g : Nat} {b0 b b0' : Bool} {s0 s0' : Value} {ao ao' : Option Addr} {k k' cap cap' : Nat} {q : Rat} (kk : N4 g b0 s0 b0' s0' w3) (hb : b = decide (q.num < 0)) (h : NatV w3 .u32 B32 (.slice ao k cap) q.num.natAbs) (h' : NatV w3 .u32 B32 (.slice ao' k' cap') (dn q.den))
    (s3 : Below w.heap.size w w3) (hg : w.heap.size ≤ g) {W : World} (hW : (((w3.setCell ⟨g, 0, none⟩ (.bool b)).setCell ⟨g, 1, none⟩ (.slice ao k cap)).setCell ⟨g, 2, none⟩ (.bool false)).setCell ⟨g, 3, none⟩ (.slice ao' k' cap') = W) :
    W.cell? ⟨g, 0, none⟩ = some (.bool b) ∧ W.cell? ⟨g, 1, none⟩ = some (.slice ao k cap) ∧ W.cell? ⟨g, 2, none⟩ = some (.bool false) ∧ W.cell? ⟨g, 3, none⟩ = some (.slice ao' k' cap') ∧ RetRat w q (.returned (.agg #[.bool b, .slice ao k cap, .bool false, .slice ao' k' cap'])) W := by
  have hW : sn4 w3 g b (.slice ao k cap) false (.slice ao' k' cap') = W := hW
  subst hW
  have k1 := kk.st b h.cb false h'.cb
  exact ⟨k1.c0, k1.c1, k1.c2, k1.c3, _, rfl, ⟨_, _, _, _, _, _, by rw [hb], h.sn4 kk h.cb, h'.sn4 kk h.cb⟩, s3.sn4 hg b _ false _⟩
theorem frac_parts {q : Rat} {n d : Int} (hd : 0 < d) (hq : q.num * d = n * q.den) : q.num = n.tdiv (Nat.gcd n.natAbs d.natAbs : Nat) ∧ (q.den : Int) = d.tdiv (Nat.gcd n.natAbs d.natAbs : Nat) := by
  obtain ⟨e, rfl⟩ := Int.eq_ofNat_of_zero_le (Int.le_of_lt hd)
  rw [Int.natAbs_natCast]
  have h := rat_reduce (q := q) (n := n) (d := e) (by omega) hq
  refine ⟨?_, ?_⟩
  · rw [h.1, Int.tdiv_eq_ediv_of_dvd gcd_dvd_int]
  · rw [h.2]; rfl
set_option maxRecDepth 100000 in
set_option maxHeartbeats 4000000 in
/-- Frac, the second number positive -/
theorem frac_pos {v v' : Value} {n d : Int} {K : Nat} {q : Rat} {w : World} (h : NumV w v n) (h' : NumV w v' d) (hd : 0 < d) (hK : K < 100000) (hm : n.natAbs < B32 ^ K) (hn : d.natAbs < B32 ^ K) (hq : q.num * d = n * q.den) : Calls Tryz.prog 75 #[v, v'] w (RetRat w q) := by
  obtain ⟨nb, na, nk, nc, rfl, e1, h1⟩ := h.op
  obtain ⟨b2, da, dk, dc, rfl, e2, h2⟩ := h'.op
  have hb2 : b2 = false := by rw [e2, decide_eq_false]; omega
  subst hb2
  obtain ⟨w0, hw0, hb0, k0, k1, k2, hz0⟩ := nboxes3 w #[.bool nb, .slice na nk nc] 30 #[.bool false, .slice da dk dc] 30 #[.bool false, .slice none 0 0, .bool false, .slice none 0 0] 32 (cb2 nb h1.cb) (cb2 false h2.cb) (cb4 false cb_nil false cb_nil)
  have k0 : N2 w.heap.size nb (.slice na nk nc) w0 := k0
  have k1 : N2 (w.heap.size + 1) false (.slice da dk dc) w0 := k1
  have k2 : N4 (w.heap.size + 1 + 1) false (.slice none 0 0) false (.slice none 0 0) w0 := k2
  have HG := Lib.hid (ngcd_any (num_of e1 (h1.below hb0)) (num_of e2 (h2.below hb0)) hK hm hn)
  have HP := Lib.hid (frac_parts hd hq)
  have HA := Lib.hid (num_of e1 (h1.below hb0))
  have HB := Lib.hid (num_of e2 (h2.below hb0))
  have HM := Lib.hid (And.intro hK (And.intro hm (And.intro hn hd)))
  have HE := Lib.hid (And.intro e1 e2)
  have HH := Lib.hid (And.intro (h1.below hb0) (h2.below hb0))
  have k0c0 := k0.c0
  have k0c1 := k0.c1
  have k1c0 := k1.c0
  have k1c1 := k1.c1
  clear h h' h1 h2 e1 e2 hz0 hK hm hn hq hd
  go_enter Tryz.func75, Tryz.ntmps75
  go_wp2_with fail
  refine HG.out.mono ?_
  rintro e w1 ⟨v1, rfl, hv1, hb1⟩
  obtain ⟨gb, ga, gk, gc, rfl, hgb, hgs⟩ := hv1.op
  have hgb0 : gb = false := by rw [hgb, decide_eq_false]; omega
  subst hgb0
  obtain ⟨WA, hWA⟩ : ∃ WA, w1.alloc (.cells #[.bool false, .slice none 0 0] 30) = WA := ⟨_, rfl⟩
  have kA : N2 w1.heap.size false (.slice none 0 0) WA := by rw [← hWA]; exact Bb.new w1 30 (cb2 false cb_nil)
  have hbA : Below w1.heap.size w1 WA := by rw [← hWA]; exact (Below.refl _ _).alloc (Nat.le_refl _) _
  obtain ⟨WG, hWG⟩ : ∃ WG, (WA.setCell ⟨w1.heap.size, 0, none⟩ (.bool false)).setCell ⟨w1.heap.size, 1, none⟩ (.slice ga gk gc) = WG := ⟨_, rfl⟩
  have k3 : N2 w1.heap.size false (.slice ga gk gc) WG := by rw [← hWG]; exact kA.st false (Cb.sl _ _ _)
  have hbG : Below w1.heap.size w1 WG := by rw [← hWG]; exact hbA.sn2 (Nat.le_refl _) _ _
  have hb1G : Below w0.heap.size w0 WG := hb1.trans (hbG.mono hb1.size)
  have k0 := k0.below hb1G
  have k1 := k1.below hb1G
  have k2 := k2.below hb1G
  have hs := hb0.trans (hb1G.mono hb0.size)
  have hgz : w.heap.size + 2 < w1.heap.size := by have := hb1.size; have := hw0; have h9 : w0.heap.size = w.heap.size + 3 := by rw [← hw0]; simp
                                                  omega
  obtain ⟨g, hgd⟩ : ∃ g, Nat.gcd n.natAbs d.natAbs = g := ⟨_, rfl⟩
  rw [hgd] at hgb hgs
  rw [hgd] at HP
  have hgs : NatV WG .u32 B32 (.slice ga gk gc) g := by rw [Int.natAbs_natCast] at hgs; exact hgs.below hbG
  have HGS := Lib.hid hgs
  have HHG := Lib.hid (And.intro (HH.out.1.below hb1G) (HH.out.2.below hb1G))
  have HGD := Lib.hid hgd
  have HBT := Lib.hid (nbits_any (num_of (n := (g : Int)) (show false = decide ((g : Int) < 0) by rw [decide_eq_false]; omega) (by rw [Int.natAbs_natCast]; exact hgs)))
  have kAc0 := kA.c0
  have kAc1 := kA.c1
  have kAf0 := kA.f 0
  have kAf1 := kA.f 1
  have k3c0 := k3.c0
  have k3c1 := k3.c1
  clear HG hv1 hgb hgs hgd HH hb1 hbA hbG hb1G kA hb0 HA HB
  clear k0c0 k0c1 k1c0 k1c1
  go_wp2_with fail
  refine HBT.out.mono ?_
  rintro e w5 ⟨kg, rfl, hkg, hb5⟩
  rw [Int.natAbs_natCast] at hkg
  have k0 := k0.below hb5
  have k1 := k1.below hb5
  have k2 := k2.below hb5
  have k3 := k3.below hb5
  have hs := hs.trans (hb5.mono hs.size)
  have HGS := Lib.hid (HGS.out.below hb5)
  have HHG := Lib.hid (And.intro (HHG.out.1.below hb5) (HHG.out.2.below hb5))
  clear k3c0 k3c1 kAc0 kAc1
  clear kAf0 kAf1
  clear HBT hb5
  have hgpos : 0 < g := by rw [← HGD.out]; exact Nat.gcd_pos_of_pos_right _ (by have := HM.out.2.2.2; omega)
  by_cases hg1 : 1 < g
  · have h1 : decide ((1 : Int) < (kg : Int)) = true := decide_eq_true (by have := hkg.many.2 hg1; omega)
    have hgb : g < B32 ^ K := Nat.lt_of_le_of_lt (by rw [← HGD.out]; exact Nat.le_of_dvd (by have := HM.out.2.2.2; omega) (Nat.gcd_dvd_right _ _)) HM.out.2.2.1
    have HQ1 := Lib.hid (nquoRem_any (num_of HE.out.1 HHG.out.1) (num_of (n := (g : Int)) (show false = decide ((g : Int) < 0) by rw [decide_eq_false]; omega) (by rw [Int.natAbs_natCast]; exact HGS.out)) (by omega) HM.out.1 HM.out.2.1)
    have k0c0 := k0.c0
    have k0c1 := k0.c1
    have k3c0 := k3.c0
    have k3c1 := k3.c1
    clear hkg hg1 hgb
    go_wp2_with fail
    refine HQ1.out.mono ?_
    rintro e w6 ⟨vq, vr, rfl, hq1, hr1, hb6⟩
    obtain ⟨mb, ma, mk, mc, rfl, hmb, hms⟩ := hq1.op
    obtain ⟨xb, xa, xk, xc, rfl, _, _⟩ := hr1.op
    have k0 := k0.below hb6
    have k1 := k1.below hb6
    have k2 := k2.below hb6
    have k3 := k3.below hb6
    have hs := hs.trans (hb6.mono hs.size)
    obtain ⟨W6, hW6⟩ : ∃ W6, (w6.setCell ⟨w.heap.size, 0, none⟩ (.bool mb)).setCell ⟨w.heap.size, 1, none⟩ (.slice ma mk mc) = W6 := ⟨_, rfl⟩
    have HNB : Hid (mb = decide (q.num < 0)) := by rw [HP.out.1]; exact hmb
    have hmsW : NatV W6 .u32 B32 (.slice ma mk mc) q.num.natAbs := by rw [HP.out.1, ← hW6]; exact hms.sn2 k0 hms.cb
    have hdW : NatV W6 .u32 B32 (.slice da dk dc) d.natAbs := by rw [← hW6]; exact (HHG.out.2.below hb6).sn2 k0 hms.cb
    have hgW : NatV W6 .u32 B32 (.slice ga gk gc) g := by rw [← hW6]; exact (HGS.out.below hb6).sn2 k0 hms.cb
    have j0 : N2 w.heap.size mb (.slice ma mk mc) W6 := by rw [← hW6]; exact k0.st mb hms.cb
    have j1 : N2 (w.heap.size + 1) false (.slice da dk dc) W6 := by rw [← hW6]; exact k1.o2 (by omega) _ _
    have j2 : N4 (w.heap.size + 1 + 1) false (.slice none 0 0) false (.slice none 0 0) W6 := by rw [← hW6]; exact k2.o2 (by omega) _ _
    have j3 : N2 w1.heap.size false (.slice ga gk gc) W6 := by rw [← hW6]; exact k3.o2 (by omega) _ _
    have hs6 : Below w.heap.size w W6 := by rw [← hW6]; exact hs.sn2 (Nat.le_refl _) _ _
    have HNN := Lib.hid hmsW
    have HQ2 := Lib.hid (nquoRem_any (num_of HE.out.2 hdW) (num_of (n := (g : Int)) (show false = decide ((g : Int) < 0) by rw [decide_eq_false]; omega) (by rw [Int.natAbs_natCast]; exact hgW)) (by omega) HM.out.1 HM.out.2.2.1)
    have HJ := Lib.hid (And.intro j0 (And.intro j1 (And.intro j2 (And.intro j3 hs6))))
    have y0c0 := k0.c0
    have y0f0 := k0.f 0
    have y0c1 := k0.c1
    have y0f1 := k0.f 1
    have y1c0 := j1.c0
    have y1c1 := j1.c1
    have y3c0 := j3.c0
    have y3c1 := j3.c1
    clear HQ1 hq1 hr1 hms hmb hmsW hdW hgW hb6 k0 k1 k2 k3 hs j0 j1 j2 j3 hs6 k0c0 k0c1 k3c0 k3c1 HHG HGS
    go_wp2_with fail
    refine HQ2.out.mono ?_
    rintro e w7 ⟨vq2, vr2, rfl, hq2, hr2, hb7⟩
    obtain ⟨ob, oa, ok, oc, rfl, hob, hos⟩ := hq2.op
    obtain ⟨ub, ua, uk, uc, rfl, _, _⟩ := hr2.op
    have hob0 : ob = false := by rw [hob, decide_eq_false]; rw [← HP.out.2]; omega
    subst hob0
    have k0 := HJ.out.1.below hb7
    have k1 := HJ.out.2.1.below hb7
    have k2 := HJ.out.2.2.1.below hb7
    have hs := HJ.out.2.2.2.2.trans (hb7.mono HJ.out.2.2.2.2.size)
    obtain ⟨W7, hW7⟩ : ∃ W7, (w7.setCell ⟨w.heap.size + 1, 0, none⟩ (.bool false)).setCell ⟨w.heap.size + 1, 1, none⟩ (.slice oa ok oc) = W7 := ⟨_, rfl⟩
    have hoD : NatV W7 .u32 B32 (.slice oa ok oc) q.den := by
      have h9 : (d.tdiv (g : Int)).natAbs = q.den := by rw [← HP.out.2, Int.natAbs_natCast]
      rw [← h9, ← hW7]; exact hos.sn2 k1 hos.cb
    have hnD : NatV W7 .u32 B32 (.slice ma mk mc) q.num.natAbs := by rw [← hW7]; exact (HNN.out.below hb7).sn2 k1 hos.cb
    have j0 : N2 w.heap.size mb (.slice ma mk mc) W7 := by rw [← hW7]; exact k0.o2 (by omega) _ _
    have j1 : N2 (w.heap.size + 1) false (.slice oa ok oc) W7 := by rw [← hW7]; exact k1.st false hos.cb
    have j2 : N4 (w.heap.size + 1 + 1) false (.slice none 0 0) false (.slice none 0 0) W7 := by rw [← hW7]; exact k2.o2 (by omega) _ _
    have hs7 : Below w.heap.size w W7 := by rw [← hW7]; exact hs.sn2 (by omega) _ _
    have HNN := Lib.hid hnD
    have HDD := Lib.hid hoD
    have y1d0 := k1.c0
    have y1d1 := k1.c1
    have y1f0 := k1.f 0
    have y1f1 := k1.f 1
    clear HQ2 hq2 hr2 hos hob hoD hnD hb7 k0 k1 k2 hs HJ y0c0 y0c1 y0f0 y0f1 y1c0 y1c1 y3c0 y3c1 hW6
    have k0 := j0
    have k1 := j1
    have k2 := j2
    have hs := hs7
    clear j0 j1 j2 hs7
    have HBD := Lib.hid (nbits_any (num_of (n := (q.den : Int)) (show false = decide ((q.den : Int) < 0) by rw [decide_eq_false]; omega) (by rw [Int.natAbs_natCast]; exact HDD.out)))
    have k1c0 := k1.c0
    have k1c1 := k1.c1
    go_wp2_with fail
    refine HBD.out.mono ?_
    rintro e w8 ⟨kb, rfl, hkb, hb8⟩
    rw [Int.natAbs_natCast] at hkb
    have k0 := k0.below hb8
    have k1 := k1.below hb8
    have k2 := k2.below hb8
    have hs8 := hs.trans (hb8.mono hs.size)
    have HNN := Lib.hid (HNN.out.below hb8)
    have HDD := Lib.hid (HDD.out.below hb8)
    clear HBD hb8 hs
    clear k1c0 k1c1
    by_cases hd1 : q.den = 1
    · have h1 : ((kb : Int) == 1) = true := by rw [beq_iff_eq]; have := hkb.one.2 hd1; omega
      obtain ⟨W8, hW8⟩ : ∃ W8, (w8.setCell ⟨w.heap.size + 1, 0, none⟩ (.bool false)).setCell ⟨w.heap.size + 1, 1, none⟩ (.slice none 0 0) = W8 := ⟨_, rfl⟩
      have j0 : N2 w.heap.size mb (.slice ma mk mc) W8 := by rw [← hW8]; exact k0.o2 (by omega) _ _
      have j1 : N2 (w.heap.size + 1) false (.slice none 0 0) W8 := by rw [← hW8]; exact k1.st false cb_nil
      have j2 : N4 (w.heap.size + 1 + 1) false (.slice none 0 0) false (.slice none 0 0) W8 := by rw [← hW8]; exact k2.o2 (by omega) _ _
      have hs9 : Below w.heap.size w W8 := by rw [← hW8]; exact hs8.sn2 (by omega) _ _
      have hN8 : NatV W8 .u32 B32 (.slice ma mk mc) q.num.natAbs := by rw [← hW8]; exact HNN.out.sn2 k1 cb_nil
      obtain ⟨WW, hWW⟩ : ∃ WW, (((W8.setCell ⟨w.heap.size + 1 + 1, 0, none⟩ (.bool mb)).setCell ⟨w.heap.size + 1 + 1, 1, none⟩ (.slice ma mk mc)).setCell ⟨w.heap.size + 1 + 1, 2, none⟩ (.bool false)).setCell ⟨w.heap.size + 1 + 1, 3, none⟩ (.slice none 0 0) = WW := ⟨_, rfl⟩
      obtain ⟨z0, z1, z2, z3, z4⟩ := ret_rat (q := q) j2 HNB.out hN8 (by rw [hd1]; exact mag_nil _) hs9 (by omega) hWW
      have k1c0 := k1.c0
      have k1c1 := k1.c1
      have k1f0 := k1.f 0
      have k1f1 := k1.f 1
      have j0c0 := j0.c0
      have j0c1 := j0.c1
      have j1c0 := j1.c0
      have j1c1 := j1.c1
      have j2c0 := j2.c0
      have j2c1 := j2.c1
      have j2c2 := j2.c2
      have j2c3 := j2.c3
      have j2f0 := j2.f 0
      have j2f1 := j2.f 1
      have j2f2 := j2.f 2
      have j2f3 := j2.f 3
      have HZ := Lib.hid z4
      clear z4 hs8 hs9 hN8 k0 k1 k2 j0 j1 j2 hkb hd1
      go_wp2_with fail
      exact bodyPost_ret (v := .agg #[.bool mb, .slice ma mk mc, .bool false, .slice none 0 0]) (by simp [results, Tryz.results75, go_sem, z0, z1, z2, z3]) rfl HZ.out
    · have h1 : ((kb : Int) == 1) = false := by rw [beq_eq_false_iff_ne]; have := mt hkb.one.1 hd1; omega
      have hdn : dn q.den = q.den := if_neg hd1
      obtain ⟨WW, hWW⟩ : ∃ WW, (((w8.setCell ⟨w.heap.size + 1 + 1, 0, none⟩ (.bool mb)).setCell ⟨w.heap.size + 1 + 1, 1, none⟩ (.slice ma mk mc)).setCell ⟨w.heap.size + 1 + 1, 2, none⟩ (.bool false)).setCell ⟨w.heap.size + 1 + 1, 3, none⟩ (.slice oa ok oc) = WW := ⟨_, rfl⟩
      obtain ⟨z0, z1, z2, z3, z4⟩ := ret_rat (q := q) k2 HNB.out HNN.out (by rw [hdn]; exact HDD.out) hs8 (by omega) hWW
      have k0c0 := k0.c0
      have k0c1 := k0.c1
      have k1c0 := k1.c0
      have k1c1 := k1.c1
      have k2c0 := k2.c0
      have k2c1 := k2.c1
      have k2c2 := k2.c2
      have k2c3 := k2.c3
      have k2f0 := k2.f 0
      have k2f1 := k2.f 1
      have k2f2 := k2.f 2
      have k2f3 := k2.f 3
      have HZ := Lib.hid z4
      clear z4 hs8 k0 k1 k2 hkb hd1 hdn
      go_wp2_with fail
      exact bodyPost_ret (v := .agg #[.bool mb, .slice ma mk mc, .bool false, .slice oa ok oc]) (by simp [results, Tryz.results75, go_sem, z0, z1, z2, z3]) rfl HZ.out
  · have h1 : decide ((1 : Int) < (kg : Int)) = false := decide_eq_false (by have := mt hkg.many.1 hg1; omega)
    have hg1' : g = 1 := by omega
    have HP2 : Hid (q.num = n ∧ (q.den : Int) = d) := by
      have := HP.out
      rw [hg1'] at this
      rw [this.1, this.2]; exact ⟨Int.tdiv_one _, Int.tdiv_one _⟩
    have HNB : Hid (nb = decide (q.num < 0)) := by rw [HP2.out.1]; exact HE.out.1
    have HNN := Lib.hid (show NatV w5 .u32 B32 (.slice na nk nc) q.num.natAbs from by rw [HP2.out.1]; exact HHG.out.1)
    have HDD := Lib.hid (show NatV w5 .u32 B32 (.slice da dk dc) q.den from by rw [show q.den = d.natAbs by have := HP2.out.2; omega]; exact HHG.out.2)
    clear hkg hg1 hg1' hgpos k3 HGS HHG
    have HBD := Lib.hid (nbits_any (num_of (n := (q.den : Int)) (show false = decide ((q.den : Int) < 0) by rw [decide_eq_false]; omega) (by rw [Int.natAbs_natCast]; exact HDD.out)))
    have k1c0 := k1.c0
    have k1c1 := k1.c1
    go_wp2_with fail
    refine HBD.out.mono ?_
    rintro e w8 ⟨kb, rfl, hkb, hb8⟩
    rw [Int.natAbs_natCast] at hkb
    have k0 := k0.below hb8
    have k1 := k1.below hb8
    have k2 := k2.below hb8
    have hs8 := hs.trans (hb8.mono hs.size)
    have HNN := Lib.hid (HNN.out.below hb8)
    have HDD := Lib.hid (HDD.out.below hb8)
    clear HBD hb8 hs
    clear k1c0 k1c1
    by_cases hd1 : q.den = 1
    · have h1 : ((kb : Int) == 1) = true := by rw [beq_iff_eq]; have := hkb.one.2 hd1; omega
      obtain ⟨W8, hW8⟩ : ∃ W8, (w8.setCell ⟨w.heap.size + 1, 0, none⟩ (.bool false)).setCell ⟨w.heap.size + 1, 1, none⟩ (.slice none 0 0) = W8 := ⟨_, rfl⟩
      have j0 : N2 w.heap.size nb (.slice na nk nc) W8 := by rw [← hW8]; exact k0.o2 (by omega) _ _
      have j1 : N2 (w.heap.size + 1) false (.slice none 0 0) W8 := by rw [← hW8]; exact k1.st false cb_nil
      have j2 : N4 (w.heap.size + 1 + 1) false (.slice none 0 0) false (.slice none 0 0) W8 := by rw [← hW8]; exact k2.o2 (by omega) _ _
      have hs9 : Below w.heap.size w W8 := by rw [← hW8]; exact hs8.sn2 (by omega) _ _
      have hN8 : NatV W8 .u32 B32 (.slice na nk nc) q.num.natAbs := by rw [← hW8]; exact HNN.out.sn2 k1 cb_nil
      obtain ⟨WW, hWW⟩ : ∃ WW, (((W8.setCell ⟨w.heap.size + 1 + 1, 0, none⟩ (.bool nb)).setCell ⟨w.heap.size + 1 + 1, 1, none⟩ (.slice na nk nc)).setCell ⟨w.heap.size + 1 + 1, 2, none⟩ (.bool false)).setCell ⟨w.heap.size + 1 + 1, 3, none⟩ (.slice none 0 0) = WW := ⟨_, rfl⟩
      obtain ⟨z0, z1, z2, z3, z4⟩ := ret_rat (q := q) j2 HNB.out hN8 (by rw [hd1]; exact mag_nil _) hs9 (by omega) hWW
      have k1c0 := k1.c0
      have k1c1 := k1.c1
      have k1f0 := k1.f 0
      have k1f1 := k1.f 1
      have j0c0 := j0.c0
      have j0c1 := j0.c1
      have j1c0 := j1.c0
      have j1c1 := j1.c1
      have j2c0 := j2.c0
      have j2c1 := j2.c1
      have j2c2 := j2.c2
      have j2c3 := j2.c3
      have j2f0 := j2.f 0
      have j2f1 := j2.f 1
      have j2f2 := j2.f 2
      have j2f3 := j2.f 3
      have HZ := Lib.hid z4
      clear z4 hs8 hs9 hN8 k0 k1 k2 j0 j1 j2 hkb hd1
      go_wp2_with fail
      exact bodyPost_ret (v := .agg #[.bool nb, .slice na nk nc, .bool false, .slice none 0 0]) (by simp [results, Tryz.results75, go_sem, z0, z1, z2, z3]) rfl HZ.out
    · have h1 : ((kb : Int) == 1) = false := by rw [beq_eq_false_iff_ne]; have := mt hkb.one.1 hd1; omega
      have hdn : dn q.den = q.den := if_neg hd1
      obtain ⟨WW, hWW⟩ : ∃ WW, (((w8.setCell ⟨w.heap.size + 1 + 1, 0, none⟩ (.bool nb)).setCell ⟨w.heap.size + 1 + 1, 1, none⟩ (.slice na nk nc)).setCell ⟨w.heap.size + 1 + 1, 2, none⟩ (.bool false)).setCell ⟨w.heap.size + 1 + 1, 3, none⟩ (.slice da dk dc) = WW := ⟨_, rfl⟩
      obtain ⟨z0, z1, z2, z3, z4⟩ := ret_rat (q := q) k2 HNB.out HNN.out (by rw [hdn]; exact HDD.out) hs8 (by omega) hWW
      have k0c0 := k0.c0
      have k0c1 := k0.c1
      have k1c0 := k1.c0
      have k1c1 := k1.c1
      have k2c0 := k2.c0
      have k2c1 := k2.c1
      have k2c2 := k2.c2
      have k2c3 := k2.c3
      have k2f0 := k2.f 0
      have k2f1 := k2.f 1
      have k2f2 := k2.f 2
      have k2f3 := k2.f 3
      have HZ := Lib.hid z4
      clear z4 hs8 k0 k1 k2 hkb hd1 hdn
      go_wp2_with fail
      exact bodyPost_ret (v := .agg #[.bool nb, .slice na nk nc, .bool false, .slice da dk dc]) (by simp [results, Tryz.results75, go_sem, z0, z1, z2, z3]) rfl HZ.out
end Go.Proofs.YtekghemhccfhkaaGreatDoor
namespace Go.Big
open Go Go.RowKit
/-- Numerator and denominator have at most K words of 32 bits. -/
def Sn (K : Nat) (q : Rat) : Prop := q.num.natAbs < B32 ^ K ∧ q.den < B32 ^ K
end Go.Big
namespace Go.Proofs.YtekghemhccfhkaaGreatDoor
open Go.RowKit Go.Big
end Go.Proofs.YtekghemhccfhkaaGreatDoor
namespace Go.Big
open Go Go.RowKit
end Go.Big
namespace Go.Proofs.YtekghemhccfhkaaGreatDoor
open Go.RowKit Go.Big
end Go.Proofs.YtekghemhccfhkaaGreatDoor
namespace Go.Proofs.YtekghemhccfhkaaGreatDoor
open Go.RowKit Go.Big
end Go.Proofs.YtekghemhccfhkaaGreatDoor
namespace Go.Proofs.YtekghemhccfhkaaGreatDoor
open Go.RowKit Go.Big
end Go.Proofs.YtekghemhccfhkaaGreatDoor
namespace Go.Proofs.YtekghemhccfhkaaGreatDoor
open Go.RowKit Go.Big
end Go.Proofs.YtekghemhccfhkaaGreatDoor
namespace Go.Big
open Go Go.RowKit
end Go.Big
namespace Go.Proofs.YtekghemhccfhkaaGreatDoor
open Go.RowKit Go.Big
end Go.Proofs.YtekghemhccfhkaaGreatDoor
namespace Go.Big
open Go Go.RowKit
/-- What the inner loop has read behind i: k digits. -/
theorem fd_step {L : List UInt8} {i k : Nat} (h : i + k < L.length) : dec ((L.drop i).take (k + 1)) = dec ((L.drop i).take k) * 10 + (L[i + k].toNat - 48) := by
  rw [dec_take _ _ (by rw [List.length_drop]; omega)]
  simp
theorem fd_join (L : List UInt8) (i k : Nat) (h : i + k ≤ L.length) : dec (L.take (i + k)) = dec (L.take i) * 10 ^ k + dec ((L.drop i).take k) := by
  rw [List.take_add, dec_append, List.length_take, List.length_drop, Nat.min_eq_left (by omega)]
theorem fd_lt {L : List UInt8} {i k : Nat} (h : Dig (L.take (i + k))) : dec ((L.drop i).take k) < 10 ^ k := by
  rw [List.take_add] at h
  refine Nat.lt_of_lt_of_le (dec_lt (fun b hb => h b (List.mem_append_right _ hb))) (Nat.pow_le_pow_right (by decide) ?_)
  rw [List.length_take]; omega
theorem pow_k9 {k : Nat} (h : k ≤ 9) : 10 ^ k ≤ 1000000000 := Nat.pow_le_pow_right (n := 10) (by decide) h
theorem nz_one {x : Nat} (h : 0 < x) : Nz [x] := by
  intro e
  simp at e ⊢
  omega
theorem one_b32 (n : Nat) : 4294967296 ≤ B32 ^ (n + 1) := by
  rw [Nat.pow_succ]; exact Nat.le_mul_of_pos_left _ (Nat.pow_pos (by decide))
theorem dec_b32 {L : List UInt8} (h : Dig L) {n : Nat} (hn : L.length ≤ n) : dec L < B32 ^ n :=
  Nat.lt_of_lt_of_le (dec_lt h) (Nat.le_trans (Nat.pow_le_pow_left (show 10 ≤ B32 by decide) _) (Nat.pow_le_pow_right (by decide) hn))
end Go.Big
namespace Go.Proofs.YtekghemhccfhkaaGreatDoor
open Go.RowKit Go.Big
def NfdPost (s : ByteArray) (w : World) (e : Ending) (w' : World) : Prop :=
  ∃ (v : Value) (b : Bool) (n : Int), e = .returned (.tuple #[v, .bool b]) ∧ (b = true ↔ Dig s.data.toList ∧ 0 < s.size) ∧ NumV w' v n ∧ (b = true → n = (dec s.data.toList : Nat)) ∧ Below w.heap.size w w'
set_option maxRecDepth 100000 in
set_option maxHeartbeats 4000000 in
/-- FromDigits -/
theorem nfromDigits_any (s : ByteArray) (hl : s.size ≤ 1000000) (w : World) : Calls Tryz.prog 70 #[.string s] w (NfdPost s w) := by
  obtain ⟨w0, hw0, hb0, k0, hz0⟩ := nbox1 w #[.bool false, .slice none 0 0] 30 (cb2 false cb_nil)
  have k0 : N2 w.heap.size false (.slice none 0 0) w0 := k0
  have hsz : s.data.toList.length = s.size := (Lib.size_eq s).symm
  have HS := Lib.hid (And.intro hsz hl)
  have HK := Lib.hid (And.intro k0 hb0)
  clear hsz k0 hz0 hb0
  go_enter Tryz.func70, Tryz.ntmps70
  go_wp2_with fail
  go_loopw [4, 5] (fun x y wr => ∃ i : Nat, i ≤ s.size ∧ y = .int .i64 i ∧ Hid (Dig (s.data.toList.take i)) ∧ NatV wr .u32 B32 x (dec (s.data.toList.take i)) ∧ Below w0.heap.size w0 wr) (fun _ y _ => s.size - (intOf y).toNat)
  case atStart => exact ⟨0, by omega, rfl, Lib.hid (fun b hb => by simp at hb), mag_nil _, Below.refl _ _⟩
  case round =>
    obtain ⟨i, hi, rfl, hdig, hM, hbel⟩ := hrel
    have HM := Lib.hid (And.intro hM hbel)
    obtain ⟨ao, cap, l, rfl, hlm, _, _, _⟩ := hM
    have hlm := hlm.len_le
    clear hbel
    by_cases h : i < s.size
    · go_wp2_with fail
      go_loopw [5, 6, 7, 8] (fun y v f k wx => wr = wx ∧ ∃ kn p dv fv : Nat, p ≤ s.size ∧ kn ≤ 9 ∧ y = .int .i64 (p : Nat) ∧ k = .int .i64 kn ∧ f = .int .u32 (fv : Nat) ∧ v = .int .u32 (dv : Nat) ∧ Hid (i + kn = p ∧ 10 ^ kn = fv ∧ dec ((s.data.toList.drop i).take kn) = dv ∧ Dig (s.data.toList.take p))) (fun _ _ _ k _ => 9 - (intOf k).toNat)
      case atStart => exact ⟨rfl, 0, i, 0, 1, hi, by omega, rfl, rfl, rfl, rfl, Lib.hid ⟨rfl, rfl, rfl, hdig.out⟩⟩
      case round =>
        obtain ⟨rfl, kn, p, dv, fv, hp, hk9, rfl, rfl, rfl, rfl, HI⟩ := hrel
        have HKX := Lib.hid (And.intro (HK.out.1.below HM.out.2) (HK.out.2.trans (HM.out.2.mono HK.out.2.size)))
        by_cases hA : kn < 9 ∧ p < s.size
        · obtain ⟨hk, hps⟩ := hA
          have hdt := fd_step (L := s.data.toList) (i := i) (k := kn) (by have := HS.out.1; have := HI.out.1; omega)
          have hb : s[p] = s.data.toList[p]'(by have := HS.out.1; omega) := by simp [ByteArray.getElem_eq_getElem_data]
          have hmem : s[p] ∈ s.data.toList := by rw [hb]; exact List.getElem_mem _
          have hnext : 48 ≤ s[p].toNat ∧ s[p].toNat ≤ 57 → Dig (s.data.toList.take (p + 1)) := by
            intro hc b hbm
            rw [List.take_succ_eq_append_getElem (by have := HS.out.1; omega), ← hb] at hbm
            rcases List.mem_append.1 hbm with h1 | h1
            · exact HI.out.2.2.2 b h1
            · rw [List.mem_singleton.1 h1]; exact hc
          simp only [HI.out.1, HI.out.2.2.1] at hdt
          rw [← hb] at hdt
          obtain ⟨c, hc⟩ : ∃ c, s[p].toNat = c := ⟨_, rfl⟩
          have hci : ((s[p].toNat : Nat) : Int) = (c : Int) := by rw [hc]
          rw [hc] at hdt hnext
          have HC := Lib.hid hc
          have HMEM := Lib.hid hmem
          have HDT := Lib.hid hdt
          have HN := Lib.hid hnext
          have hdv : dv < 1000000000 := by
            rw [← HI.out.2.2.1]
            exact Nat.lt_of_lt_of_le (fd_lt (by rw [HI.out.1]; exact HI.out.2.2.2)) (pow_k9 (by omega))
          have hdv9 : dv * 10 < 1000000000 := by
            have h9 : dv < 10 ^ kn := by rw [← HI.out.2.2.1]; exact fd_lt (by rw [HI.out.1]; exact HI.out.2.2.2)
            have h8 : 10 ^ (kn + 1) ≤ 1000000000 := pow_k9 (by omega)
            rw [Nat.pow_succ] at h8; omega
          have hfv : fv * 10 ≤ 1000000000 := by
            have h8 : 10 ^ (kn + 1) ≤ 1000000000 := pow_k9 (by omega)
            rw [Nat.pow_succ, HI.out.2.1] at h8; omega
          clear hb hmem hnext hdt hc hdv
          by_cases c1 : c < 48
          · clear hdv9 hfv
            obtain ⟨WW, hWW⟩ : ∃ WW, (wr.setCell ⟨w.heap.size, 0, none⟩ (.bool false)).setCell ⟨w.heap.size, 1, none⟩ (.slice none 0 0) = WW := ⟨_, rfl⟩
            obtain ⟨z0, z1, z2⟩ := ret_num (n := 0) HKX.out.1 rfl (mag_nil _) HKX.out.2 (Nat.le_refl _) hWW
            have HZ : Hid (NfdPost s w (.returned (.tuple #[.agg #[.bool false, .slice none 0 0], .bool false])) WW) := by
              obtain ⟨v, hv1, hv2, hv3⟩ := z2
              cases hv1
              exact Lib.hid ⟨_, false, 0, rfl, ⟨fun h => (by cases h), fun h => (by have h1 := h.1 _ HMEM.out; rw [HC.out] at h1; omega)⟩, hv2, fun h => (by cases h), hv3⟩
            have d0 := HKX.out.1.c0
            have d1 := HKX.out.1.c1
            have f0 := HKX.out.1.f 0
            have f1 := HKX.out.1.f 1
            clear z2
            go_wp2_with fail
            exact bodyPost_ret (v := .tuple #[.agg #[.bool false, .slice none 0 0], .bool false]) (by simp [results, Tryz.results70, go_sem, z0, z1]) rfl HZ.out
          · by_cases c2 : 57 < c
            · clear hdv9 hfv
              obtain ⟨WW, hWW⟩ : ∃ WW, (wr.setCell ⟨w.heap.size, 0, none⟩ (.bool false)).setCell ⟨w.heap.size, 1, none⟩ (.slice none 0 0) = WW := ⟨_, rfl⟩
              obtain ⟨z0, z1, z2⟩ := ret_num (n := 0) HKX.out.1 rfl (mag_nil _) HKX.out.2 (Nat.le_refl _) hWW
              have HZ : Hid (NfdPost s w (.returned (.tuple #[.agg #[.bool false, .slice none 0 0], .bool false])) WW) := by
                obtain ⟨v, hv1, hv2, hv3⟩ := z2
                cases hv1
                exact Lib.hid ⟨_, false, 0, rfl, ⟨fun h => (by cases h), fun h => (by have h1 := h.1 _ HMEM.out; rw [HC.out] at h1; omega)⟩, hv2, fun h => (by cases h), hv3⟩
              have d0 := HKX.out.1.c0
              have d1 := HKX.out.1.c1
              have f0 := HKX.out.1.f 0
              have f1 := HKX.out.1.f 1
              clear z2
              go_wp2_with fail
              exact bodyPost_ret (v := .tuple #[.agg #[.bool false, .slice none 0 0], .bool false]) (by simp [results, Tryz.results70, go_sem, z0, z1]) rfl HZ.out
            · obtain ⟨d, hd⟩ : ∃ d, d + 48 = c := ⟨c - 48, by omega⟩
              have hd9 : d ≤ 9 := by omega
              have e1 : IntKind.u8.wrap ((c : Int) - 48) = (d : Int) := by rw [show (c : Int) - 48 = (d : Int) by omega]; show (d : Int) % 256 = d; omega
              have e2 : IntKind.u32.wrap (d : Int) = (d : Int) := by rw [wrap32_nat, Nat.mod_eq_of_lt (by omega)]
              have e3 : IntKind.u32.wrap ((dv : Int) * 10) = ((dv * 10 : Nat) : Int) := by rw [show (dv : Int) * 10 = ((dv * 10 : Nat) : Int) by push_cast; rfl, wrap32_nat, Nat.mod_eq_of_lt (by omega)]
              have e4 : IntKind.u32.wrap ((fv : Int) * 10) = ((fv * 10 : Nat) : Int) := by rw [show (fv : Int) * 10 = ((fv * 10 : Nat) : Int) by push_cast; rfl, wrap32_nat, Nat.mod_eq_of_lt (by omega)]
              go_wp2_with fail
              go_roundw
              case rel => exact ⟨by first | rfl | trivial, kn + 1, p + 1, dv * 10 + d, fv * 10, by omega, by omega, by go_num, by go_num, by go_num, by go_num, Lib.hid ⟨by have := HI.out.1; omega, by rw [Nat.pow_succ, HI.out.2.1], by rw [HDT.out, ← hd, Nat.add_sub_cancel], HN.out (by omega)⟩⟩
              case measure => simp [intOf]; omega
        · have HA := Lib.hid hA
          have HA2 : Hid (0 < kn) := Lib.hid (by
            rcases Nat.eq_zero_or_pos kn with h0 | h0
            · exact absurd ⟨by omega, by have := HI.out.1; omega⟩ hA
            · exact h0)
          have hbA : Below wr.heap.size wr (wr.alloc (.cells (cellsOf .u32 [fv]) 73)) := (Below.refl _ _).alloc (Nat.le_refl _) _
          have HEQ : Hid (dec (s.data.toList.take p) = dec (s.data.toList.take i) * fv + dv ∧ dec (s.data.toList.take i) * fv < B32 ^ (s.size + s.size + 2) ∧ dv < B32 ^ (s.size + s.size + 2) ∧ Wd B32 [dv] ∧ fv < 4294967296 ∧ 0 < fv) := Lib.hid (by
            have h1 := fd_join s.data.toList i kn (by have := HS.out.1; have := HI.out.1; omega)
            rw [HI.out.1, HI.out.2.1, HI.out.2.2.1] at h1
            have h2 : dv < fv := by rw [← HI.out.2.1, ← HI.out.2.2.1]; exact fd_lt (by rw [HI.out.1]; exact HI.out.2.2.2)
            have h3 : fv ≤ 1000000000 := by rw [← HI.out.2.1]; exact pow_k9 hk9
            have h4 := dec_b32 HI.out.2.2.2 (n := s.size + s.size + 2) (by rw [List.length_take]; have := HS.out.1; omega)
            exact ⟨h1, by omega, by omega, by intro y hy; rw [List.mem_singleton.1 hy]; show dv < 4294967296; omega, by omega, by omega⟩)
          have hF : NatV (wr.alloc (.cells (cellsOf .u32 [fv]) 73)) .u32 B32 (.slice (some ⟨wr.heap.size, 0, none⟩) 1 1) fv :=
            ⟨_, 1, [fv], rfl, (isRow_alloc wr 73 .u32 [fv]).sl (by simp) (by simp), by intro y hy; rw [List.mem_singleton.1 hy]; exact HEQ.out.2.2.2.2.1, nz_one HEQ.out.2.2.2.2.2, by simp [val]⟩
          have HMU := Lib.hid (mulMag_any (K := s.size + 1) (HM.out.1.below hbA) hF (by have := HS.out.2; omega) (dec_b32 hdig.out (by rw [List.length_take]; have := HS.out.1; omega)) (Nat.lt_of_lt_of_le HEQ.out.2.2.2.2.1 (one_b32 _)))
          have HB0 := Lib.hid (HM.out.2.trans (hbA.mono HM.out.2.size))
          clear hF hbA
          by_cases hk : kn < 9
          · have hps : ¬ p < s.size := fun h => hA ⟨hk, h⟩
            clear hA
            go_wp2_with fail
            refine HMU.out.mono ?_
            rintro e w1 ⟨v1, rfl, hv1, hb1⟩
            have hr2 := isRow_alloc w1 73 .u32 [dv]
            have hsl2 := hr2.sl (cap := 1) (by simp) (by simp)
            have hbB : Below w1.heap.size w1 (w1.alloc (.cells (cellsOf .u32 [dv]) 73)) := (Below.refl _ _).alloc (Nat.le_refl _) _
            have HTR := Lib.hid (ntrim_at (n := 1) hsl2 rfl)
            have HSL := Lib.hid (And.intro hsl2 (And.intro (hv1.below hbB) ((hb1.trans (hbB.mono hb1.size)))))
            clear HMU hr2 hsl2 hbB hv1 hb1
            go_wp2_with fail
            refine HTR.out.mono ?_
            intro e w2 ht
            obtain ⟨v2, rfl, hv2, hb2⟩ := ntrim_ret (w0 := w1.alloc (.cells (cellsOf .u32 [dv]) 73)) (n := dv) HSL.out.1 HEQ.out.2.2.2.1 (by simp [val]) (Below.refl _ _) ht
            have HAD := Lib.hid (addMag_any (K := s.size + s.size + 2) (HSL.out.2.1.below hb2) hv2 (by have := HS.out.2; omega) HEQ.out.2.1 HEQ.out.2.2.1)
            have HB2 := Lib.hid (HSL.out.2.2.trans (hb2.mono HSL.out.2.2.size))
            clear HTR HSL hv2 hb2 ht
            go_wp2_with fail
            refine HAD.out.mono ?_
            rintro e w3 ⟨v3, rfl, hv3, hb3⟩
            rw [← HEQ.out.1] at hv3
            have HV3 := Lib.hid (And.intro hv3 (HB0.out.trans ((HB2.out.trans (hb3.mono HB2.out.size)).mono HB0.out.size)))
            clear HAD hv3 hb3
            go_wp2_with fail
            go_roundw
            case rel => exact ⟨p, hp, rfl, Lib.hid HI.out.2.2.2, HV3.out.1, HV3.out.2⟩
            case measure => simp [intOf]; have := HI.out.1; have := HA2.out; omega
          · clear hA
            go_wp2_with fail
            refine HMU.out.mono ?_
            rintro e w1 ⟨v1, rfl, hv1, hb1⟩
            have hr2 := isRow_alloc w1 73 .u32 [dv]
            have hsl2 := hr2.sl (cap := 1) (by simp) (by simp)
            have hbB : Below w1.heap.size w1 (w1.alloc (.cells (cellsOf .u32 [dv]) 73)) := (Below.refl _ _).alloc (Nat.le_refl _) _
            have HTR := Lib.hid (ntrim_at (n := 1) hsl2 rfl)
            have HSL := Lib.hid (And.intro hsl2 (And.intro (hv1.below hbB) ((hb1.trans (hbB.mono hb1.size)))))
            clear HMU hr2 hsl2 hbB hv1 hb1
            go_wp2_with fail
            refine HTR.out.mono ?_
            intro e w2 ht
            obtain ⟨v2, rfl, hv2, hb2⟩ := ntrim_ret (w0 := w1.alloc (.cells (cellsOf .u32 [dv]) 73)) (n := dv) HSL.out.1 HEQ.out.2.2.2.1 (by simp [val]) (Below.refl _ _) ht
            have HAD := Lib.hid (addMag_any (K := s.size + s.size + 2) (HSL.out.2.1.below hb2) hv2 (by have := HS.out.2; omega) HEQ.out.2.1 HEQ.out.2.2.1)
            have HB2 := Lib.hid (HSL.out.2.2.trans (hb2.mono HSL.out.2.2.size))
            clear HTR HSL hv2 hb2 ht
            go_wp2_with fail
            refine HAD.out.mono ?_
            rintro e w3 ⟨v3, rfl, hv3, hb3⟩
            rw [← HEQ.out.1] at hv3
            have HV3 := Lib.hid (And.intro hv3 (HB0.out.trans ((HB2.out.trans (hb3.mono HB2.out.size)).mono HB0.out.size)))
            clear HAD hv3 hb3
            go_wp2_with fail
            go_roundw
            case rel => exact ⟨p, hp, rfl, Lib.hid HI.out.2.2.2, HV3.out.1, HV3.out.2⟩
            case measure => simp [intOf]; have := HI.out.1; have := HA2.out; omega
    · have he : i = s.size := by omega
      have hf : s.data.toList.take i = s.data.toList := List.take_of_length_le (by have := HS.out.1; omega)
      rw [hf] at hdig HM
      have HMK := Lib.hid (make1_any false HM.out.1)
      have HKX := Lib.hid (And.intro (HK.out.1.below HM.out.2) (HK.out.2.trans (HM.out.2.mono HK.out.2.size)))
      clear hf hlm
      subst he
      go_wp2_with fail
      refine HMK.out.mono ?_
      rintro e w1 ⟨v1, rfl, hv1, hb1⟩
      obtain ⟨rb, ra, rk, rc, rfl, hrb, hr1⟩ := hv1.op
      have k2 := HKX.out.1.below hb1
      have hs := HKX.out.2.trans (hb1.mono HKX.out.2.size)
      obtain ⟨WW, hWW⟩ : ∃ WW, (w1.setCell ⟨w.heap.size, 0, none⟩ (.bool rb)).setCell ⟨w.heap.size, 1, none⟩ (.slice ra rk rc) = WW := ⟨_, rfl⟩
      obtain ⟨z0, z1, z2⟩ := ret_num k2 hrb hr1 hs (Nat.le_refl _) hWW
      have d0 := k2.c0
      have d1 := k2.c1
      have f0 := k2.f 0
      have f1 := k2.f 1
      have HZ := Lib.hid z2
      clear z2 hv1 hr1 hs hb1 k2 hrb HMK HKX
      go_wp2_with fail
      obtain ⟨v4, hv4, hv5, hv6⟩ := HZ.out
      cases hv4
      refine bodyPost_ret (v := .tuple #[.agg #[.bool rb, .slice ra rk rc], .bool (!s.toList.isEmpty)]) (by simp [results, Tryz.results70, go_sem, z0, z1]) rfl ⟨_, _, _, rfl, ?_, hv5, fun _ => rfl, hv6⟩
      rw [Lib.toList_data, Bool.not_eq_true', ← Bool.not_eq_true, List.isEmpty_iff_length_eq_zero, HS.out.1]
      exact ⟨fun h => ⟨hdig.out, by omega⟩, fun h => by have := h.2; omega⟩
end Go.Proofs.YtekghemhccfhkaaGreatDoor
namespace Go.Proofs.YtekghemhccfhkaaGreatDoor
open Go.RowKit Go.Big
end Go.Proofs.YtekghemhccfhkaaGreatDoor
