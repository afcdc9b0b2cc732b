/-
  Walks of the program's functions: Gcd.
-/
import Derived.Test.YtekghemhccfhkaaGreatDoorB24
import Derived.Test.YtekghemhccfhkaaGreatDoorB17
import Derived.Test.YtekghemhccfhkaaGreatDoorB27
import Derived.Test.YtekghemhccfhkaaGreatDoorB09
import Derived.Test.YtekghemhccfhkaaGreatDoorB18
namespace Go.Proofs.YtekghemhccfhkaaGreatDoor
open Go.RowKit Go.Big
theorem tabs_below {w w' : World} (h : Tabs w) (hb : Below w.heap.size w w') : Tabs w' := by
  intro j hj
  exact (hb.cell (p := ⟨1, j, none⟩) (World.block_lt_of_cell? w _ (h j hj))).trans (h j hj)
def GcdRel (w : World) (G K g : Nat) (x y : Value) (wr : World) : Prop :=
  ∃ m k, k ≤ g ∧ k ≤ m ∧ m < B64 ^ K ∧ Nat.gcd m k = G ∧ NatV wr .u64 B64 x m ∧ NatV wr .u64 B64 y k ∧ Below w.heap.size w wr
theorem two_words {B : Nat} (hB : 0 < B) {l : List Nat} (hz : Nz l) (h : 2 ≤ l.length) : B ≤ val B l := by
  have h1 := val_ge (B := B) hz (by intro e; simp [e] at h)
  have h2 : B ^ 1 ≤ B ^ (l.length - 1) := Nat.pow_le_pow_right hB (by omega)
  rw [Nat.pow_one] at h2
  omega
/-- What the calls at the end leave. -/
def GePost (w0 : World) (g off x : Nat) (v : Value) (e : Ending) (w1 : World) : Prop := e = .returned v ∧ w1.cell? ⟨g, off, none⟩ = some (.int .u64 x) ∧ Below w0.heap.size w0 w1
theorem ge_same {w0 w1 : World} {g off x : Nat} (hc : w0.cell? ⟨g, off, none⟩ = some (.int .u64 x)) (h : Below w0.heap.size w0 w1) : w1.cell? ⟨g, off, none⟩ = some (.int .u64 x) :=
  (h.cell (p := ⟨g, off, none⟩) (World.block_lt_of_cell? w0 _ hc)).trans hc
theorem ge_rest {va : Value} {m x : Nat} {w0 : World} (ha : NatV w0 .u64 B64 va m) (hx0 : 0 < x) (hx : x < 18446744073709551616) {g off : Nat} (hc : w0.cell? ⟨g, off, none⟩ = some (.int .u64 x)) (w' : World) (h : Below w0.heap.size w0 w') :
    Calls Tryz.prog 166 #[va, .int .u64 x] w' (GePost w0 g off x (.int .u64 (m % x : Nat))) := by
  refine (restByWord_any (ha.below h) hx0 hx).mono ?_
  rintro e w1 ⟨rfl, n, rfl⟩
  have h2 := below_drewN h n
  exact ⟨rfl, ge_same hc h2, h2⟩
theorem ge_gcd {a b x : Nat} {w0 : World} (hT : Tabs w0) (ha : a < 18446744073709551616) (hb : b < 18446744073709551616) {g off : Nat} (hc : w0.cell? ⟨g, off, none⟩ = some (.int .u64 x)) (w' : World) (h : Below w0.heap.size w0 w') :
    Calls Tryz.prog 134 #[.int .u64 a, .int .u64 b] w' (GePost w0 g off x (.int .u64 (Nat.gcd a b))) := by
  refine (gcdWords_any ha hb w' (tabs_below hT h)).mono ?_
  rintro e w1 ⟨rfl, rfl⟩
  exact ⟨rfl, ge_same hc h, h⟩
theorem ge_word {r x : Nat} {w0 : World} (hr : r < B64) {g off : Nat} (hc : w0.cell? ⟨g, off, none⟩ = some (.int .u64 x)) (w' : World) (h : Below w0.heap.size w0 w') :
    Calls Tryz.prog 151 #[.int .u64 r] w' fun e w1 => ∃ v, NatV w1 .u64 B64 v r ∧ GePost w0 g off x v e w1 := by
  refine (fromWord_any r hr w').mono ?_
  rintro e w1 ⟨v, rfl, hv, hb⟩
  have h2 := below_trans h hb
  exact ⟨v, hv, rfl, ge_same hc h2, h2⟩
set_option maxRecDepth 100000 in
set_option maxHeartbeats 1000000 in
/-- gcd -/
theorem gcd_any {va vb : Value} {m k K : Nat} {w : World} (ha : NatV w .u64 B64 va m) (hb : NatV w .u64 B64 vb k) (hT : Tabs w) (hK : K < 239) (hm : m < B64 ^ K) (hk : k < B64 ^ K) :
    Calls Tryz.prog 135 #[va, vb] w (RetNat w (Nat.gcd m k)) := by
  obtain ⟨v, hv⟩ : ∃ v, cmpInt m k = v := ⟨_, rfl⟩
  have HC := Lib.hid (compare_at ha hb hv)
  have HA := Lib.hid ha
  have HBb := Lib.hid hb
  have HM := Lib.hid (And.intro hm hk)
  have HV := Lib.hid hv
  have HT := Lib.hid hT
  obtain ⟨G, hG⟩ : ∃ G, Nat.gcd m k = G := ⟨_, rfl⟩
  rw [hG]
  have HG := Lib.hid hG
  clear ha hb hm hk hv hT hG
  go_enter Tryz.func135, Tryz.ntmps135
  go_upto_if 11 with (go_at_call 155; refine HC.out.mono ?_; rintro e w1 ⟨rfl, hb1⟩)
  have HB1 := Lib.hid hb1
  clear hb1 HC
  go_cut [0, 1] (fun x y wr => ∃ g, GcdRel w G K g x y wr)
  case first =>
    have ha1 := HA.out.below HB1.out
    have hb1 := HBb.out.below HB1.out
    by_cases h : m < k
    · have hv1 : v = -1 := by rw [← HV.out]; exact cmpInt_lt (by omega)
      have HH := Lib.hid (show GcdRel w G K m vb va w1 from ⟨k, m, Nat.le_refl _, by omega, HM.out.2, by rw [Nat.gcd_comm]; exact HG.out, hb1, ha1, HB1.out⟩)
      clear ha1 hb1 h
      subst hv1
      go_wp2_with fail
      go_meet
      exact ⟨_, HH.out⟩
    · have hv1 : 0 ≤ v := by
        have := HV.out
        unfold cmpInt at this
        rw [if_neg (by omega)] at this
        split at this <;> (rw [← this]; decide)
      have HH := Lib.hid (show GcdRel w G K k va vb w1 from ⟨m, k, Nat.le_refl _, by omega, HM.out.1, HG.out, ha1, hb1, HB1.out⟩)
      clear ha1 hb1 h
      go_wp2_with fail
      go_meet
      exact ⟨_, HH.out⟩
  case rest =>
    obtain ⟨g0, hrel0⟩ := hcut
    have HR0 := Lib.hid hrel0
    clear hrel0 HA HBb HM HV HB1 HG
    go_wp2_with fail
    go_loopg [0, 1] g0 (fun g x y wr => GcdRel w G K g x y wr)
    case atStart => exact HR0.out
    case round =>
      clear HR0
      obtain ⟨m, k, hkg, hkm, hm, hG, ha, hb, hbel⟩ := hrel
      obtain ⟨bo, capb, lb, rfl, sb, wb, nb, eb⟩ := hb
      have hlm := sb.len_le
      by_cases h1 : 1 < lb.length
      · have hk64 : B64 ≤ k := by rw [← eb]; exact two_words (by decide) nb h1
        have hb : NatV wr .u64 B64 (.slice bo lb.length capb) k := ⟨bo, capb, lb, rfl, sb, wb, nb, eb⟩
        have HF := Lib.hid (findSteps_any ha hb hkm hk64)
        have HA := Lib.hid ha
        have HB := Lib.hid hb
        have HBel := Lib.hid hbel
        have HN := Lib.hid (And.intro hkg (And.intro hkm (And.intro hm (And.intro hG hk64))))
        clear ha hb hbel sb wb nb eb hkg hkm hm hG hk64
        go_wp2_with fail
        refine HF.out.mono ?_
        rintro e w1 ⟨S, c, aA, bA, aB, bB, x, y, P, Q, rfl, hinv, hcnt, hc, hb1⟩
        have HI := Lib.hid hinv
        have HCN := Lib.hid hcnt
        have HC34 := Lib.hid hc
        have HB1 := Lib.hid hb1
        clear hinv hcnt hc hb1
        have HB2 := Lib.hid (fun o => (HB1.out.alloc HB1.out.size o : Below wr.heap.size wr (w1.alloc o)))
        by_cases h0 : c = 0
        · subst h0
          go_wp2_with fail
          refine (divide_any (HA.out.below (HB2.out _)) (HB.out.below (HB2.out _)) hK HN.out.2.2.1 (Nat.lt_of_le_of_lt HN.out.2.1 HN.out.2.2.1) (by have := HN.out.2.2.2.2; have : (0 : Nat) < B64 := (by decide); omega)).mono ?_
          rintro e w2 ⟨q, r, rfl, hq, hr, hb2⟩
          have HR := Lib.hid hr
          have HB3 := Lib.hid (below_trans (HB2.out _) hb2)
          clear hq hr hb2
          have hk0 : 0 < k := by have := HN.out.2.2.2.2; have : (0 : Nat) < B64 := (by decide); omega
          have hlt := Nat.mod_lt m hk0
          have HLT := Lib.hid hlt
          clear hlt hk0
          go_wp2_with fail
          go_roundg (m % k)
          case rel => exact ⟨k, m % k, Nat.le_refl _, Nat.le_of_lt HLT.out, Nat.lt_of_le_of_lt HN.out.2.1 HN.out.2.2.1, by rw [← HN.out.2.2.2.1, Nat.gcd_comm k, ← Nat.gcd_rec, Nat.gcd_comm], HB.out.below HB3.out, HR.out, below_trans HBel.out HB3.out⟩
          case measure => have := HLT.out; have := HN.out.1; omega
        · have hcp : (0 : Int) < (c : Int) := by omega
          have hprog := Lib.hid (HI.out.prog (by omega))
          go_wp2_with fail
          refine (apply_any (HA.out.below (HB2.out _)) (HB.out.below (HB2.out _)) HI.out HCN.out HC34.out).mono ?_
          rintro e w2 ⟨p, q, rfl, hp, hq, hb2⟩
          have HP := Lib.hid hp
          have HQ := Lib.hid hq
          have HB3 := Lib.hid (below_trans (HB2.out _) hb2)
          clear hp hq hb2
          go_wp2_with fail
          go_roundg Q
          case rel => exact ⟨P, Q, Nat.le_refl _, HI.out.hPQ, Nat.lt_of_le_of_lt HI.out.hPm HN.out.2.2.1, by rw [HI.out.hg]; exact HN.out.2.2.2.1, HP.out, HQ.out, below_trans HBel.out HB3.out⟩
          case measure => have := hprog.out.1; have := HN.out.1; omega
      · by_cases h2 : lb.length = 0
        · have hk0 : k = 0 := by
            have : lb = [] := List.eq_nil_of_length_eq_zero h2
            rw [← eb, this]; rfl
          rw [hk0, Nat.gcd_zero_right] at hG
          have HA := Lib.hid (show RetNat w G (.returned u0) wr from ⟨_, rfl, by rw [← hG]; exact ha, hbel⟩)
          clear ha hbel sb wb nb eb hkg hkm hm hG hk0 h1
          rw [h2]
          go_wp2_with fail
          go_ret
          exact HA.out
        · have h3 : lb.length = 1 := by omega
          obtain ⟨gb, offb, rfl, hgb, hcb⟩ := sb.at (i := 0) (by omega)
          have hc0 := hcb 0 (by omega)
          rw [Nat.add_zero, one_word h3 eb] at hc0
          have hk : k < 18446744073709551616 := by
            have := val_lt wb
            rw [h3, Nat.pow_one, eb] at this
            exact this
          have hk0 : 0 < k := by
            have := val_ge (B := B64) nb (by intro e; simp [e] at h3)
            rw [h3, eb] at this
            simp at this
            omega
          have hlt := Nat.mod_lt m hk0
          have hTw := tabs_below HT.out hbel
          have c1 := ge_rest ha hk0 hk hc0
          have c2 := ge_gcd (a := k) (b := m % k) hTw hk (by omega) hc0
          have hgk : Nat.gcd k (m % k) = G := by rw [← hG, Nat.gcd_comm k, ← Nat.gcd_rec, Nat.gcd_comm]
          rw [hgk] at c2
          have hGk : G < B64 := by
            have := Nat.gcd_le_left (m % k) hk0
            rw [hgk] at this
            exact Nat.lt_of_le_of_lt this hk
          obtain ⟨rr, hrr⟩ : ∃ rr, m % k = rr := ⟨_, rfl⟩
          rw [hrr] at c1 c2
          have C1 := Lib.hid c1
          have C2 := Lib.hid c2
          have C3 := Lib.hid (ge_word hGk hc0)
          have B0 : Hid (Below wr.heap.size wr wr.drew) := Lib.hid (below_drewN (Below.refl wr.heap.size wr) 1)
          have HBel := Lib.hid hbel
          clear hcb sb wb nb eb hkg hkm hm hG hk0 hk hlt hTw hgk hGk hbel ha h1 h2 hlm c1 c2 hrr
          rw [h3]
          go_wp2_with fail
          go_region_held3 (fun w' => w'.cell? ⟨gb, offb, none⟩ = some (.int .u64 k) ∧ Below wr.heap.size wr w')
            (first | exact ⟨hc0, B0.out⟩ | exact ⟨s1, s2⟩ | fail)
            (first | (go_at_call 166; (with_reducible refine (C1.out _ B0.out).mono ?_); rintro e w1 ⟨rfl, s1, s2⟩) | (go_at_call 134; (with_reducible refine (C2.out _ s2).mono ?_); rintro e w2 ⟨rfl, s1, s2⟩) | (go_at_call 151; (with_reducible refine (C3.out _ s2).mono ?_); rintro e w3 ⟨v, hv, rfl, s1, s2⟩) | fail)
          have HF := Lib.hid (show RetNat w G (.returned v) _ from ⟨v, rfl, hv, below_trans HBel.out s2⟩)
          clear s1 s2 hv C1 C2 C3 B0 HBel hc0
          go_wp2_with fail
          go_ret
          exact HF.out
end Go.Proofs.YtekghemhccfhkaaGreatDoor
