/-
  Walks of the program's functions: Root, Power.
-/
import Derived.Test.YtekghemhccfhkaaGreatDoorB16
import Derived.Test.YtekghemhccfhkaaGreatDoorB18
import Derived.Test.YtekghemhccfhkaaGreatDoorB09
import Derived.Test.YtekghemhccfhkaaGreatDoorB19
import Derived.Deep.LoopGhost
import Derived.Test.YtekghemhccfhkaaGreatDoorB13
namespace Go.Big
open Go
theorem isqrt_ex (m : Nat) : ∃ s, s * s ≤ m ∧ m < (s + 1) * (s + 1) := by
  induction m with
  | zero => exact ⟨0, by omega, by omega⟩
  | succ m ih =>
    obtain ⟨s, h1, h2⟩ := ih
    by_cases h : (s + 1) * (s + 1) ≤ m + 1
    · refine ⟨s + 1, h, ?_⟩
      have : (s + 1 + 1) * (s + 1 + 1) = (s + 1) * (s + 1) + 2 * s + 3 := by grind
      omega
    · exact ⟨s, by omega, by omega⟩
theorem am_gm {R d s : Nat} (h : R + d = 2 * s) : R * d ≤ s * s := by
  rcases Nat.le_total R s with h1 | h1
  · obtain ⟨t, rfl⟩ : ∃ t, s = R + t := ⟨s - R, by omega⟩
    obtain rfl : d = R + 2 * t := by omega
    have e : (R + t) * (R + t) = R * (R + 2 * t) + t * t := by grind
    omega
  · obtain ⟨t, rfl⟩ : ∃ t, R = s + t := ⟨R - s, by omega⟩
    obtain rfl : s = d + t := by omega
    have e : (d + t) * (d + t) = (d + t + t) * d + t * t := by grind
    omega
theorem newton_ge {m R s : Nat} (hR : 0 < R) (h : s * s ≤ m) : s ≤ (R + m / R) / 2 := by
  obtain ⟨q, hq⟩ : ∃ q, m / R = q := ⟨_, rfl⟩
  have h1 : m < R * (q + 1) := by rw [← hq]; exact Nat.lt_mul_div_succ m hR
  rw [hq]
  by_cases h2 : R + q < 2 * s
  · obtain ⟨d, hd⟩ : ∃ d, R + d = 2 * s := ⟨2 * s - R, by omega⟩
    have h3 := am_gm hd
    have h4 : R * (q + 1) ≤ R * d := Nat.mul_le_mul_left _ (by omega)
    omega
  · omega
theorem newton_lt {m R s : Nat} (hR : s < R) (h : m < (s + 1) * (s + 1)) : (R + m / R) / 2 < R := by
  have h1 : (s + 1) * (s + 1) ≤ R * R := Nat.mul_le_mul hR hR
  have h2 : m / R < R := Nat.div_lt_of_lt_mul (by omega)
  omega
theorem root_start {m L K s : Nat} (h1 : 2 ^ (L - 1) ≤ m) (h2 : m < 2 ^ L) (hm : m < B64 ^ K) (hs : s * s ≤ m) :
    s ≤ 2 ^ ((L + 1) / 2) ∧ 2 ^ ((L + 1) / 2) < B64 ^ K ∧ (L + 1) / 2 < 64 * K := by
  rw [B64_pow] at hm ⊢
  have hL : L - 1 < 64 * K := (Nat.pow_lt_pow_iff_right (by decide)).1 (Nat.lt_of_le_of_lt h1 hm)
  have hK : 0 < K := by omega
  refine ⟨?_, (Nat.pow_lt_pow_iff_right (by decide)).2 (by omega), by omega⟩
  rcases Nat.lt_or_ge (2 ^ ((L + 1) / 2)) s with h | h
  · have h3 : 2 ^ ((L + 1) / 2) * 2 ^ ((L + 1) / 2) ≤ s * s := Nat.mul_le_mul (Nat.le_of_lt h) (Nat.le_of_lt h)
    rw [← Nat.pow_add] at h3
    have h4 : 2 ^ L ≤ 2 ^ ((L + 1) / 2 + (L + 1) / 2) := Nat.pow_le_pow_right (by decide) (by omega)
    omega
  · exact h
theorem root_word (b : Nat) : B64 ^ (b / 64) * 2 ^ (b % 64) = 2 ^ b := by
  rw [B64_pow, ← Nat.pow_add, Nat.div_add_mod]
end Go.Big
namespace Go.Proofs.YtekghemhccfhkaaGreatDoor
open Go.RowKit Go.Big
theorem natv_word {x : Nat} (h0 : 0 < x) (hx : x < 18446744073709551616) (w : World) :
    NatV (w.alloc (.cells #[.int .u64 x] 71)) .u64 B64 (.slice (some ⟨w.heap.size, 0, none⟩) 1 1) x := by
  have hr0 : isRow (w.alloc (.cells #[.int .u64 x] 71)) w.heap.size 71 .u64 [x] := isRow_alloc w 71 .u64 [x]
  have hs := hr0.sl (cap := 1) (by simp) (by simp)
  exact ⟨_, _, [x], rfl, hs, fun y hy => by simp at hy; subst hy; exact hx, by simp [Nz]; omega, by simp [val]⟩
def RootPost (w : World) (m : Nat) (e : Ending) (w' : World) : Prop := ∃ s v, s * s ≤ m ∧ m < (s + 1) * (s + 1) ∧ e = .returned v ∧ NatV w' .u64 B64 v s ∧ Below w.heap.size w w'
def RootRel (w : World) (s K g : Nat) (x : Value) (wr : World) : Prop := ∃ R, R ≤ g ∧ 0 < R ∧ s ≤ R ∧ R < B64 ^ K ∧ NatV wr .u64 B64 x R ∧ Below w.heap.size w wr
set_option maxRecDepth 100000 in
set_option maxHeartbeats 1000000 in
/-- (natural).root, of a number above 0 -/
theorem root_pos {va : Value} {m K : Nat} {w : World} (ha : NatV w .u64 B64 va m) (hK : K < 238) (hm : m < B64 ^ K) (h0 : 0 < m) :
    Calls Tryz.prog 195 #[va] w (RootPost w m) := by
  obtain ⟨s, hs1, hs2⟩ := isqrt_ex m
  have HL := Lib.hid (bitLen_any ha h0)
  have hlen : ∃ ao cap n, va = .slice ao (n + 1 : Nat) cap ∧ n < 1099511627776 := by
    obtain ⟨ao, capa, la, rfl, sa, wa, za, ea⟩ := ha
    have hne : la ≠ [] := by rintro rfl; rw [← ea] at h0; simp [val] at h0
    have := List.length_pos_iff.2 hne
    have := sa.len_le
    exact ⟨ao, capa, la.length - 1, by congr 1; omega, by omega⟩
  obtain ⟨ao, cap, n, rfl, hn⟩ := hlen
  have HA := Lib.hid ha
  have HM := Lib.hid (And.intro hm (And.intro h0 (And.intro hs1 hs2)))
  clear ha hm h0 hs1 hs2
  go_enter Tryz.func195, Tryz.ntmps195
  go_wp2_with fail
  refine HL.out.mono ?_
  rintro e w1 ⟨L, rfl, rfl, hL1, hL2, hL3, hL4⟩
  obtain ⟨r1, r2, r3⟩ := root_start hL2 hL3 HM.out.1 HM.out.2.2.1
  obtain ⟨b, hb⟩ : ∃ b, (L + 1) / 2 = b := ⟨_, rfl⟩
  rw [hb] at r1 r2 r3
  have HR := Lib.hid (And.intro r1 r2)
  clear r1 r2 hL2 hL3
  have hb2 : ((L : Int) + 1) / 2 = b := by omega
  have hb3 : b ≤ 70368744177664 := by omega
  have HLL := Lib.hid (And.intro hL4 hb)
  clear hb hL4
  obtain ⟨p, hp⟩ : ∃ p, 2 ^ (b % 64) = p := ⟨_, rfl⟩
  have hp0 : 0 < p := by rw [← hp]; exact Nat.pow_pos (by decide)
  have hp1 : p < 18446744073709551616 := by
    rw [← hp]
    exact (Nat.pow_lt_pow_iff_right (a := 2) (m := 64) (by decide)).2 (by omega)
  have hwr : IntKind.u64.wrap ((2 : Int) ^ (b % 64)) = (p : Int) := by
    have e : ((2 : Int) ^ (b % 64)) = (p : Int) := by rw [← hp]; push_cast; rfl
    rw [e, IntKind.wrap_u64]
    omega
  have HP := Lib.hid (And.intro hp (And.intro hp0 hp1))
  clear hp hp0 hp1
  obtain ⟨kk, hkk⟩ : ∃ kk, b / 64 = kk := ⟨_, rfl⟩
  have hkk2 : (b : Int) / 64 = (kk : Int) := by omega
  have HKK := Lib.hid hkk
  clear hkk
  go_wp2_with fail
  have hbel1 : Below w1.heap.size w1 (w1.alloc (.cells #[.int .u64 p] 71)) := (Below.refl _ _).alloc (Nat.le_refl _) _
  refine (join_any (natv_word HP.out.2.1 HP.out.2.2 w1) (natv_nil _) (k := kk) (Nat.pow_pos (by decide)) (by have := HKK.out; omega) 1 (by decide) (by rw [Nat.pow_one]; exact HP.out.2.2)).mono ?_
  rintro e w2 ⟨v, rfl, hv, hb2'⟩
  rw [Nat.zero_add, ← HP.out.1, ← HKK.out, root_word] at hv
  have HV := Lib.hid hv
  have HB := Lib.hid (below_trans hbel1 hb2')
  clear hv hb2' hbel1 hwr
  go_wp2_with fail
  go_loopg [4] (2 ^ b) (fun g x wr => RootRel w1 s K g x wr)
  case atStart => exact ⟨2 ^ b, Nat.le_refl _, Nat.pow_pos (by decide), HR.out.1, HR.out.2, HV.out, HB.out⟩
  case round =>
    clear HV HB HR
    obtain ⟨R, h1, h2, h3, h4, h5, h6⟩ := hrel
    have hA := HA.out.below h6
    have HD := Lib.hid (divide_any (K := K) hA h5 (by omega) HM.out.1 h4 h2)
    have HX := Lib.hid h5
    have HB := Lib.hid h6
    have HRR := Lib.hid (And.intro h1 (And.intro h2 (And.intro h3 h4)))
    clear h1 h2 h3 h4 h5 h6 hA
    go_wp2_with fail
    refine HD.out.mono ?_
    rintro e w3 ⟨q, r, rfl, hq, hr, hb3⟩
    have HX3 := Lib.hid (HX.out.below hb3)
    have HQ := Lib.hid hq
    have HB3 := Lib.hid (below_trans HB.out hb3)
    clear hq hr hb3
    go_wp2_with fail
    refine (plus_any (K := K) HX3.out HQ.out (by omega) HRR.out.2.2.2 (Nat.lt_of_le_of_lt (Nat.div_le_self _ _) HM.out.1)).mono ?_
    rintro e w4 ⟨v4, rfl, hv4, hb4⟩
    have HX4 := Lib.hid (HX3.out.below hb4)
    have HV4 := Lib.hid hv4
    have HB4 := Lib.hid (below_trans HB3.out hb4)
    clear hv4 hb4
    go_wp2_with fail
    refine (shiftRight_any (s := 1) HV4.out (by decide)).mono ?_
    rintro e w5 ⟨v5, rfl, hv5, hb5⟩
    rw [Nat.pow_one] at hv5
    have HX5 := Lib.hid (HX4.out.below hb5)
    have HV5 := Lib.hid hv5
    have HB5 := Lib.hid (below_trans HB4.out hb5)
    clear hv5 hb5
    obtain ⟨N, hN⟩ : ∃ N, (R + m / R) / 2 = N := ⟨_, rfl⟩
    have hge := newton_ge HRR.out.2.1 HM.out.2.2.1
    rw [hN] at HV5 hge
    have HN := Lib.hid hN
    have HGE := Lib.hid hge
    clear hN hge
    by_cases ht : N < R
    · have hc := compare_at HV5.out HX5.out (v := -1) (cmpInt_lt (by omega))
      have HC := Lib.hid hc
      have HT := Lib.hid ht
      clear hc ht
      go_wp2_with fail
      refine HC.out.mono ?_
      rintro e w6 ⟨rfl, hb6⟩
      have HV6 := Lib.hid (HV5.out.below hb6)
      have HB6 := Lib.hid (below_trans HB5.out hb6)
      clear hb6
      go_wp2_with fail
      go_roundg N
      case rel => exact ⟨N, Nat.le_refl _, Nat.lt_of_lt_of_le (by
        rcases Nat.eq_zero_or_pos s with h | h
        · have h1 := HM.out.2.2.2
          rw [h] at h1
          have h2 := HM.out.2.1
          omega
        · exact h) HGE.out, HGE.out, Nat.lt_trans HT.out HRR.out.2.2.2, HV6.out, HB6.out⟩
      case measure => have := HT.out; have := HRR.out.1; omega
    · obtain ⟨v, hv0, hv⟩ : ∃ v : Int, 0 ≤ v ∧ cmpInt N R = v := by
        refine ⟨cmpInt N R, ?_, rfl⟩
        unfold cmpInt
        rw [if_neg (by omega)]
        split <;> decide
      have hc := compare_at HV5.out HX5.out hv
      have HC := Lib.hid hc
      have HT := Lib.hid ht
      clear hc ht hv
      go_wp2_with fail
      refine HC.out.mono ?_
      rintro e w6 ⟨rfl, hb6⟩
      have HX6 := Lib.hid (HX5.out.below hb6)
      have HB6 := Lib.hid (below_trans HB5.out hb6)
      clear hb6
      go_wp2_with fail
      go_ret
      have hs : s = R := by
        rcases Nat.lt_or_ge s R with h | h
        · have := newton_lt h HM.out.2.2.2
          rw [HN.out] at this
          exact absurd this HT.out
        · exact Nat.le_antisymm HRR.out.2.2.1 h
      subst hs
      exact ⟨s, _, HM.out.2.2.1, HM.out.2.2.2, rfl, HX6.out, HB6.out⟩

set_option maxRecDepth 100000 in
set_option maxHeartbeats 1000000 in
theorem root_zero (ao : Option Addr) (cap : Nat) (w : World) : Calls Tryz.prog 195 #[.slice ao 0 cap] w (RootPost w 0) := by
  go_enter Tryz.func195, Tryz.ntmps195
  go_wp2_with fail
  go_ret
  exact ⟨0, _, by omega, by omega, rfl, natv_nil _, Below.refl _ _⟩
/-- (natural).root -/
theorem root_any {va : Value} {m K : Nat} {w : World} (ha : NatV w .u64 B64 va m) (hK : K < 238) (hm : m < B64 ^ K) : Calls Tryz.prog 195 #[va] w (RootPost w m) := by
  rcases Nat.eq_zero_or_pos m with h | h
  · obtain ⟨ao, capa, la, rfl, sa, wa, za, ea⟩ := ha
    have : la = [] := (val_zero_iff (by decide) za).1 (ea.trans h)
    subst this h
    exact root_zero ao capa w
  · exact root_pos ha hK hm h
end Go.Proofs.YtekghemhccfhkaaGreatDoor
namespace Go.Big
open Go
theorem andW_1 {x : Nat} (h : x < 18446744073709551616) : andW x 1 = x % 2 := by
  rw [andW, Nat.mod_eq_of_lt h]
  exact Nat.and_two_pow_sub_one_eq_mod x 1
theorem half_step (n g : Nat) : n / 2 ^ g = 2 * (n / 2 ^ (g + 1)) + n / 2 ^ g % 2 := by
  rw [Nat.pow_succ, ← Nat.div_div_eq_div_mul]
  omega
theorem pow_bound {a n K j : Nat} (h : a ^ n < B64 ^ K) (hK : 0 < K) (hj : j ≤ n) : a ^ j < B64 ^ K := by
  rcases Nat.eq_zero_or_pos a with h0 | h0
  · subst h0
    have h1 : (1 : Nat) < B64 ^ K := Nat.one_lt_pow (by omega) (by decide)
    rcases Nat.eq_zero_or_pos j with h2 | h2
    · subst h2; simpa using h1
    · rw [Nat.zero_pow h2]; omega
  · exact Nat.lt_of_le_of_lt (Nat.pow_le_pow_right h0 hj) h
theorem double_le {n g : Nat} : n / 2 ^ (g + 1) + n / 2 ^ (g + 1) ≤ n / 2 ^ g ∧ n / 2 ^ g ≤ n := by
  have := half_step n g
  exact ⟨by omega, Nat.div_le_self _ _⟩
end Go.Big
namespace Go.Proofs.YtekghemhccfhkaaGreatDoor
open Go.RowKit Go.Big
def PwRel (w : World) (a n L g : Nat) (x y : Value) (wr : World) : Prop :=
  g ≤ L ∧ (g = 0 ∧ y = .int .i64 (-1) ∨ ∃ g', g = g' + 1 ∧ y = .int .i64 (g' : Nat)) ∧ NatV wr .u64 B64 x (a ^ (n / 2 ^ g)) ∧ Below w.heap.size w wr
set_option maxRecDepth 100000 in
set_option maxHeartbeats 1000000 in
/-- (natural).power -/
theorem power_any {va : Value} {a n K : Nat} {w : World} (ha : NatV w .u64 B64 va a) (hn : n < 18446744073709551616) (hK : K < 100) (hK0 : 0 < K) (hp : a ^ n < B64 ^ K) :
    Calls Tryz.prog 157 #[va, .int .u64 n] w (RetNat w (a ^ n)) := by
  have hl := fun w => Proofs.Tryz.bits_Len (n : Int) w (by omega) (by omega)
  rw [Int.toNat_natCast] at hl
  obtain ⟨L, hL⟩ : ∃ L, Lib.bitLen n = L := ⟨_, rfl⟩
  have hLn : n / 2 ^ L = 0 ∧ L ≤ 64 := by
    rcases Nat.eq_zero_or_pos n with h | h
    · subst h
      have : Lib.bitLen 0 = 0 := rfl
      rw [this] at hL
      subst hL
      exact ⟨rfl, by omega⟩
    · have := bits_spec hn h
      rw [hL] at this
      exact ⟨Nat.div_eq_of_lt this.2.2.2, this.2.1⟩
  rw [hL] at hl
  have HL := Lib.hid hl
  have HA := Lib.hid ha
  have HP := Lib.hid (And.intro hp (And.intro hn hLn.1))
  have hL64 := hLn.2
  have H1 := Lib.hid (natv_word (x := 1) (by decide) (by decide) w)
  have HB1 := Lib.hid (((Below.refl w.heap.size w).alloc (Nat.le_refl _) (.cells #[.int .u64 1] 71)) : Below w.heap.size w (w.alloc (.cells #[.int .u64 1] 71)))
  clear hl ha hp hn hL hLn
  go_enter Tryz.func157, Tryz.ntmps157
  go_wp2_with fail
  refine (HL.out _).mono ?_
  rintro e w1 ⟨rfl, rfl⟩
  go_wp2_with fail
  go_loopg [5, 6] L (fun g x y wr => PwRel w a n L g x y wr)
  case atStart =>
    refine ⟨Nat.le_refl _, ?_, by rw [HP.out.2.2, Nat.pow_zero]; exact H1.out, HB1.out⟩
    rcases Nat.eq_zero_or_pos L with h | h
    · subst h; exact .inl ⟨rfl, rfl⟩
    · exact .inr ⟨L - 1, by omega, by congr 1; omega⟩
  case round =>
    clear H1 HB1
    obtain ⟨hgL, hi, hx, hb⟩ := hrel
    rcases hi with ⟨rfl, rfl⟩ | ⟨g', rfl, rfl⟩
    · rw [Nat.pow_zero, Nat.div_one] at hx
      have HR := Lib.hid (show RetNat w (a ^ n) (.returned u5) wr from ⟨_, rfl, hx, hb⟩)
      clear hx hb
      go_wp2_with fail
      go_ret
      exact HR.out
    · obtain ⟨h, hh⟩ : ∃ h, n / 2 ^ (g' + 1) = h := ⟨_, rfl⟩
      have hd := double_le (n := n) (g := g')
      have hst := half_step n g'
      rw [hh] at hd hst hx
      have hbt : andW (shrW n g') 1 = n / 2 ^ g' % 2 := by
        rw [shrW_eq (by omega), andW_1 (Nat.lt_of_le_of_lt (Nat.div_le_self _ _) HP.out.2.1)]
      have b1 := pow_bound (j := h) HP.out.1 hK0 (by omega)
      have b2 := pow_bound (j := h + h) HP.out.1 hK0 (by omega)
      have HX := Lib.hid hx
      have HB := Lib.hid hb
      have HD := Lib.hid (And.intro hst hd)
      have HBB := Lib.hid (And.intro b1 b2)
      obtain ⟨bt, hbt2⟩ : ∃ bt, n / 2 ^ g' % 2 = bt := ⟨_, rfl⟩
      rw [hbt2] at hbt
      have HBT := Lib.hid hbt2
      clear hx hb hst hd b1 b2 hh hbt2
      go_wp2_with fail
      refine (times_any (K := K) HX.out HX.out hK HBB.out.1 HBB.out.1).mono ?_
      rintro e w2 ⟨v, rfl, hv, hb2⟩
      rw [← Nat.pow_add] at hv
      have HV := Lib.hid hv
      have HB2 := Lib.hid (below_trans HB.out hb2)
      clear hv hb2
      by_cases h0 : bt = 0
      · subst h0
        go_wp2_with fail
        go_roundg g'
        case rel =>
          refine ⟨by omega, ?_, ?_, HB2.out⟩
          · rcases Nat.eq_zero_or_pos g' with h0 | h0
            · subst h0; exact .inl ⟨rfl, rfl⟩
            · exact .inr ⟨g' - 1, by omega, by congr 1; omega⟩
          · have e : n / 2 ^ g' = h + h := by have := HD.out.1; have := HBT.out; omega
            rw [e]; exact HV.out
        case measure => omega
      · have h1 : bt = 1 := by have := HBT.out; omega
        subst h1
        go_wp2_with fail
        have hn1 : 1 ≤ n := by have := HD.out; have := HBT.out; omega
        refine (times_any (K := K) HV.out (HA.out.below HB2.out) hK HBB.out.2 (by have := pow_bound (j := 1) HP.out.1 hK0 hn1; rwa [Nat.pow_one] at this)).mono ?_
        rintro e w3 ⟨v', rfl, hv', hb3⟩
        rw [← Nat.pow_succ] at hv'
        have HV' := Lib.hid hv'
        have HB3 := Lib.hid (below_trans HB2.out hb3)
        clear hv' hb3
        go_wp2_with fail
        go_roundg g'
        case rel =>
          refine ⟨by omega, ?_, ?_, HB3.out⟩
          · rcases Nat.eq_zero_or_pos g' with h0 | h0
            · subst h0; exact .inl ⟨rfl, rfl⟩
            · exact .inr ⟨g' - 1, by omega, by congr 1; omega⟩
          · have e : n / 2 ^ g' = h + h + 1 := by have := HD.out.1; have := HBT.out; omega
            rw [e]; exact HV'.out
        case measure => omega
end Go.Proofs.YtekghemhccfhkaaGreatDoor
