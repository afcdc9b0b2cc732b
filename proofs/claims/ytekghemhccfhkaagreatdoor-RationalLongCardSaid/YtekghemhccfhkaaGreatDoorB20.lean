/-
  Walks of the program's functions: Root, Power.
-/
import Derived.Test.YtekghemhccfhkaaGreatDoorB16
import Derived.Test.YtekghemhccfhkaaGreatDoorB18
import Derived.Test.YtekghemhccfhkaaGreatDoorB09
import Derived.Test.YtekghemhccfhkaaGreatDoorB19
import Derived.Deep.LoopGhost
import Derived.Test.YtekghemhccfhkaaGreatDoorB13
namespace Go.Big
open Go
end Go.Big
namespace Go.Proofs.YtekghemhccfhkaaGreatDoor
open Go.RowKit Go.Big
theorem natv_word {x : Nat} (h0 : 0 < x) (hx : x < 18446744073709551616) (w : World) :
    NatV (w.alloc (.cells #[.int .u64 x] 71)) .u64 B64 (.slice (some ⟨w.heap.size, 0, none⟩) 1 1) x := by
  have hr0 : isRow (w.alloc (.cells #[.int .u64 x] 71)) w.heap.size 71 .u64 [x] := isRow_alloc w 71 .u64 [x]
  have hs := hr0.sl (cap := 1) (by simp) (by simp)
  exact ⟨_, _, [x], rfl, hs, fun y hy => by simp at hy; subst hy; exact hx, by simp [Nz]; omega, by simp [val]⟩
end Go.Proofs.YtekghemhccfhkaaGreatDoor
namespace Go.Big
open Go
theorem andW_1 {x : Nat} (h : x < 18446744073709551616) : andW x 1 = x % 2 := by
  rw [andW, Nat.mod_eq_of_lt h]
  exact Nat.and_two_pow_sub_one_eq_mod x 1
theorem half_step (n g : Nat) : n / 2 ^ g = 2 * (n / 2 ^ (g + 1)) + n / 2 ^ g % 2 := by
  rw [Nat.pow_succ, ← Nat.div_div_eq_div_mul]
  omega
theorem pow_bound {a n K j : Nat} (h : a ^ n < B64 ^ K) (hK : 0 < K) (hj : j ≤ n) : a ^ j < B64 ^ K := by
  rcases Nat.eq_zero_or_pos a with h0 | h0
  · subst h0
    have h1 : (1 : Nat) < B64 ^ K := Nat.one_lt_pow (by omega) (by decide)
    rcases Nat.eq_zero_or_pos j with h2 | h2
    · subst h2; simpa using h1
    · rw [Nat.zero_pow h2]; omega
  · exact Nat.lt_of_le_of_lt (Nat.pow_le_pow_right h0 hj) h
theorem double_le {n g : Nat} : n / 2 ^ (g + 1) + n / 2 ^ (g + 1) ≤ n / 2 ^ g ∧ n / 2 ^ g ≤ n := by
  have := half_step n g
  exact ⟨by omega, Nat.div_le_self _ _⟩
end Go.Big
namespace Go.Proofs.YtekghemhccfhkaaGreatDoor
open Go.RowKit Go.Big
def PwRel (w : World) (a n L g : Nat) (x y : Value) (wr : World) : Prop :=
  g ≤ L ∧ (g = 0 ∧ y = .int .i64 (-1) ∨ ∃ g', g = g' + 1 ∧ y = .int .i64 (g' : Nat)) ∧ NatV wr .u64 B64 x (a ^ (n / 2 ^ g)) ∧ Below w.heap.size w wr
set_option maxRecDepth 100000 in
set_option maxHeartbeats 1000000 in
/-- (natural).power -/
theorem power_any {va : Value} {a n K : Nat} {w : World} (ha : NatV w .u64 B64 va a) (hn : n < 18446744073709551616) (hK : K < 100) (hK0 : 0 < K) (hp : a ^ n < B64 ^ K) :
    Calls Tryz.prog 157 #[va, .int .u64 n] w (RetNat w (a ^ n)) := by
  have hl := fun w => Proofs.Tryz.bits_Len (n : Int) w (by omega) (by omega)
  rw [Int.toNat_natCast] at hl
  obtain ⟨L, hL⟩ : ∃ L, Lib.bitLen n = L := ⟨_, rfl⟩
  have hLn : n / 2 ^ L = 0 ∧ L ≤ 64 := by
    rcases Nat.eq_zero_or_pos n with h | h
    · subst h
      have : Lib.bitLen 0 = 0 := rfl
      rw [this] at hL
      subst hL
      exact ⟨rfl, by omega⟩
    · have := bits_spec hn h
      rw [hL] at this
      exact ⟨Nat.div_eq_of_lt this.2.2.2, this.2.1⟩
  rw [hL] at hl
  have HL := Lib.hid hl
  have HA := Lib.hid ha
  have HP := Lib.hid (And.intro hp (And.intro hn hLn.1))
  have hL64 := hLn.2
  have H1 := Lib.hid (natv_word (x := 1) (by decide) (by decide) w)
  have HB1 := Lib.hid (((Below.refl w.heap.size w).alloc (Nat.le_refl _) (.cells #[.int .u64 1] 71)) : Below w.heap.size w (w.alloc (.cells #[.int .u64 1] 71)))
  clear hl ha hp hn hL hLn
  go_enter Tryz.func157, Tryz.ntmps157
  go_wp2_with fail
  refine (HL.out _).mono ?_
  rintro e w1 ⟨rfl, rfl⟩
  go_wp2_with fail
  go_loopg [5, 6] L (fun g x y wr => PwRel w a n L g x y wr)
  case atStart =>
    refine ⟨Nat.le_refl _, ?_, by rw [HP.out.2.2, Nat.pow_zero]; exact H1.out, HB1.out⟩
    rcases Nat.eq_zero_or_pos L with h | h
    · subst h; exact .inl ⟨rfl, rfl⟩
    · exact .inr ⟨L - 1, by omega, by congr 1; omega⟩
  case round =>
    clear H1 HB1
    obtain ⟨hgL, hi, hx, hb⟩ := hrel
    rcases hi with ⟨rfl, rfl⟩ | ⟨g', rfl, rfl⟩
    · rw [Nat.pow_zero, Nat.div_one] at hx
      have HR := Lib.hid (show RetNat w (a ^ n) (.returned u5) wr from ⟨_, rfl, hx, hb⟩)
      clear hx hb
      go_wp2_with fail
      go_ret
      exact HR.out
    · obtain ⟨h, hh⟩ : ∃ h, n / 2 ^ (g' + 1) = h := ⟨_, rfl⟩
      have hd := double_le (n := n) (g := g')
      have hst := half_step n g'
      rw [hh] at hd hst hx
      have hbt : andW (shrW n g') 1 = n / 2 ^ g' % 2 := by
        rw [shrW_eq (by omega), andW_1 (Nat.lt_of_le_of_lt (Nat.div_le_self _ _) HP.out.2.1)]
      have b1 := pow_bound (j := h) HP.out.1 hK0 (by omega)
      have b2 := pow_bound (j := h + h) HP.out.1 hK0 (by omega)
      have HX := Lib.hid hx
      have HB := Lib.hid hb
      have HD := Lib.hid (And.intro hst hd)
      have HBB := Lib.hid (And.intro b1 b2)
      obtain ⟨bt, hbt2⟩ : ∃ bt, n / 2 ^ g' % 2 = bt := ⟨_, rfl⟩
      rw [hbt2] at hbt
      have HBT := Lib.hid hbt2
      clear hx hb hst hd b1 b2 hh hbt2
      go_wp2_with fail
      refine (times_any (K := K) HX.out HX.out hK HBB.out.1 HBB.out.1).mono ?_
      rintro e w2 ⟨v, rfl, hv, hb2⟩
      rw [← Nat.pow_add] at hv
      have HV := Lib.hid hv
      have HB2 := Lib.hid (below_trans HB.out hb2)
      clear hv hb2
      by_cases h0 : bt = 0
      · subst h0
        go_wp2_with fail
        go_roundg g'
        case rel =>
          refine ⟨by omega, ?_, ?_, HB2.out⟩
          · rcases Nat.eq_zero_or_pos g' with h0 | h0
            · subst h0; exact .inl ⟨rfl, rfl⟩
            · exact .inr ⟨g' - 1, by omega, by congr 1; omega⟩
          · have e : n / 2 ^ g' = h + h := by have := HD.out.1; have := HBT.out; omega
            rw [e]; exact HV.out
        case measure => omega
      · have h1 : bt = 1 := by have := HBT.out; omega
        subst h1
        go_wp2_with fail
        have hn1 : 1 ≤ n := by have := HD.out; have := HBT.out; omega
        refine (times_any (K := K) HV.out (HA.out.below HB2.out) hK HBB.out.2 (by have := pow_bound (j := 1) HP.out.1 hK0 hn1; rwa [Nat.pow_one] at this)).mono ?_
        rintro e w3 ⟨v', rfl, hv', hb3⟩
        rw [← Nat.pow_succ] at hv'
        have HV' := Lib.hid hv'
        have HB3 := Lib.hid (below_trans HB2.out hb3)
        clear hv' hb3
        go_wp2_with fail
        go_roundg g'
        case rel =>
          refine ⟨by omega, ?_, ?_, HB3.out⟩
          · rcases Nat.eq_zero_or_pos g' with h0 | h0
            · subst h0; exact .inl ⟨rfl, rfl⟩
            · exact .inr ⟨g' - 1, by omega, by congr 1; omega⟩
          · have e : n / 2 ^ g' = h + h + 1 := by have := HD.out.1; have := HBT.out; omega
            rw [e]; exact HV'.out
        case measure => omega
end Go.Proofs.YtekghemhccfhkaaGreatDoor
