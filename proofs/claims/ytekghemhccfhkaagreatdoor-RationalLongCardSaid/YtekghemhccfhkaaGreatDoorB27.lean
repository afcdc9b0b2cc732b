/-
  Walks of the program's functions: GcdW.
-/
import Derived.Test.YtekghemhccfhkaaGreatDoorB25
import Derived.Test.YtekghemhccfhkaaGreatDoorB26
import Derived.Test.YtekghemhccfhkaaGreatDoorB09
namespace Go.Proofs.YtekghemhccfhkaaGreatDoor
open Go.RowKit Go.Big
/-- The table of math/bits, where it lies. -/
abbrev Tabs (w : World) : Prop := TabU8 1 Lib.deBruijn64tab w
set_option maxRecDepth 100000 in
set_option maxHeartbeats 1000000 in
/-- gcdWords -/
theorem gcdWords_any {a b : Nat} (ha : a < 18446744073709551616) (hb : b < 18446744073709551616) (w : World) (hT : Tabs w) :
    Calls Tryz.prog 134 #[.int .u64 a, .int .u64 b] w fun e w' => e = .returned (.int .u64 (Nat.gcd a b)) ∧ w' = w := by
  by_cases h0 : a = 0
  · have e : orW a b = Nat.gcd a b := by rw [h0, orW, Nat.mod_eq_of_lt hb, Nat.gcd_zero_left]; simp
    have hz : ((a : Int) == 0) = true := by rw [beq_iff_eq]; omega
    have HE := Lib.hid e
    rw [← HE.out]
    clear e ha hb hT h0
    go_enter Tryz.func134, Tryz.ntmps134
    go_wp2_with fail
    go_ret
    exact ⟨rfl, rfl⟩
  · by_cases h1 : b = 0
    · have e : orW a b = Nat.gcd a b := by rw [h1, orW, Nat.mod_eq_of_lt ha, Nat.gcd_zero_right]; simp
      have hz : ((a : Int) == 0) = false := by rw [beq_eq_false_iff_ne]; omega
      have hz2 : ((b : Int) == 0) = true := by rw [beq_iff_eq]; omega
      have HE := Lib.hid e
      rw [← HE.out]
      clear e ha hb hT h0 h1
      go_enter Tryz.func134, Tryz.ntmps134
      go_wp2_with fail
      go_ret
      exact ⟨rfl, rfl⟩
    · have hza : ((a : Int) == 0) = false := by rw [beq_eq_false_iff_ne]; omega
      have hzb : ((b : Int) == 0) = false := by rw [beq_eq_false_iff_ne]; omega
      obtain ⟨g, hinv, hg⟩ := GwInv.start h0 h1 ha hb
      have hor : orW a b = a ||| b := by rw [orW, Nat.mod_eq_of_lt ha, Nat.mod_eq_of_lt hb]
      have ho0 : a ||| b ≠ 0 := by
        intro h
        exact h0 ((Nat.or_eq_zero_iff).1 h).1
      have hol : a ||| b < 18446744073709551616 := Nat.or_lt_two_pow (n := 64) ha hb
      have t1 := tz_any ho0 hol w hT
      have t2 := tz_any h0 ha w hT
      have hs := (ctz_spec ho0 hol).1
      have hg64 : g * 2 ^ Lib.ctz 64 (a ||| b) < 18446744073709551616 := by
        rw [← hg]; exact Nat.lt_of_le_of_lt (Nat.gcd_le_left _ (by omega)) ha
      have HG := Lib.hid hg
      rw [HG.out]
      have HI := Lib.hid hinv
      have T1 := Lib.hid t1
      have T2 := Lib.hid t2
      have H64 := Lib.hid hg64
      have tzs := fun (x : Nat) (h : x ≠ 0) (h2 : x < 18446744073709551616) => tz_any h h2 w hT
      have TZ := Lib.hid tzs
      clear hg hinv t1 t2 hg64 tzs ho0 hol ha hb hT
      generalize Lib.ctz 64 (a ||| b) = s at *
      generalize a ||| b = ab at *
      go_enter Tryz.func134, Tryz.ntmps134
      go_wp2_with fail
      refine T1.out.mono ?_
      rintro e w1 ⟨rfl, rfl⟩
      go_wp2_with fail
      refine T2.out.mono ?_
      rintro e w1 ⟨rfl, rfl⟩
      go_wp2_with fail
      go_loop [0, 1] (fun x y => ∃ a b : Nat, x = .int .u64 a ∧ y = .int .u64 b ∧ GwInv g a b) (fun x y => (intOf x).toNat + (intOf y).toNat)
      case atStart => exact ⟨_, _, rfl, rfl, HI.out⟩
      case round =>
        clear hza hzb h0 h1 HI hor
        obtain ⟨a, b, rfl, rfl, hinv⟩ := hrel
        have HI := Lib.hid hinv
        by_cases hb : b = 0
        · have hb' : ((b : Int) != 0) = false := by rw [hb]; rfl
          have hg : a = g := by have := hinv.gcd; rw [hb, Nat.gcd_zero_right] at this; exact this
          have he : shlW a s = g * 2 ^ s := by rw [shlW, Nat.min_eq_left (by omega), hg, Nat.mod_eq_of_lt H64.out]
          have HE := Lib.hid he
          have HG := Lib.hid hg
          clear hb hinv hg he
          go_wp2_with fail
          go_ret
          exact ⟨ret_i (by rw [HE.out]; simp), rfl⟩
        · have hb' : ((b : Int) != 0) = true := by rw [bne_iff_ne]; omega
          have hst := hinv.step hb
          obtain ⟨⟨c1, c2, c3⟩, s1, s2⟩ := hst
          have hT := TZ.out b hb hinv.blt
          have hodd : 0 < a := by have := hinv.odd; omega
          have hal := hinv.alt
          have HT := Lib.hid hT
          have hs64 : Lib.ctz 64 b ≤ 63 := by have := (ctz_spec hb hinv.blt).1; omega
          clear hb hT hinv
          obtain ⟨c, hc⟩ : ∃ c, shrW b (Lib.ctz 64 b) = c := ⟨_, rfl⟩
          rw [hc] at c1 c2 c3 s1 s2
          have HAL := Lib.hid hal
          have HCL := Lib.hid c1
          rcases Nat.lt_or_ge c a with h | h
          · have hsb : subW a c = a - c := subW_le (by omega) hal
            have HS := Lib.hid (s2 h)
            clear s1 s2 hal c1
            go_wp2_with (go_at_call 163; refine HT.out.mono ?_; rintro e w2 ⟨rfl, rfl⟩)
            go_round
            case rel => exact ⟨_, _, rfl, rfl, HS.out⟩
            case measure => simp [intOf]; omega
          · have hsb : subW c a = c - a := subW_le h c1
            have HS := Lib.hid (s1 h)
            clear s1 s2 hal c1
            go_wp2_with (go_at_call 163; refine HT.out.mono ?_; rintro e w2 ⟨rfl, rfl⟩)
            go_round
            case rel => exact ⟨_, _, rfl, rfl, HS.out⟩
            case measure => simp [intOf]; omega
end Go.Proofs.YtekghemhccfhkaaGreatDoor
