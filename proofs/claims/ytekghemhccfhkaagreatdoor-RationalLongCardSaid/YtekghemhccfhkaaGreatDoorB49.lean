/-
  Walks of the program's functions: LawLong.
-/
import Derived.Test.YtekghemhccfhkaaGreatDoorB48
namespace Go.Proofs.YtekghemhccfhkaaGreatDoor
open Go.RowKit Go.Big
set_option maxRecDepth 100000 in
set_option maxHeartbeats 4000000 in
theorem rationalLong_core (n : Int) (x N d : Nat) (hx : x < 256) (hd : x % 10 = d) (hN : 300 < n % 8232 ∧ n % 8232 < 7892 ∧ N = 300 ∨ 300 < n % 8232 ∧ ¬ n % 8232 < 7892 ∧ n % 8232 = (N : Int) ∨ ¬ 300 < n % 8232 ∧ n % 8232 = (N : Int)) {w : World} (hT : TabsA w) : Calls Tryz.prog 5 #[.int .i64 n, .int .u8 (x : Int)] w (RetBool w true) := by
  have hN8 : N ≤ 8231 := by omega
  have hd10 : d < 10 := by omega
  obtain ⟨m, hm⟩ : ∃ m, n % 8232 = m := ⟨_, rfl⟩
  have HM := Lib.hid (mod8232 n)
  rw [hm] at HM hN
  obtain ⟨S, cc, hp, hp1, hp2, hp3, hp4⟩ := long_parse (n := N) hd10
  have hcase : 8192 < N ∨ (N ≤ 8192 ∧ N = 0) ∨ (N ≤ 8192 ∧ N ≠ 0 ∧ d = 0) ∨ (N ≤ 8192 ∧ N ≠ 0 ∧ d ≠ 0) := by omega
  have HCASE := Lib.hid hcase
  clear hcase
  have HP := Lib.hid hp
  have HC := Lib.hid (And.intro hp1 (And.intro hp2 (And.intro hp3 hp4)))
  have HT := Lib.hid hT
  have HD := Lib.hid hd
  obtain ⟨c, hc⟩ : ∃ c, 48 + d = c := ⟨_, rfl⟩
  have HCC := Lib.hid hc
  have hmk : ∀ W : World, (Instr.makeSlice 39 (.int .i64 (N : Int)) (.int .i64 (N : Int))).run Tryz.prog W = .ok (.slice (some ⟨W.heap.size, 0, none⟩) N N) (W.alloc (.cells (cellsOf .u8 (zeros N)) 5)) :=
    fun W => run_mk 39 5 .u8 Tryz.underlying39 1 (by kernel_rfl) (by decide) N N rfl (by omega) W
  have HR0 := Lib.hid (isRow_alloc w 5 .u8 (zeros N))
  have HB0 := Lib.hid (((Below.refl w.heap.size w).alloc (Nat.le_refl _) (.cells (cellsOf .u8 (zeros N)) 5)) : Below w.heap.size w (w.alloc (.cells (cellsOf .u8 (zeros N)) 5)))
  clear hm hp hp1 hp2 hp3 hp4 hT hd hc
  have hB7 : ∀ W : World, W.heap.size < (W.alloc (.cells (cellsOf .u8 (zeros N)) 5)).heap.size := fun W => by simp
  have hmk3 : N = 300 → ∀ W : World, (Instr.makeSlice 39 (.int .i64 300) (.int .i64 300)).run Tryz.prog W = .ok (.slice (some ⟨W.heap.size, 0, none⟩) N N) (W.alloc (.cells (cellsOf .u8 (zeros N)) 5)) := fun h W => by
    have := hmk W
    rw [h] at this ⊢
    exact this
  rcases hN with ⟨h1, h2, h3⟩ | ⟨h1, h2, rfl⟩ | ⟨h1, rfl⟩
  all_goals
    try have hmk4 := hmk3 h3
    clear hmk3
    go_enter Tryz.func5, Tryz.ntmps5
    go_wp2_with fail
    refine (HM.out _).mono ?_
    rintro e w1 ⟨rfl, rfl⟩
    go_wp2_with fail
    go_loopg [6] N (fun k y wr => LlRel w1 N c k y wr)
    case atStart => first | exact ⟨0, by omega, rfl, HR0.out, HB0.out, hB7 _⟩ | (subst h3; exact ⟨0, rfl, rfl, HR0.out, HB0.out, hB7 _⟩)
    case round =>
      clear HR0 HB0 HM hmk hB7
      try clear hmk4
      obtain ⟨i, hik, rfl, hrow, hb, hg⟩ := hrel
      have hk : gk = 0 ∨ 0 < gk := by omega
      rcases hk with rfl | hk
      case inr =>
        obtain ⟨z, hz⟩ : ∃ z, N - i = z + 1 := ⟨N - i - 1, by omega⟩
        have hin : i < N := by omega
        have hlt : (i : Int) < (N : Int) := by omega
        try have hlt3 : (i : Int) < 300 := by omega
        have hc0 := hrow.cell (i := i) (by rw [List.length_append, List.length_replicate, zeros_len]; omega)
        have hf0 := hrow.frozen i
        have HN := Lib.hid (LlRel.next (v := 48 + (x : Int) % 10) hin hrow hb (by have h8 := HD.out; have h9 := HCC.out; omega) hik)
        go_wp2_with fail
        go_roundg (gk - 1)
        case rel => exact HN.out
        case measure => omega
      case inl =>
        obtain rfl : i = N := by omega
        rw [Nat.sub_self, show zeros 0 = [] from rfl, List.append_nil] at hrow
        try obtain rfl := h3
        have HW := Lib.hid hrow
        have hcv := conv_same HCC.out hd10 hrow
        have HT1 := Lib.hid (HT.out.below hb)
        have HB1 := Lib.hid hb
        clear hrow hb hik
        go_wp2_with fail
        refine (HP.out _ HT1.out).mono ?_
        rintro e w3 ⟨rfl, hb3⟩
        have HT3 := Lib.hid (HT1.out.below hb3)
        have HB3 := Lib.hid (HB1.out.trans (hb3.mono HB1.out.size))
        have hcv3 := conv_same HCC.out hd10 (HW.out.below hb3)
        clear hcv hb3
        rcases HCASE.out with h4 | ⟨h4, h5⟩ | ⟨h4, h5, h6⟩ | ⟨h4, h5, h6⟩
        · first
          | omega
          | obtain ⟨rfl, rfl⟩ := HC.out.1 h4
            clear hcv3
            go_wp2_with fail
            refine (awake_any HT3.out).mono ?_
            rintro e w5 ⟨rfl, hb5⟩
            have HB5 := Lib.hid (HB3.out.trans (hb5.mono HB3.out.size))
            clear hb5
            go_wp2_with fail
            go_ret
            exact ⟨rfl, HB5.out⟩
        · first
          | omega
          | obtain ⟨rfl, rfl⟩ := HC.out.2.1 h4 h5
            have h7 : ¬ (8192 : Int) < (i : Int) := by omega
            have h8 : ((i : Int) == 0) = true := by rw [beq_iff_eq]; omega
            clear hcv3
            go_wp2_with fail
            refine (awake_any HT3.out).mono ?_
            rintro e w5 ⟨rfl, hb5⟩
            have HB5 := Lib.hid (HB3.out.trans (hb5.mono HB3.out.size))
            clear hb5
            go_wp2_with fail
            go_ret
            exact ⟨rfl, HB5.out⟩
        · obtain ⟨rfl, rfl⟩ := HC.out.2.2.1 h4 h5 h6
          try have h7 : ¬ (8192 : Int) < (i : Int) := by omega
          try have h8 : ((i : Int) == 0) = false := by rw [beq_eq_false_iff_ne]; omega
          have h9 : ((x : Int) % 10 == 0) = true := by rw [beq_iff_eq]; have := HD.out; omega
          clear hcv3
          go_wp2_with fail
          refine (awake_any HT3.out).mono ?_
          rintro e w5 ⟨rfl, hb5⟩
          have HB5 := Lib.hid (HB3.out.trans (hb5.mono HB3.out.size))
          clear hb5
          go_wp2_with fail
          go_ret
          exact ⟨rfl, HB5.out⟩
        · obtain ⟨rfl, rfl⟩ := HC.out.2.2.2 h4 h5 h6
          try have h7 : ¬ (8192 : Int) < (i : Int) := by omega
          try have h8 : ((i : Int) == 0) = false := by rw [beq_eq_false_iff_ne]; omega
          have h9 : ((x : Int) % 10 == 0) = false := by rw [beq_eq_false_iff_ne]; have := HD.out; omega
          go_wp2_with fail
          refine (awake_any HT3.out).mono ?_
          rintro e w5 ⟨rfl, hb5⟩
          have HB5 := Lib.hid (HB3.out.trans (hb5.mono HB3.out.size))
          clear hb5
          go_wp2_with fail
          go_ret
          exact ⟨rfl, HB5.out⟩
theorem rationalLong_walk {n y : Int} (_ : IsS n) (hy : (Lit.int .u8 y).wf = true) {w : World} (hT : TabsA w) : Calls Tryz.prog 5 #[.int .i64 n, .int .u8 y] w (RetBool w true) := by
  simp only [Lit.wf, Bool.and_eq_true, decide_eq_true_eq] at hy
  have h0 : (0 : Int) ≤ y := hy.1
  have h1 : y ≤ 255 := hy.2
  obtain ⟨x, rfl⟩ := Int.eq_ofNat_of_zero_le h0
  by_cases h2 : 300 < n % 8232
  · by_cases h3 : n % 8232 < 7892
    · exact rationalLong_core n x 300 (x % 10) (by omega) rfl (.inl ⟨h2, h3, rfl⟩) hT
    · obtain ⟨N, hN⟩ := Int.eq_ofNat_of_zero_le (show 0 ≤ n % 8232 by omega)
      exact rationalLong_core n x N (x % 10) (by omega) rfl (.inr (.inl ⟨h2, h3, hN⟩)) hT
  · obtain ⟨N, hN⟩ := Int.eq_ofNat_of_zero_le (show 0 ≤ n % 8232 by omega)
    exact rationalLong_core n x N (x % 10) (by omega) rfl (.inr (.inr ⟨h2, hN⟩)) hT
end Go.Proofs.YtekghemhccfhkaaGreatDoor
