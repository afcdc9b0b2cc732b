/-
  Walks of the program's functions: IxRune.
-/
import Derived.Test.YtekghemhccfhkaaGreatDoorB45
import Derived.Test.YtekghemhccfhkaaGreatDoorB03
import Derived.Deep.LoopGhost
import Derived.Laws.Runes
import Derived.WalkMore
import Derived.Deep.CutRange
import Derived.BigQuiet
import Derived.Deep.RegionHeld3
import Derived.Deep.RegionWith
import Derived.Test.YtekghemhccfhkaaGreatDoorShelf
namespace Go.Proofs.YtekghemhccfhkaaGreatDoor
open Go.RowKit Go.Big
def Neg1 (w : World) (e : Ending) (w' : World) : Prop := e = .returned (.int .i64 (-1)) ∧ Below w.heap.size w w'
set_option maxRecDepth 100000 in
set_option maxHeartbeats 1000000 in
theorem validRune_any {r : Int} (hv : Utf8.valid r = true) (w : World) : Calls Tryz.prog 185 #[.int .i32 r] w fun e w' => e = .returned (.bool true) ∧ w' = w := by
  obtain ⟨h0, h1, h2⟩ := valid_le hv
  clear hv
  rcases h2 with h2 | h2
  · go_enter Tryz.func185, Tryz.ntmps185
    go_wp2_with fail
    go_ret
    exact ⟨rfl, rfl⟩
  · have h3 : ¬ r < 55296 := by omega
    go_enter Tryz.func185, Tryz.ntmps185
    go_wp2_with fail
    go_ret
    exact ⟨rfl, rfl⟩
set_option maxRecDepth 100000 in
set_option maxHeartbeats 1000000 in
theorem indexRune_err (w : World) : Calls Tryz.prog 145 #[.string ⟨#[47, 46]⟩, .int .i32 65533] w (Neg1 w) := by
  go_enter Tryz.func145, Tryz.ntmps145
  go_wp2_with fail
  go_loopg [] 2 (fun g wx => ∃ i : Nat, i + g = 2 ∧ wx = w.iter ⟨#[47, 46]⟩ i)
  case atStart => exact ⟨0, rfl, rfl⟩
  case round =>
    obtain ⟨i, hig, rfl⟩ := hrel
    have hi : i = 0 ∨ i = 1 ∨ i = 2 := by omega
    rcases hi with rfl | rfl | rfl
    · have hnx := fun ty => run_next_ascii (P := Tryz.prog) w ⟨#[47, 46]⟩ 0 ty (by decide) (by decide)
      go_wp2_with fail
      go_roundg 1
      case measure => omega
      case rel => exact ⟨1, rfl, rfl⟩
    · have hnx := fun ty => run_next_ascii (P := Tryz.prog) w ⟨#[47, 46]⟩ 1 ty (by decide) (by decide)
      go_wp2_with fail
      go_roundg 0
      case measure => omega
      case rel => exact ⟨2, rfl, rfl⟩
    · have hnx := run_next_end (P := Tryz.prog) w ⟨#[47, 46]⟩ 2
      go_wp2_with fail
      go_ret
      exact ⟨rfl, (Below.refl _ _).alloc (Nat.le_refl _) _⟩

theorem slice_two (w : World) : (Instr.slice 9 (.string ⟨#[47, 46]⟩) (some (.int .i64 2)) none none).run Tryz.prog w = .ok (.string ByteArray.empty) w := by
  simp [Instr.slice, run_underlying Tryz.underlying9, Instr.sliceBounds, Instr.sliceBound, asIntOf]
  rfl
theorem iB_empty (c : Int) (w : World) : Calls Tryz.prog 184 #[.string ByteArray.empty, .int .u8 c] w fun e w' => e = .returned (.int .i64 (-1)) ∧ w' = w := by
  refine (Proofs.Tryz.strings_IndexByte ByteArray.empty c w).mono ?_
  rintro e w' ⟨rfl, rfl⟩
  exact ⟨rfl, rfl⟩
set_option maxRecDepth 100000 in
set_option maxHeartbeats 1000000 in
theorem indexRune_two {r : Int} {x y : UInt8} (h1 : 128 ≤ r) (hne : r ≠ 65533) (hv : Utf8.valid r = true) (he : Utf8.encode r = ⟨#[x, y]⟩) (hy : 128 ≤ y.toNat) (w : World) : Calls Tryz.prog 145 #[.string ⟨#[47, 46]⟩, .int .i32 r] w (Neg1 w) := by
  have HV := Lib.hid (fun w => validRune_any hv w)
  have hne' : (r == 65533) = false := by rw [beq_eq_false_iff_ne]; exact hne
  have h0 : 0 ≤ r := by omega
  have hl : ¬ r < 128 := by omega
  have hyn : ((46 : Int) != (y.toNat : Int)) = true := by rw [bne_iff_ne]; omega
  have hsl := slice_two
  have i1 : ((⟨#[47, 46]⟩ : ByteArray)[1]'(by decide)).toNat = 46 := rfl
  have i2 : ((⟨#[x, y]⟩ : ByteArray)[1]'(by show 1 < 2; decide)).toNat = y.toNat := rfl
  have hsz : (⟨#[x, y]⟩ : ByteArray).size = 2 := rfl
  have HB := Lib.hid (fun c w => iB_empty c w)
  have hcv : ∀ w, (convert 21 9 (.int .i32 r)).run Tryz.prog w = .ok (.string ⟨#[x, y]⟩) w := fun w => by rw [run_convert_int_string (P := Tryz.prog) w 21 9 .i32 r (by kernel_rfl) Tryz.underlying9, he]
  clear hv hne
  go_enter Tryz.func145, Tryz.ntmps145
  go_wp2_with fail
  refine (HV.out _).mono ?_
  rintro e w1 ⟨rfl, rfl⟩
  go_wp2_with fail
  go_step3
  go_wp2_with fail
  go_loopg [9] 1 (fun _ i wx => i = .int .i64 1 ∧ wx = w1)
  case atStart => exact ⟨rfl, rfl⟩
  case round =>
    obtain ⟨rfl, rfl⟩ := hrel
    go_wp2_with fail
    go_step3
    go_upto_region 6 with (fail)
    go_quiet (fail)
    go_upto_region 7 with (fail)
    first | go_region_with (first | (go_at_call 184; (with_reducible refine (HB.out _ _).mono ?_); rintro e w2 ⟨rfl, rfl⟩) | fail) | fail
    all_goals
      go_wp2_with fail
      rw [Exit.noGoto_ret]
      go_ret
      exact ⟨rfl, ⟨rfl, rfl, rfl, Nat.le_refl _, fun _ _ => rfl⟩⟩
set_option maxRecDepth 100000 in
set_option maxHeartbeats 1000000 in
theorem indexRune_three {r : Int} {x y z : UInt8} (h1 : 128 ≤ r) (hne : r ≠ 65533) (hv : Utf8.valid r = true) (he : Utf8.encode r = ⟨#[x, y, z]⟩) (w : World) : Calls Tryz.prog 145 #[.string ⟨#[47, 46]⟩, .int .i32 r] w (Neg1 w) := by
  have HV := Lib.hid (fun w => validRune_any hv w)
  have hne' : (r == 65533) = false := by rw [beq_eq_false_iff_ne]; exact hne
  have h0 : 0 ≤ r := by omega
  have hl : ¬ r < 128 := by omega
  have hsz : (⟨#[x, y, z]⟩ : ByteArray).size = 3 := rfl
  have hcv : ∀ w, (convert 21 9 (.int .i32 r)).run Tryz.prog w = .ok (.string ⟨#[x, y, z]⟩) w := fun w => by rw [run_convert_int_string (P := Tryz.prog) w 21 9 .i32 r (by kernel_rfl) Tryz.underlying9, he]
  clear hv hne
  go_enter Tryz.func145, Tryz.ntmps145
  go_wp2_with fail
  refine (HV.out _).mono ?_
  rintro e w1 ⟨rfl, rfl⟩
  go_wp2_with fail
  go_step3
  go_wp2_with fail
  go_loopg [9] 1 (fun _ i wx => i = .int .i64 2 ∧ wx = w1)
  case atStart => exact ⟨rfl, rfl⟩
  case round =>
    obtain ⟨rfl, rfl⟩ := hrel
    go_wp2_with fail
    rw [Exit.noGoto_ret]
    go_ret
    exact ⟨rfl, Below.refl _ _⟩
set_option maxRecDepth 100000 in
set_option maxHeartbeats 1000000 in
theorem indexRune_four {r : Int} {x y z u : UInt8} (h1 : 128 ≤ r) (hne : r ≠ 65533) (hv : Utf8.valid r = true) (he : Utf8.encode r = ⟨#[x, y, z, u]⟩) (w : World) : Calls Tryz.prog 145 #[.string ⟨#[47, 46]⟩, .int .i32 r] w (Neg1 w) := by
  have HV := Lib.hid (fun w => validRune_any hv w)
  have hne' : (r == 65533) = false := by rw [beq_eq_false_iff_ne]; exact hne
  have h0 : 0 ≤ r := by omega
  have hl : ¬ r < 128 := by omega
  have hsz : (⟨#[x, y, z, u]⟩ : ByteArray).size = 4 := rfl
  have hcv : ∀ w, (convert 21 9 (.int .i32 r)).run Tryz.prog w = .ok (.string ⟨#[x, y, z, u]⟩) w := fun w => by rw [run_convert_int_string (P := Tryz.prog) w 21 9 .i32 r (by kernel_rfl) Tryz.underlying9, he]
  clear hv hne
  go_enter Tryz.func145, Tryz.ntmps145
  go_wp2_with fail
  refine (HV.out _).mono ?_
  rintro e w1 ⟨rfl, rfl⟩
  go_wp2_with fail
  go_step3
  go_wp2_with fail
  go_loopg [9] 1 (fun _ i wx => i = .int .i64 3 ∧ wx = w1)
  case atStart => exact ⟨rfl, rfl⟩
  case round =>
    obtain ⟨rfl, rfl⟩ := hrel
    go_wp2_with fail
    rw [Exit.noGoto_ret]
    go_ret
    exact ⟨rfl, Below.refl _ _⟩
theorem indexRune_high {r : Int} (h1 : 128 ≤ r) (hv : Utf8.valid r = true) (w : World) : Calls Tryz.prog 145 #[.string ⟨#[47, 46]⟩, .int .i32 r] w (Neg1 w) := by
  by_cases hne : r = 65533
  · subst hne; exact indexRune_err w
  · rcases enc_high h1 hv with ⟨x, y, he, hy⟩ | ⟨x, y, z, he⟩ | ⟨x, y, z, u, he⟩
    · exact indexRune_two h1 hne hv he hy w
    · exact indexRune_three h1 hne hv he w
    · exact indexRune_four h1 hne hv he w
end Go.Proofs.YtekghemhccfhkaaGreatDoor
