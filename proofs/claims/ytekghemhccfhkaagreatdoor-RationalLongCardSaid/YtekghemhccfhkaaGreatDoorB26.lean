/-
  Walks of the program's functions: Tz.
-/
import Derived.Test.YtekghemhccfhkaaGreatDoorB05
import Derived.Lib.TrailingZeros
import Derived.Lib.Hide
import Derived.Shelf.Spec.TrailingZeros
namespace Go.Big
open Go
/-- A table of bytes lies in block g. -/
def TabU8 (g : Nat) (tab : List Nat) (w : World) : Prop := ∀ j, j < tab.length → w.cell? ⟨g, j, none⟩ = some (.int .u8 (nth tab j))
end Go.Big
namespace Go.Proofs.YtekghemhccfhkaaGreatDoor
open Go.RowKit Go.Big
set_option maxRecDepth 100000 in
set_option maxHeartbeats 1000000 in
theorem tz_any {x : Nat} (hx0 : x ≠ 0) (hx : x < 18446744073709551616) (w : World) (hT : TabU8 1 Lib.deBruijn64tab w) :
    Calls Tryz.prog 163 #[.int .u64 x] w fun e w' => e = .returned (.int .i64 (Lib.ctz 64 x)) ∧ w' = w := by
  have hb : ((x : Int) == 0) = false := by rw [beq_eq_false_iff_ne]; omega
  obtain ⟨hlow, hk⟩ := Lib.lowest_bit 64 x hx0 hx
  obtain ⟨hi, htab⟩ := Lib.deBruijn64_at _ hk
  have key := Proofs.tz64_key x _ hx hx0 hlow
  have hc := hT _ hi
  have e : nth Lib.deBruijn64tab (2 ^ Lib.ctz 64 x * 285870213051353865 % 18446744073709551616 / 288230376151711744) = Lib.ctz 64 x := htab
  rw [e] at hc
  obtain ⟨idx, hidx⟩ : ∃ idx, 2 ^ Lib.ctz 64 x * 285870213051353865 % 18446744073709551616 / 288230376151711744 = idx := ⟨_, rfl⟩
  rw [hidx] at key hc hi
  have hi2 : idx < 64 := hi
  have hk2 : Lib.ctz 64 x ≤ 63 := by omega
  clear hx hlow htab e hx0 hT hidx hi hk
  go_enter Tryz.func163, Tryz.ntmps163
  go_wp2_with fail
  go_ret
  exact ⟨rfl, rfl⟩
end Go.Proofs.YtekghemhccfhkaaGreatDoor
