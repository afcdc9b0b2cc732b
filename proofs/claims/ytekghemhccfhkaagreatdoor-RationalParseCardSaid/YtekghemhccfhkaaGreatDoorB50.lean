/-
  Walks of the program's functions: NReadM, NDigits, NRead, NNum, LawN.
-/
import Derived.Test.YtekghemhccfhkaaGreatDoorB47
import Derived.Test.YtekghemhccfhkaaGreatDoorB49
import Derived.Test.YtekghemhccfhkaaGreatDoorB34
namespace Go.Big
open Go Go.RowKit
end Go.Big
namespace Go.Proofs.YtekghemhccfhkaaGreatDoor
open Go.RowKit Go.Big
end Go.Proofs.YtekghemhccfhkaaGreatDoor
namespace Go.Proofs.YtekghemhccfhkaaGreatDoor
open Go.RowKit Go.Big
/-- What digits says: the digits at the beginning of s. -/
def DgPost (s : ByteArray) (w : World) (e : Ending) (w' : World) : Prop := w' = w ∧ ∃ n : Nat, e = .returned (.int .i64 (n : Int)) ∧ n ≤ s.size ∧ Dig (s.data.toList.take n) ∧ ∀ h : n < s.data.toList.length, ¬ (48 ≤ (s.data.toList[n]).toNat ∧ (s.data.toList[n]).toNat ≤ 57)
set_option maxRecDepth 100000 in
set_option maxHeartbeats 4000000 in
/-- digits of the reference -/
theorem digits_any (s : ByteArray) (hl : s.size ≤ 1000000) (w : World) : Calls Tryz.prog 69 #[.string s] w (DgPost s w) := by
  have HS : Hid (s.data.toList.length = s.size) := Lib.hid (Lib.size_eq s).symm
  go_enter Tryz.func69, Tryz.ntmps69
  go_wp2_with fail
  go_loopw [3] (fun y wr => w = wr ∧ ∃ i : Nat, i ≤ s.size ∧ y = .int .i64 i ∧ Hid (Dig (s.data.toList.take i))) (fun y _ => s.size - (intOf y).toNat)
  case atStart => exact ⟨rfl, 0, by omega, rfl, Lib.hid (fun b hb => by simp at hb)⟩
  case round =>
    obtain ⟨rfl, i, hi, rfl, HD⟩ := hrel
    by_cases h : i < s.size
    · have hb : s[i] = s.data.toList[i]'(by have := HS.out; omega) := by simp [ByteArray.getElem_eq_getElem_data]
      have HB := Lib.hid hb
      obtain ⟨c, hc⟩ : ∃ c, s[i].toNat = c := ⟨_, rfl⟩
      have HC := Lib.hid hc
      clear hb
      by_cases c1 : c < 48
      · go_wp2_with fail
        go_ret
        exact ⟨rfl, i, rfl, hi, HD.out, fun h' => by rw [← HB.out, HC.out]; omega⟩
      · by_cases c2 : 57 < c
        · go_wp2_with fail
          go_ret
          exact ⟨rfl, i, rfl, hi, HD.out, fun h' => by rw [← HB.out, HC.out]; omega⟩
        · go_wp2_with fail
          go_roundw
          case rel => exact ⟨by first | rfl | trivial, i + 1, by omega, by go_num, Lib.hid (by
            intro b hb
            rw [List.take_succ_eq_append_getElem (by have := HS.out; omega), ← HB.out] at hb
            rcases List.mem_append.1 hb with h1 | h1
            · exact HD.out b h1
            · rw [List.mem_singleton.1 h1, HC.out]; omega)⟩
          case measure => simp [intOf]; omega
    · have he : i = s.size := by omega
      subst he
      go_wp2_with fail
      go_ret
      exact ⟨rfl, s.size, rfl, Nat.le_refl _, HD.out, fun h' => absurd h' (by have := HS.out; omega)⟩
end Go.Proofs.YtekghemhccfhkaaGreatDoor
namespace Go.Proofs.YtekghemhccfhkaaGreatDoor
open Go.RowKit Go.Big
end Go.Proofs.YtekghemhccfhkaaGreatDoor
namespace Go.Big
open Go Go.RowKit
end Go.Big
namespace Go.Proofs.YtekghemhccfhkaaGreatDoor
open Go.RowKit Go.Big
end Go.Proofs.YtekghemhccfhkaaGreatDoor
namespace Go.Big
open Go Go.RowKit
theorem b64_32 (K : Nat) : B64 ^ K = B32 ^ (2 * K) := by
  rw [Nat.pow_mul]; exact congrArg (· ^ K) (by decide)
theorem sn_of_sz {K : Nat} {q : Rat} (h : Sz K q) : Sn (2 * K) q := by
  have e : Bw ^ K = B32 ^ (2 * K) := b64_32 K
  unfold Sz at h
  unfold Sn
  rw [← e]
  exact h
end Go.Big
namespace Go.Proofs.YtekghemhccfhkaaGreatDoor
open Go.RowKit Go.Big
/-- Text and the operations of the references, with the text as a name. -/
theorem textC {v : Value} {q : Rat} {K : Nat} {S : ByteArray} {w : World} (h : NRat w v q) (hK : K < 10000) (hm : Sn K q) (hS : rs q = S) : Calls Tryz.prog 19 #[v] w (RetB w S) := by
  rw [← hS]; exact ntext_any h (by omega) hm.1 hm.2
end Go.Proofs.YtekghemhccfhkaaGreatDoor
