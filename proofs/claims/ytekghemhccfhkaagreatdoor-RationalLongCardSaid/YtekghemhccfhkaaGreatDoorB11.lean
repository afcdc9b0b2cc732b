/-
  Walks of the program's functions: App1.
-/
import Derived.Test.YtekghemhccfhkaaGreatDoorB04
import Derived.Test.YtekghemhccfhkaaGreatDoorB03
import Derived.ArgAppend
namespace Go.Proofs.YtekghemhccfhkaaGreatDoor
open Go.RowKit Go.Big
/-- append of one word, in place. -/
theorem run_append1 {w : World} {g cap c m : Nat} {A post : List Nat} {x : Nat} {a : Addr} {ty : TypeId} (hg : isRow w g 71 .u64 (A ++ x :: post)) (ha : w.cell? a = some (.int .u64 (c : Int))) (hroom : A.length + 1 ≤ cap) :
    (Builtin.append_ #[108, 108] ty #[.slice (some ⟨g, 0, none⟩) A.length cap, .slice (some a) 1 m]).run Tryz.prog w = .ok (.slice (some ⟨g, 0, none⟩) (A.length + 1) cap) (wput w g .u64 (A ++ c :: post)) := by
  have hq : (Tryz.prog.info? 71).map (·.size) = some 1 := by kernel_rfl
  obtain ⟨i, hi, hs⟩ : ∃ i, Tryz.prog.info? 71 = some i ∧ i.size = 1 := by
    cases h : Tryz.prog.info? 71 with
    | none => rw [h] at hq; cases hq
    | some i => rw [h] at hq; exact ⟨i, rfl, by simpa using hq⟩
  have hadd : a.add 0 = a := by simp [Addr.add]
  have hc0 := hg.cell (i := A.length) (by simp)
  have hf0 := hg.frozen A.length
  have := run_append_room_cells (P := Tryz.prog) (w := w) 108 ty 71 i Tryz.underlying108 hi g 0 A.length cap a 1 m [.int .u64 (c : Int)] (by simp [hs])
    (fun j u hj => by
      cases j with
      | zero => simp at hj; rw [hadd, ha, hj]
      | succ j => simp at hj)
    (fun u hu => by simp at hu; subst hu; rfl) hroom
    (fun j hj => by
      have : j = 0 := by simpa using hj
      subst this
      simp only [hs, Nat.mul_one, Nat.zero_add, Nat.add_zero, hc0, Option.isSome_some])
    (fun j hj => by
      have : j = 0 := by simpa using hj
      subst this
      simpa [hs] using hf0)
  rw [this]
  have e : w.setCell ⟨g, A.length, none⟩ (.int .u64 (c : Int)) = wput w g .u64 (A ++ c :: post) := by
    have h1 := put_store hg (A ++ x :: post) A.length c
    have hl : (A ++ x :: post).set A.length c = A ++ c :: post := by rw [List.set_append_right _ _ (Nat.le_refl _), Nat.sub_self]; rfl
    rw [hl, put_self hg] at h1
    exact h1
  simp [World.setCells, hs, e]
end Go.Proofs.YtekghemhccfhkaaGreatDoor
