/-
  Walks of the program's functions: Pw10.
-/
import Derived.Test.YtekghemhccfhkaaGreatDoorB22
import Derived.Test.YtekghemhccfhkaaGreatDoorB13
import Derived.Deep.LoopGhost
import Derived.Laws.AppendOwn
namespace Go.Big
open Go Go.RowKit
/-- The powers that a number is split at. -/
def tenp (k : Nat) : Nat := 10 ^ (19 * 2 ^ k)
theorem tenp_lt (k : Nat) : tenp k < B64 ^ 2 ^ k := by
  unfold tenp; rw [Nat.pow_mul]
  exact Nat.pow_lt_pow_left (by decide) (by have := Nat.pow_pos (n := k) (show 0 < 2 by decide); omega)
def IsSl (c : Value) : Prop := ∃ ao n m, c = .slice ao n m
/-- A slice of the call's own that holds the first k powers. -/
def OwnPw (B : Nat) (w : World) (v : Value) (k : Nat) : Prop :=
  ∃ g cap cur, v = .slice (some ⟨g, 0, none⟩) k cap ∧ B ≤ g ∧ w.heap[g]? = some (.cells cur 108 (0, 0)) ∧ k ≤ cap ∧ cap ≤ maxLen ∧ cur.size = cap ∧ (∀ c ∈ cur, IsSl c) ∧ ∀ i, i < k → ∃ x, cur[i]? = some x ∧ NatV w .u64 B64 x (tenp i)
theorem OwnPw.below {B : Nat} {w w' : World} {v : Value} {k : Nat} (h : OwnPw B w v k) (hb : Below w.heap.size w w') : OwnPw B w' v k := by
  obtain ⟨g, cap, cur, e, h1, h2, h3, h4, h5, h6, h7⟩ := h
  refine ⟨g, cap, cur, e, h1, by rw [hb.block g (Array.getElem?_eq_some_iff.1 h2).1, h2], h3, h4, h5, h6, fun i hi => ?_⟩
  obtain ⟨x, e1, e2⟩ := h7 i hi
  exact ⟨x, e1, e2.below hb⟩
/-- A slice that holds the first k powers. -/
def PwV (w : World) (v : Value) (k : Nat) : Prop :=
  ∃ ao cap, v = .slice ao k cap ∧ k ≤ cap ∧ ∀ i, i < k → ∃ g x, ao = some ⟨g, 0, none⟩ ∧ w.cell? ⟨g, i, none⟩ = some x ∧ NatV w .u64 B64 x (tenp i)
theorem PwV.below {w w' : World} {v : Value} {k : Nat} (h : PwV w v k) (hb : Below w.heap.size w w') : PwV w' v k := by
  obtain ⟨ao, cap, e, h1, h2⟩ := h
  refine ⟨ao, cap, e, h1, fun i hi => ?_⟩
  obtain ⟨g, x, e1, e2, e3⟩ := h2 i hi
  exact ⟨g, x, e1, (hb.cell (p := ⟨g, i, none⟩) (World.block_lt_of_cell? w _ e2)).trans e2, e3.below hb⟩
theorem PwV.nil (w : World) : PwV w (.slice none 0 0) 0 := ⟨none, 0, rfl, Nat.le_refl _, fun i hi => by omega⟩
theorem PwV.take {w : World} {v : Value} {k : Nat} (h : PwV w v (k + 1)) : ∃ ao cap, v = .slice ao (k + 1) cap ∧ k + 1 ≤ cap ∧ PwV w (.slice ao k cap) k ∧ ∃ g x, ao = some ⟨g, 0, none⟩ ∧ w.cell? ⟨g, k, none⟩ = some x ∧ NatV w .u64 B64 x (tenp k) := by
  obtain ⟨ao, cap, e, h1, h2⟩ := h
  exact ⟨ao, cap, e, h1, ⟨ao, cap, rfl, by omega, fun i hi => h2 i (by omega)⟩, h2 k (by omega)⟩
end Go.Big
namespace Go.Proofs.YtekghemhccfhkaaGreatDoor
open Go.RowKit Go.Big
end Go.Proofs.YtekghemhccfhkaaGreatDoor
