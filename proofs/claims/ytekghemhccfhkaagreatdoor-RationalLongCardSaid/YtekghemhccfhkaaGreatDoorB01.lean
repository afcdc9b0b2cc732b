/-
  Walks of the program's functions: Base.
-/
import Derived.Test.YtekghemhccfhkaaGreatDoorRows
import Derived.WalkKit
import Derived.WalkSpells
import Derived.WalkLawsBesides
namespace Go.Big
open Go Go.RowKit

def nth (l : List Nat) (i : Nat) : Nat := l.getD i 0
theorem nth_lt {l : List Nat} {i : Nat} (h : i < l.length) : nth l i = l[i] := by simp [nth, h]
def cellsOf (k : IntKind) (l : List Nat) : Array Value := (l.map fun (n : Nat) => Value.int k (Int.ofNat n)).toArray
def wput (w : World) (g : Nat) (k : IntKind) (l : List Nat) : World := w.setRow g (cellsOf k l)
def isRow (w : World) (g : Nat) (t : TypeId) (k : IntKind) (l : List Nat) : Prop := w.heap[g]? = some (.cells (cellsOf k l) t (0, 0))

theorem cellsOf_get {k : IntKind} {l : List Nat} {i : Nat} (h : i < l.length) : (cellsOf k l)[i]? = some (.int k (nth l i)) := by
  simp [cellsOf, h, nth]
theorem cellsOf_set (k : IntKind) (l : List Nat) (i x : Nat) : (cellsOf k l).setIfInBounds i (.int k (x : Int)) = cellsOf k (l.set i x) := by
  simp [cellsOf, List.map_set]

theorem isRow.lt {w : World} {g : Nat} {t : TypeId} {k : IntKind} {l : List Nat} (h : isRow w g t k l) : g < w.heap.size := (Array.getElem?_eq_some_iff.1 h).1
theorem isRow.cell {w : World} {g : Nat} {t : TypeId} {k : IntKind} {l : List Nat} (h : isRow w g t k l) {i : Nat} (hi : i < l.length) : w.cell? ⟨g, i, none⟩ = some (.int k (nth l i)) := by
  unfold isRow at h
  simp [World.cell?, h, cellsOf_get hi]
theorem isRow.frozen {w : World} {g : Nat} {t : TypeId} {k : IntKind} {l : List Nat} (h : isRow w g t k l) (i : Nat) : w.frozen? ⟨g, i, none⟩ = false := by
  unfold isRow at h
  simp [World.frozen?, h]
theorem isRow.put {w : World} {g : Nat} {t : TypeId} {k : IntKind} {l : List Nat} (h : isRow w g t k l) (l' : List Nat) : isRow (wput w g k l') g t k l' :=
  setRow_heap w g _ _ t (0, 0) h
theorem put_other (w : World) {g : Nat} (k : IntKind) (l : List Nat) {a : Addr} (h : a.block ≠ g) : (wput w g k l).cell? a = w.cell? a := cell_setRow_other w g _ a h
theorem put_put (w : World) (g : Nat) (k : IntKind) (l l' : List Nat) : wput (wput w g k l) g k l' = wput w g k l' := setRow_setRow w g _ _
theorem put_self {w : World} {g : Nat} {t : TypeId} {k : IntKind} {l : List Nat} (h : isRow w g t k l) : wput w g k l = w := setRow_self w g _ t (0, 0) h
theorem isRow.store {w : World} {g : Nat} {t : TypeId} {k : IntKind} {l : List Nat} (h : isRow w g t k l) (i x : Nat) :
    w.setCell ⟨g, i, none⟩ (.int k (x : Int)) = wput w g k (l.set i x) := by
  rw [setCell_eq_setRow w g i _ t (0, 0) _ h, cellsOf_set]; rfl
theorem put_store {w : World} {g : Nat} {t : TypeId} {k : IntKind} {l : List Nat} (h : isRow w g t k l) (l' : List Nat) (i x : Nat) :
    (wput w g k l').setCell ⟨g, i, none⟩ (.int k (x : Int)) = wput w g k (l'.set i x) := by
  rw [(h.put l').store, put_put]
theorem put_size (w : World) (g : Nat) (k : IntKind) (l : List Nat) : (wput w g k l).heap.size = w.heap.size := setRow_size _ _ _

def addLo (x y c : Nat) : Nat := (x + y + c) % 18446744073709551616
def addHi (x y c : Nat) : Nat := (x + y + c) / 18446744073709551616
end Go.Big
namespace Go.Proofs.YtekghemhccfhkaaGreatDoor
open Go.RowKit Go.Big
theorem run_add (x y c : Nat) (hc : c ≤ 1) (w : World) :
    (callFunc 222 #[.int .u64 x, .int .u64 y, .int .u64 c]).run Tryz.prog w =
      .ok (.value (.tuple #[.int .u64 (addLo x y c), .int .u64 (addHi x y c)])) w := by
  rw [run_callFunc_extern Tryz.func222 (by kernel_rfl) (by kernel_rfl) (by kernel_rfl) (e := add64Entry) (by kernel_rfl), run_add64 x y c (by omega) (by omega) (by omega) (by omega)]
  simp only [Result.andThen, addLo, addHi]
  congr 5 <;> omega
end Go.Proofs.YtekghemhccfhkaaGreatDoor
