/-
  Walks of the program's functions: NOwn.
-/
import Derived.Test.YtekghemhccfhkaaGreatDoorB11
import Derived.Test.YtekghemhccfhkaaGreatDoorB08
import Derived.Test.YtekghemhccfhkaaGreatDoorB03
namespace Go.Big
open Go Go.RowKit
/-- A slice that the call has made itself, at or behind block base: its words. -/
def Ow (w : World) (base : Nat) (e : TypeId) (k : IntKind) (v : Value) (l : List Nat) : Prop := w.ownsRow base e 1 v l.length (l.map fun (n : Nat) => Value.int k (Int.ofNat n))
theorem Ow.nil (w : World) (base : Nat) (e : TypeId) (k : IntKind) : Ow w base e k (.slice none 0 0) [] := World.ownsRow_nil w base e 1
theorem Ow.shape {w : World} {base : Nat} {e : TypeId} {k : IntKind} {v : Value} {l : List Nat} (h : Ow w base e k v l) : ∃ ao cap, v = .slice ao l.length cap := by
  rcases h.2 with ⟨rfl, h0⟩ | ⟨g, cap, cur, rfl, _⟩
  · exact ⟨none, 0, by rw [h0]⟩
  · exact ⟨_, _, rfl⟩
theorem Ow.sl {w : World} {base : Nat} {e : TypeId} {k : IntKind} {ao : Option Addr} {n cap : Nat} {l : List Nat} (h : Ow w base e k (.slice ao n cap) l) (hl : l.length ≤ 1099511627776) : SlA w k ao cap l := by
  rcases h.2 with ⟨e1, h0⟩ | ⟨g, cap', cur, e1, hb, hg, hle, _, _, ht⟩
  · cases e1
    have : l = [] := List.eq_nil_of_length_eq_zero h0
    subst this
    exact SlA.nil _ _ _ _
  · cases e1
    refine ⟨hle, hl, fun _ => ⟨g, 0, rfl, (Array.getElem?_eq_some_iff.1 hg).1, fun j hj => ?_⟩⟩
    rw [Nat.zero_add]
    have h1 : w.cell? ⟨g, j, none⟩ = cur[j]? := by simp [World.cell?, hg]
    rw [h1]
    have h2 : cur[j]? = (cur.toList.take (l.length * 1))[j]? := by rw [List.getElem?_take_of_lt (by omega)]; simp
    rw [h2, ht]
    simp [hj, nth]
theorem Ow.below {w w' : World} {base : Nat} {e : TypeId} {k : IntKind} {v : Value} {l : List Nat} (h : Ow w base e k v l) (hb : Below w.heap.size w w') : Ow w' base e k v l := by
  refine ⟨h.1, ?_⟩
  rcases h.2 with h0 | ⟨g, cap, cur, e1, h1, hg, r⟩
  · exact .inl h0
  · exact .inr ⟨g, cap, cur, e1, h1, by rw [hb.block g (Array.getElem?_eq_some_iff.1 hg).1, hg], r⟩
theorem below_grown {w w' : World} {base : Nat} {row : Option Nat} (h : w.grownBy w' row) (hr : ∀ k, row = some k → base ≤ k) (hb : base ≤ w.heap.size) : Below base w w' :=
  ⟨h.os, h.tape, h.output, h.size, fun k hk => h.block k (by omega) (fun e => by have := hr k e.symm; omega)⟩
/-- One word more. -/
theorem run_app_own {P : Program} {w : World} {base : Nat} {t e : TypeId} {k : IntKind} {bytes : Nat} {v : Value} {l : List Nat} {x : Nat} {ty : TypeId} (ht : P.underlying t = some (.slice e))
    (hi : (P.info? e).map (fun i => (i.zero, i.size, i.bytes)) = some (some (.int k 0), 1, bytes)) (hby : bytes ≤ 8) (h : Ow w base e k v l) (hb : base ≤ w.heap.size) (hl : l.length + 1 ≤ 1099511627776) :
    ∃ v' w', (Builtin.append_ #[t, t] ty #[v, .slice (some ⟨w.heap.size, 0, none⟩) 1 1]).run P (w.alloc (.cells #[.int k (x : Int)] e)) = .ok v' w' ∧ Ow w' base e k v' (l ++ [x]) ∧ Below base w w' ∧ ∀ g, g < w.heap.size → v.ownBlock ≠ some g → w'.heap[g]? = w.heap[g]? := by
  obtain ⟨i, hi', hi⟩ : ∃ i, P.info? e = some i ∧ (i.zero, i.size, i.bytes) = (some (.int k 0), 1, bytes) := by
    cases hq : P.info? e with
    | none => rw [hq] at hi; cases hi
    | some i => rw [hq] at hi; exact ⟨i, rfl, by simpa using hi⟩
  simp only [Prod.mk.injEq] at hi
  have hbx : Below w.heap.size w (w.alloc (.cells #[.int k (x : Int)] e)) := (Below.refl _ _).alloc (Nat.le_refl _) _
  have ho := h.below hbx
  have hbl : (l.length + 1) * bytes ≤ 1099511627776 * 8 := Nat.mul_le_mul hl hby
  obtain ⟨v', w', hr, h1, h2, _⟩ := run_append_own (P := P) (w := w.alloc (.cells #[.int k (x : Int)] e)) base t ty e i (.int k 0) 1 bytes ht hi' hi.1 hi.2.1 hi.2.2 rfl (by decide) v l.length _ ho ⟨w.heap.size, 0, none⟩ 1 1 [.int k (x : Int)] rfl
    (fun j u hj => by
      rcases j with _ | j
      · simp at hj
        subst hj
        have : (⟨w.heap.size, 0, none⟩ : Addr).add 0 = ⟨w.heap.size, 0, none⟩ := by simp [Addr.add]
        rw [this, World.cell?_alloc_new]; rfl
      · simp at hj)
    (fun u hu => by simp at hu; subst hu; rfl) (by unfold maxLen; omega) (by omega) (by simp; omega)
  refine ⟨v', w', hr, ?_, ?_, fun g hg hne => ?_⟩
  · unfold Ow
    rw [List.length_append, List.map_append]
    exact h1
  · have h3 : Below base w (w.alloc (.cells #[.int k (x : Int)] e)) := hbx.mono hb
    refine h3.trans (below_grown h2 (fun k' hk => ?_) (by simp; omega))
    exact (World.ownsRow.lt ho k' hk).1
  · rw [h2.block g (by simp; omega) (Ne.symm hne)]
    exact hbx.block g hg
theorem NatV.keep {w w' : World} {k : IntKind} {B n g o j cap : Nat} (h : NatV w k B (.slice (some ⟨g, o, none⟩) j cap) n) (hg : g < w.heap.size → w'.heap[g]? = w.heap[g]?) (hs : w.heap.size ≤ w'.heap.size) : NatV w' k B (.slice (some ⟨g, o, none⟩) j cap) n := by
  obtain ⟨ao, cap', l, e, hsl, r⟩ := h
  cases e
  refine ⟨_, _, l, rfl, ⟨hsl.le, hsl.max, fun hl => ?_⟩, r⟩
  obtain ⟨b, off, e, hlt, hc⟩ := hsl.cells hl
  cases e
  exact ⟨g, o, rfl, by omega, fun i hi => by rw [← hc i hi]; exact World.cell?_of_block (a := ⟨g, o + i, none⟩) (hg hlt)⟩
theorem Ow.block {w : World} {base : Nat} {e : TypeId} {k : IntKind} {v : Value} {l : List Nat} (h : Ow w base e k v l) {g : Nat} (hg : w.heap.size ≤ g) : v.ownBlock ≠ some g := by
  intro e
  have := (World.ownsRow.lt h g e).2
  omega
/-- The digits without the zeros in front. -/
def sk (l : List Nat) : List Nat := l.dropWhile (· == 48)
theorem sk_snoc : ∀ (l : List Nat) (c : Nat), sk (l ++ [c]) = if sk l = [] ∧ c = 48 then [] else sk l ++ [c]
  | [], c => by
    unfold sk
    by_cases h : c = 48
    · subst h; simp
    · simp [h]
  | x :: l, c => by
    unfold sk
    by_cases h : x = 48
    · subst h
      simp only [List.cons_append, List.dropWhile_cons, beq_self_eq_true, if_true]
      exact sk_snoc l c
    · simp [h]
theorem sk_digs {n v : Nat} (h0 : 0 < v) (h : v < 10 ^ n) : (sk (digs n v)).map UInt8.ofNat = Lib.decDigits v := by
  rw [← digb_strip h0 h]
  unfold sk digb
  have hr := digs_range n v
  generalize digs n v = l at hr
  induction l with
  | nil => rfl
  | cons x l ih =>
    have hx := hr x (by simp)
    have ih := ih (fun y hy => hr y (by simp [hy]))
    rw [List.map_cons, List.dropWhile_cons, List.dropWhile_cons]
    by_cases h : x = 48
    · subst h; simpa using ih
    · have h2 : (UInt8.ofNat x == 48) = false := by
        rw [beq_eq_false_iff_ne]
        intro e
        have := congrArg UInt8.toNat e
        rw [UInt8.toNat_ofNat', Nat.mod_eq_of_lt (by omega)] at this
        exact h this
      rw [h2, beq_eq_false_iff_ne.2 h]; simp
end Go.Big
