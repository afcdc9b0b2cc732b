/-
  Walks of the program's functions: App1, NApp.
-/
import Derived.Test.YtekghemhccfhkaaGreatDoorB04
import Derived.Test.YtekghemhccfhkaaGreatDoorB03
import Derived.ArgAppend
namespace Go.Proofs.YtekghemhccfhkaaGreatDoor
open Go.RowKit Go.Big
/-- append of one word, in place. -/
theorem run_append1 {w : World} {g cap c m : Nat} {A post : List Nat} {x : Nat} {a : Addr} {ty : TypeId} (hg : isRow w g 71 .u64 (A ++ x :: post)) (ha : w.cell? a = some (.int .u64 (c : Int))) (hroom : A.length + 1 ≤ cap) :
    (Builtin.append_ #[108, 108] ty #[.slice (some ⟨g, 0, none⟩) A.length cap, .slice (some a) 1 m]).run Tryz.prog w = .ok (.slice (some ⟨g, 0, none⟩) (A.length + 1) cap) (wput w g .u64 (A ++ c :: post)) := by
  have hq : (Tryz.prog.info? 71).map (·.size) = some 1 := by kernel_rfl
  obtain ⟨i, hi, hs⟩ : ∃ i, Tryz.prog.info? 71 = some i ∧ i.size = 1 := by
    cases h : Tryz.prog.info? 71 with
    | none => rw [h] at hq; cases hq
    | some i => rw [h] at hq; exact ⟨i, rfl, by simpa using hq⟩
  have hadd : a.add 0 = a := by simp [Addr.add]
  have hc0 := hg.cell (i := A.length) (by simp)
  have hf0 := hg.frozen A.length
  have := run_append_room_cells (P := Tryz.prog) (w := w) 108 ty 71 i Tryz.underlying108 hi g 0 A.length cap a 1 m [.int .u64 (c : Int)] (by simp [hs])
    (fun j u hj => by
      cases j with
      | zero => simp at hj; rw [hadd, ha, hj]
      | succ j => simp at hj)
    (fun u hu => by simp at hu; subst hu; rfl) hroom
    (fun j hj => by
      have : j = 0 := by simpa using hj
      subst this
      simp only [hs, Nat.mul_one, Nat.zero_add, Nat.add_zero, hc0, Option.isSome_some])
    (fun j hj => by
      have : j = 0 := by simpa using hj
      subst this
      simpa [hs] using hf0)
  rw [this]
  have e : w.setCell ⟨g, A.length, none⟩ (.int .u64 (c : Int)) = wput w g .u64 (A ++ c :: post) := by
    have h1 := put_store hg (A ++ x :: post) A.length c
    have hl : (A ++ x :: post).set A.length c = A ++ c :: post := by rw [List.set_append_right _ _ (Nat.le_refl _), Nat.sub_self]; rfl
    rw [hl, put_self hg] at h1
    exact h1
  simp [World.setCells, hs, e]
end Go.Proofs.YtekghemhccfhkaaGreatDoor
namespace Go.Proofs.YtekghemhccfhkaaGreatDoor
open Go.RowKit Go.Big
theorem app_info : ∃ i, Tryz.prog.info? 73 = some i ∧ i.zero = some (.int .u32 0) ∧ i.size = 1 ∧ i.bytes = 4 := by
  have hq : (Tryz.prog.info? 73).map (fun i => (i.zero, i.size, i.bytes)) = some (some (.int .u32 0), 1, 4) := by kernel_rfl
  cases h : Tryz.prog.info? 73 with
  | none => rw [h] at hq; cases hq
  | some i =>
    rw [h] at hq
    simp only [Option.map_some, Option.some.injEq, Prod.mk.injEq] at hq
    exact ⟨i, rfl, hq.1, hq.2.1, hq.2.2⟩
/-- 'append([]uint32{}, a...)'. -/
theorem run_append_copy {w : World} {b : Addr} {ao : Option Addr} {cap : Nat} {la : List Nat} {ty : TypeId} (sa : SlA w .u32 ao cap la) :
    ∃ bo cap' w', (Builtin.append_ #[28, 28] ty #[.slice (some b) 0 0, .slice ao la.length cap]).run Tryz.prog w = .ok (.slice bo la.length cap') w' ∧ SlA w' .u32 bo cap' la ∧ Below w.heap.size w w' := by
  obtain ⟨i, hi, hz, hs, hb⟩ := app_info
  have hm := sa.len_le
  rcases Nat.eq_zero_or_pos la.length with h0 | hpos
  · have : la = [] := List.eq_nil_of_length_eq_zero h0
    subst this
    have hf : (Builtin.firstCells i.size 0 (.slice ao 0 cap)).run Tryz.prog w = .ok #[] w := by
      cases ao with
      | none => exact run_firstCells_none (P := Tryz.prog) w i.size 0 0 cap
      | some a => exact run_firstCells_some (P := Tryz.prog) w i.size 0 a 0 cap [] (by simp) (by simp)
    refine ⟨some b, 0, w, ?_, SlA.nil _ _ _ _, Below.refl _ _⟩
    simp [Builtin.append_, run_underlying Tryz.underlying28, sizeOf, typeInfo, hi, Builtin.lenOf, hf, storeCells]
  · obtain ⟨g, o, rfl, _, hc⟩ := sa.at hpos
    have hnews : ∀ j v, (la.map fun (n : Nat) => Value.int .u32 (Int.ofNat n))[j]? = some v → w.cell? ((⟨g, o, none⟩ : Addr).add j) = some v := by
      intro j v hj
      have hjl : j < la.length := by
        rcases Nat.lt_or_ge j la.length with h | h
        · exact h
        · simp [List.getElem?_eq_none h] at hj
      have e : (⟨g, o, none⟩ : Addr).add j = ⟨g, o + j, none⟩ := by unfold Addr.add; split <;> simp_all
      rw [e, hc j hjl]
      simp [hjl] at hj
      rw [← hj, nth_lt hjl]
    have hr := run_append_grow (P := Tryz.prog) (w := w) 28 ty 73 i (.int .u32 0) Tryz.underlying28 hi hz b 0 0 [] (by simp) (by simp) ⟨g, o, none⟩ la.length cap (la.map fun (n : Nat) => Value.int .u32 (Int.ofNat n)) (by simp [hs]) hnews
      (by omega) (by omega) (growslice_fits (by omega) (by rw [hb]; omega))
    simp only [Nat.zero_add] at hr
    refine ⟨_, _, _, hr, ⟨?_, hm, fun _ => ⟨w.heap.size, 0, rfl, by simp, fun j hj => ?_⟩⟩, ?_⟩
    · have := grownCap_ge w (0 + la.length) 0 73
      simpa using this
    · have e1 : ∀ cs : Array Value, (w.drew.alloc (.cells cs 73)).cell? ⟨w.heap.size, 0 + j, none⟩ = cs[j]? := fun cs => by
        rw [Nat.zero_add]; exact World.cell?_alloc_new w.drew _ _ j
      rw [e1, Array.getElem?_append_left (by simp; exact hj), ]
      simp [hj, nth]
    · exact (below_drewN (Below.refl w.heap.size w) 1).alloc (Nat.le_refl _) _
end Go.Proofs.YtekghemhccfhkaaGreatDoor
