/-
  Walks of the program's functions: Apply.
-/
import Derived.Test.YtekghemhccfhkaaGreatDoorB17
import Derived.Test.YtekghemhccfhkaaGreatDoorB23
import Derived.Deep.RegionHeld3
namespace Go.Proofs.YtekghemhccfhkaaGreatDoor
open Go.RowKit Go.Big
theorem minusProducts_any {va vb : Value} {m k x y r : Nat} {w : World} (ha : NatV w .u64 B64 va m) (hb : NatV w .u64 B64 vb k) (hx : x < 18446744073709551616) (hy : y < 18446744073709551616)
    (e : x * m = y * k + r) (hr : r ≤ m ∨ r ≤ k) : Calls Tryz.prog 199 #[va, .int .u64 x, vb, .int .u64 y] w (RetNat w r) := by
  obtain ⟨ao, capa, la, rfl, sa, wa, na, rfl⟩ := ha
  obtain ⟨bo, capb, lb, rfl, sb, wb, nb, rfl⟩ := hb
  have h1 := val_lt wa
  have h2 := val_lt wb
  have h3 : B64 ^ la.length ≤ B64 ^ max la.length lb.length := Nat.pow_le_pow_right (by decide) (Nat.le_max_left _ _)
  have h4 : B64 ^ lb.length ≤ B64 ^ max la.length lb.length := Nat.pow_le_pow_right (by decide) (Nat.le_max_right _ _)
  have h5 : r < B64 ^ max la.length lb.length := by
    rcases hr with h | h
    · exact Nat.lt_of_le_of_lt h (Nat.lt_of_lt_of_le h1 h3)
    · exact Nat.lt_of_le_of_lt h (Nat.lt_of_lt_of_le h2 h4)
  have := minusProducts_core ao bo capa capb la lb x y _ w sa sb wa wb hx hy rfl (by omega) (by omega)
  rwa [show x * val B64 la - y * val B64 lb = r by omega] at this
/-- What a call behind the box leaves: the box's cells, and all that was there. -/
def ApPost (w0 w' : World) (g aA bA aB bB r : Nat) (e : Ending) (w1 : World) : Prop :=
  ∃ v, e = .returned v ∧ NatV w1 .u64 B64 v r ∧ Below w'.heap.size w' w1 ∧ w1.cell? ⟨g, 1, none⟩ = some (.int .u64 aA) ∧ w1.cell? ⟨g, 2, none⟩ = some (.int .u64 bA) ∧
    w1.cell? ⟨g, 3, none⟩ = some (.int .u64 aB) ∧ w1.cell? ⟨g, 4, none⟩ = some (.int .u64 bB) ∧ Below w0.heap.size w0 w1
theorem minusProducts_ap {va vb : Value} {m k x y r : Nat} {w0 : World} (ha : NatV w0 .u64 B64 va m) (hb : NatV w0 .u64 B64 vb k) (hx : x < 18446744073709551616) (hy : y < 18446744073709551616)
    (e : x * m = y * k + r) (hr : r ≤ m ∨ r ≤ k) {g aA bA aB bB : Nat} (k1 : w0.cell? ⟨g, 1, none⟩ = some (.int .u64 aA)) (k2 : w0.cell? ⟨g, 2, none⟩ = some (.int .u64 bA))
    (k3 : w0.cell? ⟨g, 3, none⟩ = some (.int .u64 aB)) (k4 : w0.cell? ⟨g, 4, none⟩ = some (.int .u64 bB)) (w' : World) (hw : Below w0.heap.size w0 w') :
    Calls Tryz.prog 199 #[va, .int .u64 x, vb, .int .u64 y] w' (ApPost w0 w' g aA bA aB bB r) := by
  refine (minusProducts_any (ha.below hw) (hb.below hw) hx hy e hr).mono ?_
  rintro e' w1 ⟨v, rfl, hv, hbel⟩
  have h := below_trans hw hbel
  have hg := World.block_lt_of_cell? w0 _ k1
  exact ⟨v, rfl, hv, hbel, (h.cell (p := ⟨g, 1, none⟩) hg).trans k1, (h.cell (p := ⟨g, 2, none⟩) hg).trans k2, (h.cell (p := ⟨g, 3, none⟩) hg).trans k3, (h.cell (p := ⟨g, 4, none⟩) hg).trans k4, h⟩
set_option maxRecDepth 100000 in
set_option maxHeartbeats 1000000 in
/-- apply -/
theorem apply_any {va vb : Value} {S m k c aA bA aB bB x y P Q : Nat} {w : World} (ha : NatV w .u64 B64 va m) (hb : NatV w .u64 B64 vb k) (hinv : FsInv S m k c aA bA aB bB x y P Q) (hcnt : FsCnt c aA bA aB bB y)
    (hc : c < 17179869184) : Calls Tryz.prog 165 #[.agg #[.int .i64 c, .int .u64 aA, .int .u64 bA, .int .u64 aB, .int .u64 bB], va, vb] w (RetNat2 w P Q) := by
  obtain ⟨w0, hw0⟩ : ∃ w0, w.alloc (.cells #[.int .i64 c, .int .u64 aA, .int .u64 bA, .int .u64 aB, .int .u64 bB] 164) = w0 := ⟨_, rfl⟩
  have hbel : Below w.heap.size w w0 := by rw [← hw0]; exact (Below.refl _ _).alloc (Nat.le_refl _) _
  have hrow : w0.heap[w.heap.size]? = some (.cells #[.int .i64 c, .int .u64 aA, .int .u64 bA, .int .u64 aB, .int .u64 bB] 164 (0, 0)) := by rw [← hw0]; exact heap_alloc_new w _
  have k0 : w0.cell? ⟨w.heap.size, 0, none⟩ = some (.int .i64 c) := by simp [World.cell?, hrow]
  have k1 : w0.cell? ⟨w.heap.size, 1, none⟩ = some (.int .u64 aA) := by simp [World.cell?, hrow]
  have k2 : w0.cell? ⟨w.heap.size, 2, none⟩ = some (.int .u64 bA) := by simp [World.cell?, hrow]
  have k3 : w0.cell? ⟨w.heap.size, 3, none⟩ = some (.int .u64 aB) := by simp [World.cell?, hrow]
  have k4 : w0.cell? ⟨w.heap.size, 4, none⟩ = some (.int .u64 bB) := by simp [World.cell?, hrow]
  have HB := Lib.hid hbel
  have ha0 := ha.below hbel
  have hb0 := hb.below hbel
  by_cases ht : c % 2 = 0
  · have ht' : ((c : Int) % 2 == 0) = true := by rw [beq_iff_eq]; omega
    have l1 := (Lin.even ht).1 hinv.lP
    have l2 := (Lin.odd (by omega)).1 hinv.lQ
    have C1 := Lib.hid (minusProducts_ap ha0 hb0 hcnt.a1 hcnt.a2 l1 (.inl hinv.hPm) k1 k2 k3 k4)
    have C2 := Lib.hid (minusProducts_ap hb0 ha0 hcnt.a4 hcnt.a3 l2 (.inl hinv.hQk) k1 k2 k3 k4)
    have B0 : Hid (Below w0.heap.size w0 w0.drew) := Lib.hid (below_drewN (Below.refl w0.heap.size w0) 1)
    clear ha hb hinv hcnt hbel hrow ha0 hb0 l1 l2 ht
    go_enter Tryz.func165, Tryz.ntmps165
    go_wp2_with fail
    go_region_held3 (fun w' => w'.cell? ⟨w.heap.size, 1, none⟩ = some (.int .u64 aA) ∧ w'.cell? ⟨w.heap.size, 2, none⟩ = some (.int .u64 bA) ∧ w'.cell? ⟨w.heap.size, 3, none⟩ = some (.int .u64 aB) ∧ w'.cell? ⟨w.heap.size, 4, none⟩ = some (.int .u64 bB) ∧ Below w0.heap.size w0 w')
      (first | exact ⟨k1, k2, k3, k4, B0.out⟩ | exact ⟨s1, s2, s3, s4, s5⟩ | fail)
      (first | (go_at_call 199; (with_reducible refine (C1.out _ B0.out).mono ?_); rintro e w1 ⟨v, rfl, hv, hb1, s1, s2, s3, s4, s5⟩) | (go_at_call 199; (with_reducible refine (C2.out _ s5).mono ?_); rintro e w2 ⟨v2, rfl, hv2, hb2, s1, s2, s3, s4, s5⟩) | fail)
    have hv1 := hv.below hb2
    have hB := Lib.hid (below_trans HB.out s5)
    clear s1 s2 s3 s4 s5 hv hb1 hb2 C1 C2 B0 HB k0 k1 k2 k3 k4
    go_wp2_with fail
    refine bodyPost_ret (v := .tuple #[v, v2]) (by simp [results, Tryz.results165, go_sem]) rfl ⟨v, v2, rfl, hv1, hv2, hB.out⟩
  · have ht' : ((c : Int) % 2 == 0) = false := by rw [beq_eq_false_iff_ne]; omega
    have l1 := (Lin.odd ht).1 hinv.lP
    have l2 := (Lin.even (by omega)).1 hinv.lQ
    have C1 := Lib.hid (minusProducts_ap hb0 ha0 hcnt.a2 hcnt.a1 l1 (.inr hinv.hPm) k1 k2 k3 k4)
    have C2 := Lib.hid (minusProducts_ap ha0 hb0 hcnt.a3 hcnt.a4 l2 (.inr hinv.hQk) k1 k2 k3 k4)
    have B0 : Hid (Below w0.heap.size w0 w0.drew) := Lib.hid (below_drewN (Below.refl w0.heap.size w0) 1)
    clear ha hb hinv hcnt hbel hrow ha0 hb0 l1 l2 ht
    go_enter Tryz.func165, Tryz.ntmps165
    go_wp2_with fail
    go_region_held3 (fun w' => w'.cell? ⟨w.heap.size, 1, none⟩ = some (.int .u64 aA) ∧ w'.cell? ⟨w.heap.size, 2, none⟩ = some (.int .u64 bA) ∧ w'.cell? ⟨w.heap.size, 3, none⟩ = some (.int .u64 aB) ∧ w'.cell? ⟨w.heap.size, 4, none⟩ = some (.int .u64 bB) ∧ Below w0.heap.size w0 w')
      (first | exact ⟨k1, k2, k3, k4, B0.out⟩ | exact ⟨s1, s2, s3, s4, s5⟩ | fail)
      (first | (go_at_call 199; (with_reducible refine (C1.out _ B0.out).mono ?_); rintro e w1 ⟨v, rfl, hv, hb1, s1, s2, s3, s4, s5⟩) | (go_at_call 199; (with_reducible refine (C2.out _ s5).mono ?_); rintro e w2 ⟨v2, rfl, hv2, hb2, s1, s2, s3, s4, s5⟩) | fail)
    have hv1 := hv.below hb2
    have hB := Lib.hid (below_trans HB.out s5)
    clear s1 s2 s3 s4 s5 hv hb1 hb2 C1 C2 B0 HB k0 k1 k2 k3 k4
    go_wp2_with fail
    refine bodyPost_ret (v := .tuple #[v, v2]) (by simp [results, Tryz.results165, go_sem]) rfl ⟨v, v2, rfl, hv1, hv2, hB.out⟩
end Go.Proofs.YtekghemhccfhkaaGreatDoor
