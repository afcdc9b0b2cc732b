/-
  Walks of the program's functions: PowIn, PowF.
-/
import Derived.Test.YtekghemhccfhkaaGreatDoorB33
import Derived.Test.YtekghemhccfhkaaGreatDoorB20
import Derived.Deep.RegionWith
import Derived.Test.YtekghemhccfhkaaGreatDoorB34
namespace Go.Proofs.YtekghemhccfhkaaGreatDoor
open Go.RowKit Go.Big
set_option maxRecDepth 100000 in
set_option maxHeartbeats 2000000 in
theorem powI_neg {v : Value} {n : Int} {t K : Nat} {w : World} (h : IntV w v n) (ht : t < 18446744073709551616) (hK : K < 100) (hK0 : 0 < K) (hp : n.natAbs ^ t < B64 ^ K) (hb : decide (n < 0) = true) : Calls Tryz.prog 124 #[v, .int .u64 t] w (RetInt w (n ^ t)) := by
  obtain ⟨x, p, rfl⟩ := h.two
  have htm : (t : Int).tmod 2 = (t : Int) % 2 := Int.tmod_eq_emod_of_nonneg (by omega)
  have hnx : ∀ w', Below w.heap.size w w' → Calls Tryz.prog 112 #[.agg #[.int .i64 x, .pointer p]] w' (RetBool w' true) := fun w' hb' => by rw [← hb]; exact negative_any (h.below hb')
  have HNX := Lib.hid hnx
  have HP := Lib.hid (And.intro ht (And.intro hK (And.intro hK0 hp)))
  have HE := Lib.hid (show signed ((t : Int).tmod 2 == 1) (n.natAbs ^ t) = n ^ t from signed_pow n t _ (by rw [hb, htm]; simp))
  clear htm
  obtain ⟨w0, hw0, hb0, k0, k1, hsz⟩ := two_boxes w x p
  have HV := Lib.hid h
  have e1 := k0.c0
  have e2 := k0.c1
  have s1 : w0.drew.cell? ⟨w.heap.size, 0, none⟩ = some (.int .i64 x) := k0.c0
  have s2 : w0.drew.cell? ⟨w.heap.size, 1, none⟩ = some (.pointer p) := k0.c1
  have s3 := hb0.drew
  have k1 : K2 (w.heap.size + 1) 0 none w0.drew := k1
  have HSZ := Lib.hid hsz
  clear k0 hb0 h hsz
  clear ht hp hK hK0 hnx hb
  go_enter Tryz.func124, Tryz.ntmps124
  go_wp2_with fail
  go_region_held3 (fun w' => w'.cell? ⟨w.heap.size, 0, none⟩ = some (.int .i64 x) ∧ w'.cell? ⟨w.heap.size, 1, none⟩ = some (.pointer p) ∧ Below w.heap.size w w') (first | (with_reducible exact ⟨s1, s2, s3⟩) | ((with_reducible refine s_store s1 s2 s3 ?_ ?_) <;> omega) | fail) (first | (go_at_call 112; (with_reducible refine (HNX.out _ s3).mono ?_); rintro e w1 ⟨rfl, hb1⟩; obtain ⟨s1, s2, s3, k1⟩ := s_step s1 s2 s3 k1 hb1) | (go_at_call 114; (with_reducible refine (natural_any (HV.out.below s3)).mono ?_); rintro e w2 ⟨v2, rfl, hv2, hb2⟩; obtain ⟨s1, s2, s3, k1⟩ := s_step s1 s2 s3 k1 hb2) | (go_at_call 157; (with_reducible refine (power_any hv2 HP.out.1 HP.out.2.1 HP.out.2.2.1 HP.out.2.2.2).mono ?_); rintro e w3 ⟨v3, rfl, hv3, hb3⟩; obtain ⟨s1, s2, s3, k1⟩ := s_step s1 s2 s3 k1 hb3) | (go_at_call 113; (with_reducible refine (signed_any _ hv3).mono ?_); rintro e w4 ⟨v4, rfl, hv4, hb4⟩; obtain ⟨s1, s2, s3, k1⟩ := s_step s1 s2 s3 k1 hb4; obtain ⟨y, q, rfl⟩ := hv4.two; have c0 := k1.c0; have c1 := k1.c1; have f0 := k1.f 0; have f1 := k1.f 1) | fail)
  obtain ⟨z1, z2, z3⟩ := ret_box k1 hv4 s3 (by omega)
  rw [HE.out] at z3
  have HZ := Lib.hid z3
  clear s1 s2 s3 k1 c0 c1 f0 f1 hb1 hb2 hb3 hb4 hv2 hv3 hv4 z3
  go_wp2_with fail
  exact bodyPost_ret (v := .agg #[.int .i64 y, .pointer q]) (by simp [results, Tryz.results124, go_sem, z1, z2]) rfl HZ.out
end Go.Proofs.YtekghemhccfhkaaGreatDoor
namespace Go.Proofs.YtekghemhccfhkaaGreatDoor
open Go.RowKit Go.Big
theorem powI_any {v : Value} {n : Int} {t K : Nat} {w : World} (h : IntV w v n) (ht : t < 18446744073709551616) (hK : K < 100) (hK0 : 0 < K) (hp : n.natAbs ^ t < B64 ^ K) : Calls Tryz.prog 124 #[v, .int .u64 t] w (RetInt w (n ^ t)) := by
  by_cases hn : n < 0
  · exact powI_neg h ht hK hK0 hp (decide_eq_true hn)
  · exact powI_pos h ht hK hK0 hp (decide_eq_false hn)
end Go.Proofs.YtekghemhccfhkaaGreatDoor
