/-
  Walks of the program's functions: PDec.
-/
import Derived.Test.YtekghemhccfhkaaGreatDoorB37
import Derived.Test.YtekghemhccfhkaaGreatDoorB43
import Derived.Test.YtekghemhccfhkaaGreatDoorB39
namespace Go.Big
open Go Go.RowKit
def DecR (a b : List UInt8) (n d : Nat) : Prop := FdOk a ∧ FdOk b ∧ n = dec (a ++ b) ∧ d = 10 ^ b.length
theorem ne_nil {a : ByteArray} (h : a ≠ ⟨#[]⟩) : a.toList.isEmpty = false ∧ a.data.toList ≠ [] := by
  have h2 : a.data.toList ≠ [] := fun e => h (by cases a with | mk d => cases d with | mk l => simp at e; subst e; rfl)
  refine ⟨?_, h2⟩
  rw [Lib.toList_data]
  cases hh : a.data.toList with
  | nil => exact absurd hh h2
  | cons _ _ => rfl
theorem dec_r {a b : List UInt8} (ha : a ≠ []) (hb : b ≠ []) : (Dig (a ++ b) ∧ a ++ b ≠ []) ↔ FdOk a ∧ FdOk b := by
  constructor
  · rintro ⟨h, _⟩
    exact ⟨⟨fun x hx => h x (List.mem_append_left _ hx), ha⟩, fun x hx => h x (List.mem_append_right _ hx), hb⟩
  · rintro ⟨h1, h2⟩
    exact ⟨h1.1.append h2.1, by simp [ha]⟩
end Go.Big
namespace Go.Proofs.YtekghemhccfhkaaGreatDoor
open Go.RowKit Go.Big
theorem two_store {w w5 WW : World} {x0 x1 y y' : Int} {p0 p1 q q' : Option Addr} (k0 : K2 w.heap.size x0 p0 w5) (k1 : K2 (w.heap.size + 1) x1 p1 w5) (hs : Below w.heap.size w w5)
    (hWW : (((w5.setCell ⟨w.heap.size, 0, none⟩ (.int .i64 y)).setCell ⟨w.heap.size, 1, none⟩ (.pointer q)).setCell ⟨w.heap.size + 1, 0, none⟩ (.int .i64 y')).setCell ⟨w.heap.size + 1, 1, none⟩ (.pointer q') = WW) :
    WW.cell? ⟨w.heap.size, 0, none⟩ = some (.int .i64 y) ∧ WW.cell? ⟨w.heap.size, 1, none⟩ = some (.pointer q) ∧ WW.cell? ⟨w.heap.size + 1, 0, none⟩ = some (.int .i64 y') ∧ WW.cell? ⟨w.heap.size + 1, 1, none⟩ = some (.pointer q') ∧
      Below w.heap.size w WW ∧ ∀ v n, IntV w5 v n → IntV WW v n := by
  have hne : w.heap.size + 1 ≠ w.heap.size := by omega
  have k1' : K2 (w.heap.size + 1) x1 p1 (Go.Big.st2 w5 w.heap.size y q) := Bx.other (Bx.other k1 hne _ _) hne _ _
  have k0' : K2 w.heap.size y q (Go.Big.st2 w5 w.heap.size y q) := Bx.set (Bx.set k0 0 (IP.int y)) 1 (IP.ptr q)
  have k0'' : K2 w.heap.size y q WW := by rw [← hWW]; exact Bx.other (Bx.other k0' hne.symm _ _) hne.symm _ _
  have k1'' : K2 (w.heap.size + 1) y' q' WW := by rw [← hWW]; exact Bx.set (Bx.set k1' 0 (IP.int y')) 1 (IP.ptr q')
  refine ⟨k0''.c0, k0''.c1, k1''.c0, k1''.c1, ?_, fun v n h => ?_⟩
  · rw [← hWW]; exact (((hs.setCell (p := ⟨w.heap.size, 0, none⟩) (Nat.le_refl _) (.int .i64 y)).setCell (p := ⟨w.heap.size, 1, none⟩) (Nat.le_refl _) (.pointer q)).setCell (p := ⟨w.heap.size + 1, 0, none⟩) (Nat.le_succ _) (.int .i64 y')).setCell (p := ⟨w.heap.size + 1, 1, none⟩) (Nat.le_succ _) (.pointer q')
  · rw [← hWW]; exact (h.set2 (i := 0) (x := y) (p := q) k0).set2 (i := 0) (x := y') (p := q') k1'
theorem pu_none {R : Nat → Nat → Prop} {w w0 : World} (hb : Below w.heap.size w w0) (hno : ∀ n d, ¬ R n d) : PuPost R w (.returned (.tuple #[.agg #[.int .i64 0, .pointer none], .agg #[.int .i64 0, .pointer none], .bool false])) w0 :=
  ⟨_, _, _, _, _, rfl, hb, .inr ⟨rfl, hno⟩⟩
set_option maxRecDepth 100000 in
set_option maxHeartbeats 2000000 in
theorem parseDecimal_empty (a b : ByteArray) (h : a = ⟨#[]⟩ ∨ a ≠ ⟨#[]⟩ ∧ b = ⟨#[]⟩) (w : World) : Calls Tryz.prog 111 #[.string a, .string b] w (PuPost (DecR a.data.toList b.data.toList) w) := by
  obtain ⟨w0, hw0, hs, k0, k1, hz⟩ := boxes2 w #[.int .i64 0, .pointer none] 63 #[.int .i64 0, .pointer none] 63 (ip2 _ _) (ip2 _ _)
  have k0 : K2 w.heap.size 0 none w0 := k0
  have k1 : K2 (w.heap.size + 1) 0 none w0 := k1
  have hno : ∀ n d, ¬ DecR a.data.toList b.data.toList n d := by
    rintro n d ⟨h1, h2, _⟩
    rcases h with rfl | ⟨_, rfl⟩
    · exact h1.2 rfl
    · exact h2.2 rfl
  have HN := Lib.hid hno
  obtain ⟨WW, hWW⟩ : ∃ WW, (((w0.setCell ⟨w.heap.size, 0, none⟩ (.int .i64 0)).setCell ⟨w.heap.size, 1, none⟩ (.pointer none)).setCell ⟨w.heap.size + 1, 0, none⟩ (.int .i64 0)).setCell ⟨w.heap.size + 1, 1, none⟩ (.pointer none) = WW := ⟨_, rfl⟩
  obtain ⟨z0, z1, z2, z3, hsW, _⟩ := two_store k0 k1 hs hWW
  have HS := Lib.hid hsW
  have c0 := k0.c0
  have c1 := k0.c1
  have d0 := k1.c0
  have d1 := k1.c1
  have f0 := k0.f 0
  have f1 := k0.f 1
  have g0 := k1.f 0
  have g1 := k1.f 1
  have hne : w.heap.size + 1 ≠ w.heap.size := by omega
  clear hno hs hz hsW
  rcases h with rfl | ⟨h1, rfl⟩
  · go_enter Tryz.func111, Tryz.ntmps111
    go_wp2_with fail
    exact bodyPost_ret (v := .tuple #[.agg #[.int .i64 0, .pointer none], .agg #[.int .i64 0, .pointer none], .bool false]) (by simp [results, Tryz.results111, go_sem, z0, z1, z2, z3]) rfl (pu_none HS.out HN.out)
  · have he := (ne_nil h1).1
    go_enter Tryz.func111, Tryz.ntmps111
    go_wp2_with fail
    exact bodyPost_ret (v := .tuple #[.agg #[.int .i64 0, .pointer none], .agg #[.int .i64 0, .pointer none], .bool false]) (by simp [results, Tryz.results111, go_sem, z0, z1, z2, z3]) rfl (pu_none HS.out HN.out)
end Go.Proofs.YtekghemhccfhkaaGreatDoor
namespace Go.Proofs.YtekghemhccfhkaaGreatDoor
open Go.RowKit Go.Big
theorem b32d {n : Nat} (h : n ≤ 608) : (10 : Int).natAbs ^ n < B64 ^ 2 ^ 5 := by
  refine Nat.lt_of_le_of_lt ?_ (tenp_lt 5)
  have h0 : n ≤ 19 * 2 ^ 5 := by omega
  unfold tenp
  generalize 19 * 2 ^ 5 = e at *
  exact Nat.pow_le_pow_right (by decide) h0
set_option maxRecDepth 100000 in
set_option maxHeartbeats 4000000 in
theorem parseDecimal_full (a b : ByteArray) (ha : a ≠ ⟨#[]⟩) (hb : b ≠ ⟨#[]⟩) (hl : a.size + b.size ≤ 608) (w : World) : Calls Tryz.prog 111 #[.string a, .string b] w (PuPost (DecR a.data.toList b.data.toList) w) := by
  obtain ⟨w0, hw0, hs, k0, k1, hz⟩ := boxes2 w #[.int .i64 0, .pointer none] 63 #[.int .i64 0, .pointer none] 63 (ip2 _ _) (ip2 _ _)
  have k0 : K2 w.heap.size 0 none w0 := k0
  have k1 : K2 (w.heap.size + 1) 0 none w0 := k1
  have he1 := (ne_nil ha).1
  have he2 := (ne_nil hb).1
  obtain ⟨t, ht⟩ : ∃ t, a ++ b = t := ⟨_, rfl⟩
  have htl : t.data.toList = a.data.toList ++ b.data.toList := by rw [← ht]; simp
  have hts : t.size ≤ 608 := by rw [← ht]; simp; omega
  have HF := Lib.hid (fun w => fromDigits_any t hts w)
  have HD := Lib.hid (dec_r (ne_nil ha).2 (ne_nil hb).2)
  have HT := Lib.hid htl
  have hov : ¬ (9223372036854775807 < (a.size : Int) + (b.size : Int)) := by omega
  have hbs : b.size ≤ 608 := by omega
  obtain ⟨L, hL⟩ : ∃ L, b.size = L := ⟨_, rfl⟩
  have HL := Lib.hid (show b.data.toList.length = L from by rw [← hL]; exact (Lib.size_eq b).symm)
  clear ha hb htl hts hl hz
  go_enter Tryz.func111, Tryz.ntmps111
  go_wp2_with fail
  refine (HF.out _).mono ?_
  rintro e w2 ⟨v2, o2, rfl, hb2, hor2⟩
  obtain ⟨x, p, rfl, hq2⟩ := fd_shape hor2
  rw [HT.out] at hq2
  obtain ⟨w3, hw3, hb3, j8, hz3⟩ := box1 w2 #[.int .i64 x, .pointer p] 63 (ip2 _ _)
  have j8 : K2 w2.heap.size x p w3 := j8
  have hlt8 := Bx.lt (K2.below k1 hb2)
  have hb23 := below_trans hb2 hb3
  have k0 := k0.below hb23
  have k1 := k1.below hb23
  have k0 : K2 w.heap.size 0 none w3.drew := k0
  have k1 : K2 (w.heap.size + 1) 0 none w3.drew := k1
  have hs : Below w.heap.size w w3.drew := (below_trans hs hb23).drew
  have HO := Lib.hid (hq2.imp_left (fun h => And.intro h.1 (And.intro h.2.1 (h.2.2.below hb3))))
  clear hb2 hb23 hz3 hor2 hq2
  have m0 := j8.c0
  have m1 := j8.c1
  have j8 : K2 w2.heap.size x p w3.drew := j8
  have n0 : w2.heap.size ≠ w.heap.size := by omega
  have n1 : w2.heap.size ≠ w.heap.size + 1 := by omega
  have HIS : Hid (IsS 10) := Lib.hid ⟨by decide, by decide⟩
  have hL6 : L ≤ 608 := by omega
  have hwL : IntKind.u64.wrap (L : Int) = (L : Int) := by rw [IntKind.wrap_u64]; omega
  have HPW := Lib.hid (b32d hL6)
  have hc : Below w3.heap.size w3 w3.drew := (Below.refl _ _).drew
  have hLb : L < 18446744073709551616 := by omega
  go_wp2_with fail
  go_region_held3 (fun w' => w'.cell? ⟨w2.heap.size, 0, none⟩ = some (.int .i64 x) ∧ w'.cell? ⟨w2.heap.size, 1, none⟩ = some (.pointer p)) (first | (with_reducible exact ⟨j8.c0, j8.c1⟩) | (with_reducible exact ⟨(j8.o2 n0 _ _).c0, (j8.o2 n0 _ _).c1⟩) | (with_reducible exact ⟨(j8.o2 n1 _ _).c0, (j8.o2 n1 _ _).c1⟩) | (with_reducible exact ⟨((j8.o2 n0 _ _).o2 n1 _ _).c0, ((j8.o2 n0 _ _).o2 n1 _ _).c1⟩) | (with_reducible exact ⟨((j8.o2 n1 _ _).o2 n0 _ _).c0, ((j8.o2 n1 _ _).o2 n0 _ _).c1⟩) | fail)
    (first | (go_at_call 59; (with_reducible refine (fromInt64_any HIS.out _).mono ?_); rintro e w4 ⟨v4, rfl, hv4, hb4⟩; have k0 := k0.below hb4; have k1 := k1.below hb4; have j8 := j8.below hb4; have hs := below_trans hs hb4; have hc := below_trans hc hb4) | (go_at_call 124; (with_reducible refine (powI_any hv4 hLb (by decide) (by decide) HPW.out).mono ?_); rintro e w5 ⟨v5, rfl, hv5, hb5⟩; have k0 := k0.below hb5; have k1 := k1.below hb5; have j8 := j8.below hb5; have hs := below_trans hs hb5; have hc := below_trans hc hb5; obtain ⟨y5, p5, rfl⟩ := hv5.two; have c0 := k0.c0; have c1 := k0.c1; have d0 := k1.c0; have d1 := k1.c1; have f0 := k0.f 0; have f1 := k0.f 1; have g0 := k1.f 0; have g1 := k1.f 1) | fail)
  obtain ⟨WW, hWW⟩ : ∃ WW, (((w5.setCell ⟨w.heap.size, 0, none⟩ (.int .i64 x)).setCell ⟨w.heap.size, 1, none⟩ (.pointer p)).setCell ⟨w.heap.size + 1, 0, none⟩ (.int .i64 y5)).setCell ⟨w.heap.size + 1, 1, none⟩ (.pointer p5) = WW := ⟨_, rfl⟩
  obtain ⟨z0, z1, z2, z3, hsW, hmv⟩ := two_store k0 k1 hs hWW
  rw [hWW]
  have HFIN := Lib.hid (show PuPost (DecR a.data.toList b.data.toList) w (.returned (.tuple #[.agg #[.int .i64 x, .pointer p], .agg #[.int .i64 y5, .pointer p5], .bool o2])) WW from by
    refine ⟨x, p, y5, p5, o2, rfl, hsW, ?_⟩
    rcases HO.out with ⟨h1, h2, h3⟩ | ⟨h1, h2⟩
    · obtain ⟨e1, e2⟩ := HD.out.1 h2
      exact .inl ⟨h1, _, _, ⟨e1, e2, rfl, rfl⟩, hmv _ _ (h3.below hc), hmv _ _ (by rw [HL.out, Int.natCast_pow]; exact hv5)⟩
    · exact .inr ⟨h1, fun n d h => h2 (HD.out.2 ⟨h.1, h.2.1⟩)⟩)
  clear k0 k1 j8 hs hc hv4 hv5 hb4 hb5 hsW hmv hWW c0 c1 d0 d1 f0 f1 g0 g1 m0 m1
  go_wp2_with fail
  exact bodyPost_ret (v := .tuple #[.agg #[.int .i64 x, .pointer p], .agg #[.int .i64 y5, .pointer p5], .bool o2]) (by simp [results, Tryz.results111, go_sem, z0, z1, z2, z3]) rfl HFIN.out
theorem parseDecimal_any (a b : ByteArray) (hl : a.size + b.size ≤ 608) (w : World) : Calls Tryz.prog 111 #[.string a, .string b] w (PuPost (DecR a.data.toList b.data.toList) w) := by
  by_cases ha : a = ⟨#[]⟩
  · exact parseDecimal_empty a b (.inl ha) w
  · by_cases hb : b = ⟨#[]⟩
    · exact parseDecimal_empty a b (.inr ⟨ha, hb⟩) w
    · exact parseDecimal_full a b ha hb hl w
end Go.Proofs.YtekghemhccfhkaaGreatDoor
