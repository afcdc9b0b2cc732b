/-
  Walks of the program's functions: PUnsS, PUns, PUAny, PUnsL, ParsL, LongP, LongQ.
-/
import Derived.Test.YtekghemhccfhkaaGreatDoorB44
import Derived.Test.YtekghemhccfhkaaGreatDoorB47
import Derived.Test.YtekghemhccfhkaaGreatDoorB39
import Derived.Test.YtekghemhccfhkaaGreatDoorB34
import Derived.Test.YtekghemhccfhkaaGreatDoorB42
import Derived.Test.YtekghemhccfhkaaGreatDoorB37
namespace Go.Proofs.YtekghemhccfhkaaGreatDoor
open Go.RowKit Go.Big
set_option maxRecDepth 100000 in
set_option maxHeartbeats 4000000 in
theorem parseUnsigned_slash2 {s : ByteArray} {i : Nat} (hl : s.size ≤ 608) (hi : i < s.size) (hb : s[i] = 47) (hx : IxOk s i) (w : World) : Calls Tryz.prog 64 #[.string s] w (PuPost (SlashR (s.extract 0 i).data.toList (s.extract (i + 1) s.size).data.toList) w) := by
  obtain ⟨a, ha⟩ : ∃ a, s.extract 0 i = a := ⟨_, rfl⟩
  obtain ⟨b, hbb⟩ : ∃ b, s.extract (i + 1) s.size = b := ⟨_, rfl⟩
  have hal : a.size ≤ 608 := by rw [← ha, ByteArray.size_extract]; omega
  have hbl : b.size ≤ 608 := by rw [← hbb, ByteArray.size_extract]; omega
  rw [ha, hbb]
  obtain ⟨w0, hw0, hs, k0, k1, hz⟩ := boxes2 w #[.int .i64 0, .pointer none] 63 #[.int .i64 0, .pointer none] 63 (ip2 _ _) (ip2 _ _)
  have k0 : K2 w.heap.size 0 none w0 := k0
  have k1 : K2 (w.heap.size + 1) 0 none w0 := k1
  have HX := Lib.hid hx
  have hc : ((s[i].toNat : Nat) : Int) = 47 := by rw [hb]; rfl
  have e1 : ((i : Int)).toNat = i := by simp
  have e2 : ((i : Int) + 1).toNat = i + 1 := by omega
  clear hx hz
  go_enter Tryz.func64, Tryz.ntmps64
  go_wp2_with fail
  refine (HX.out _).mono ?_
  rintro e w1 ⟨rfl, hb1⟩
  have k0 := k0.below hb1
  have k1 := k1.below hb1
  have hs := below_trans hs hb1
  clear hb1
  go_wp2_with fail
  refine (fromDigits_any a hal _).mono ?_
  rintro e w2 ⟨v2, o2, rfl, hb2, hor2⟩
  have hv2 : ∃ x p, v2 = .agg #[.int .i64 x, .pointer p] ∧ (o2 = true ∧ FdOk a.data.toList ∧ IntV w2 (.agg #[.int .i64 x, .pointer p]) (dec a.data.toList) ∨ o2 = false ∧ ¬ FdOk a.data.toList) := fd_shape hor2
  obtain ⟨x, p, rfl, hq2⟩ := hv2
  obtain ⟨w3, hw3, hb3, j8, hz3⟩ := box1 w2 #[.int .i64 x, .pointer p] 63 (ip2 _ _)
  have j8 : K2 w2.heap.size x p w3 := j8
  have hlt8 := Bx.lt (K2.below k1 hb2)
  have hb23 := below_trans hb2 hb3
  have k0 := k0.below hb23
  have k1 := k1.below hb23
  have hs := below_trans hs hb23
  have HO2 := Lib.hid (hq2.imp_left (fun h => And.intro h.1 (And.intro h.2.1 (h.2.2.below hb3))))
  clear hb2 hb3 hb23 hz3 hor2 hq2 hc
  go_wp2_with fail
  refine (fromDigits_any b hbl _).mono ?_
  rintro e w4 ⟨v4, o4, rfl, hb4, hor4⟩
  obtain ⟨y, q, rfl, hq4⟩ := fd_shape hor4
  obtain ⟨w5, hw5, hb5, j10, hz5⟩ := box1 w4 #[.int .i64 y, .pointer q] 63 (ip2 _ _)
  have j10 : K2 w4.heap.size y q w5 := j10
  have hlt10 := Bx.lt (K2.below j8 hb4)
  have hb45 := below_trans hb4 hb5
  have k0 := k0.below hb45
  have k1 := k1.below hb45
  have j8 := j8.below hb45
  have hs := below_trans hs hb45
  have HO2 := Lib.hid (HO2.out.imp_left (fun h => And.intro h.1 (And.intro h.2.1 (h.2.2.below hb45))))
  have HO4 := Lib.hid (hq4.imp_left (fun h => And.intro h.1 (And.intro h.2.1 (h.2.2.below hb5))))
  clear hb4 hb5 hb45 hz5 hor4 hq4
  have c0 := k0.c0
  have c1 := k0.c1
  have d0 := k1.c0
  have d1 := k1.c1
  have f0 := k0.f 0
  have f1 := k0.f 1
  have g0 := k1.f 0
  have g1 := k1.f 1
  have m0 := j8.c0
  have m1 := j8.c1
  have n0 := j10.c0
  have n1 := j10.c1
  have hlt4 : w2.heap.size < w4.heap.size := hlt10
  obtain ⟨ob, hob⟩ : ∃ ob, (o2 && o4) = ob := ⟨_, rfl⟩
  obtain ⟨WW, hWW⟩ : ∃ WW, (((w5.setCell ⟨w.heap.size, 0, none⟩ (.int .i64 x)).setCell ⟨w.heap.size, 1, none⟩ (.pointer p)).setCell ⟨w.heap.size + 1, 0, none⟩ (.int .i64 y)).setCell ⟨w.heap.size + 1, 1, none⟩ (.pointer q) = WW := ⟨_, rfl⟩
  have hne : w.heap.size + 1 ≠ w.heap.size := by omega
  have k1' : K2 (w.heap.size + 1) 0 none (Go.Big.st2 w5 w.heap.size x p) := Bx.other (Bx.other k1 hne _ _) hne _ _
  have k0' : K2 w.heap.size x p (Go.Big.st2 w5 w.heap.size x p) := Bx.set (Bx.set k0 0 (IP.int x)) 1 (IP.ptr p)
  have k0'' : K2 w.heap.size x p WW := by rw [← hWW]; exact Bx.other (Bx.other k0' hne.symm _ _) hne.symm _ _
  have k1'' : K2 (w.heap.size + 1) y q WW := by rw [← hWW]; exact Bx.set (Bx.set k1' 0 (IP.int y)) 1 (IP.ptr q)
  have z0 := k0''.c0
  have z1 := k0''.c1
  have z2 := k1''.c0
  have z3 := k1''.c1
  have hsW : Below w.heap.size w WW := by rw [← hWW]; exact (((hs.setCell (p := ⟨w.heap.size, 0, none⟩) (Nat.le_refl _) (.int .i64 x)).setCell (p := ⟨w.heap.size, 1, none⟩) (Nat.le_refl _) (.pointer p)).setCell (p := ⟨w.heap.size + 1, 0, none⟩) (Nat.le_succ _) (.int .i64 y)).setCell (p := ⟨w.heap.size + 1, 1, none⟩) (Nat.le_succ _) (.pointer q)
  have hmv : ∀ v n, IntV w5 v n → IntV WW.drew v n := fun v n h => by
    rw [← hWW]
    exact ((h.set2 (i := 0) (x := x) (p := p) k0).set2 (i := 0) (x := y) (p := q) k1').drewN 1
  have HFIN := Lib.hid (show PuPost (SlashR a.data.toList b.data.toList) w (.returned (.tuple #[.agg #[.int .i64 x, .pointer p], .agg #[.int .i64 y, .pointer q], .bool ob])) WW.drew from by
    refine ⟨x, p, y, q, ob, rfl, hsW.drew, ?_⟩
    rcases HO2.out with ⟨g2, h2, h3⟩ | ⟨g2, h2⟩
    · rcases HO4.out with ⟨h4, h5, h6⟩ | ⟨h4, h5⟩
      · exact .inl ⟨by rw [← hob, g2, h4]; rfl, _, _, ⟨h2, h5, rfl, rfl⟩, hmv _ _ h3, hmv _ _ h6⟩
      · exact .inr ⟨by rw [← hob, g2, h4]; rfl, fun n d h => h5 h.2.1⟩
    · exact .inr ⟨by rw [← hob, g2]; rfl, fun n d h => h2 h.1⟩)
  clear k0 k1 k0' k1' k0'' k1'' hsW hmv j8 j10 hs
  cases o2
  all_goals
    first | (have hob : o4 = ob := hob; subst hob) | (have hob : false = ob := hob; subst hob)
    go_wp2_with fail
    first | go_region_with (fail) | fail
    all_goals
      go_wp2_with fail
      exact bodyPost_ret (v := .tuple #[.agg #[.int .i64 x, .pointer p], .agg #[.int .i64 y, .pointer q], .bool _]) (by simp [results, Tryz.results64, go_sem, z0, z1, z2, z3]) rfl HFIN.out
end Go.Proofs.YtekghemhccfhkaaGreatDoor
namespace Go.Proofs.YtekghemhccfhkaaGreatDoor
open Go.RowKit Go.Big
def OneR (l : List UInt8) (n d : Nat) : Prop := FdOk l ∧ n = dec l ∧ d = 1
set_option maxRecDepth 100000 in
set_option maxHeartbeats 4000000 in
theorem parseUnsigned_none {s : ByteArray} {i : Int} (hl : s.size ≤ 608) (hi : i < 0) (hx : IxOk s i) (w : World) : Calls Tryz.prog 64 #[.string s] w (PuPost (OneR s.data.toList) w) := by
  obtain ⟨w0, hw0, hs, k0, k1, hz⟩ := boxes2 w #[.int .i64 0, .pointer none] 63 #[.int .i64 0, .pointer none] 63 (ip2 _ _) (ip2 _ _)
  have k0 : K2 w.heap.size 0 none w0 := k0
  have k1 : K2 (w.heap.size + 1) 0 none w0 := k1
  have HX := Lib.hid hx
  clear hx hz
  go_enter Tryz.func64, Tryz.ntmps64
  go_wp2_with fail
  refine (HX.out _).mono ?_
  rintro e w1 ⟨rfl, hb1⟩
  have k0 := k0.below hb1
  have k1 := k1.below hb1
  have hs := below_trans hs hb1
  clear hb1
  go_wp2_with fail
  refine (fromDigits_any s hl _).mono ?_
  rintro e w2 ⟨v2, o2, rfl, hb2, hor2⟩
  obtain ⟨x, p, rfl, hq2⟩ := fd_shape hor2
  obtain ⟨w3, hw3, hb3, j8, hz3⟩ := box1 w2 #[.int .i64 x, .pointer p] 63 (ip2 _ _)
  have j8 : K2 w2.heap.size x p w3 := j8
  have hlt8 := Bx.lt (K2.below k1 hb2)
  have hb23 := below_trans hb2 hb3
  have k0 := k0.below hb23
  have k1 := k1.below hb23
  have k0 : K2 w.heap.size 0 none w3.drew := k0
  have k1 : K2 (w.heap.size + 1) 0 none w3.drew := k1
  have hs : Below w.heap.size w w3.drew := (below_trans hs hb23).drew
  have HO := Lib.hid (hq2.imp_left (fun h => And.intro h.1 (And.intro h.2.1 (h.2.2.below hb3))))
  clear hb2 hb23 hz3 hor2 hq2
  have m0 := j8.c0
  have m1 := j8.c1
  have j8 : K2 w2.heap.size x p w3.drew := j8
  have n0 : w2.heap.size ≠ w.heap.size := by omega
  have n1 : w2.heap.size ≠ w.heap.size + 1 := by omega
  have HIS : Hid (IsS 1) := Lib.hid ⟨by decide, by decide⟩
  have hc : Below w3.heap.size w3 w3.drew := (Below.refl _ _).drew
  go_wp2_with fail
  go_region_held3 (fun w' => w'.cell? ⟨w2.heap.size, 0, none⟩ = some (.int .i64 x) ∧ w'.cell? ⟨w2.heap.size, 1, none⟩ = some (.pointer p)) (first | (with_reducible exact ⟨j8.c0, j8.c1⟩) | (with_reducible exact ⟨(j8.o2 n0 _ _).c0, (j8.o2 n0 _ _).c1⟩) | (with_reducible exact ⟨(j8.o2 n1 _ _).c0, (j8.o2 n1 _ _).c1⟩) | (with_reducible exact ⟨((j8.o2 n0 _ _).o2 n1 _ _).c0, ((j8.o2 n0 _ _).o2 n1 _ _).c1⟩) | (with_reducible exact ⟨((j8.o2 n1 _ _).o2 n0 _ _).c0, ((j8.o2 n1 _ _).o2 n0 _ _).c1⟩) | fail)
    (first | (go_at_call 59; (with_reducible refine (fromInt64_any HIS.out _).mono ?_); rintro e w5 ⟨v5, rfl, hv5, hb5⟩; have k0 := k0.below hb5; have k1 := k1.below hb5; have j8 := j8.below hb5; have hs := below_trans hs hb5; have hc := below_trans hc hb5; obtain ⟨y5, p5, rfl⟩ := hv5.two; have c0 := k0.c0; have c1 := k0.c1; have d0 := k1.c0; have d1 := k1.c1; have f0 := k0.f 0; have f1 := k0.f 1; have g0 := k1.f 0; have g1 := k1.f 1) | fail)
  obtain ⟨WW, hWW⟩ : ∃ WW, (((w5.setCell ⟨w.heap.size, 0, none⟩ (.int .i64 x)).setCell ⟨w.heap.size, 1, none⟩ (.pointer p)).setCell ⟨w.heap.size + 1, 0, none⟩ (.int .i64 y5)).setCell ⟨w.heap.size + 1, 1, none⟩ (.pointer p5) = WW := ⟨_, rfl⟩
  obtain ⟨z0, z1, z2, z3, hsW, hmv⟩ := two_store k0 k1 hs hWW
  rw [hWW]
  have HFIN := Lib.hid (show PuPost (OneR s.data.toList) w (.returned (.tuple #[.agg #[.int .i64 x, .pointer p], .agg #[.int .i64 y5, .pointer p5], .bool o2])) WW from by
    refine ⟨x, p, y5, p5, o2, rfl, hsW, ?_⟩
    rcases HO.out with ⟨h1, h2, h3⟩ | ⟨h1, h2⟩
    · exact .inl ⟨h1, _, _, ⟨h2, rfl, rfl⟩, hmv _ _ (h3.below hc), hmv _ _ hv5⟩
    · exact .inr ⟨h1, fun n d h => h2 h.1⟩)
  clear k0 k1 j8 hs hc hv5 hb5 hsW hmv hWW c0 c1 d0 d1 f0 f1 g0 g1 m0 m1
  go_wp2_with fail
  exact bodyPost_ret (v := .tuple #[.agg #[.int .i64 x, .pointer p], .agg #[.int .i64 y5, .pointer p5], .bool o2]) (by simp [results, Tryz.results64, go_sem, z0, z1, z2, z3]) rfl HFIN.out
set_option maxRecDepth 100000 in
set_option maxHeartbeats 4000000 in
theorem parseUnsigned_dot {s : ByteArray} {i : Nat} (hl : s.size ≤ 608) (hi : i < s.size) (hb : s[i] = 46) (hx : IxOk s i) (w : World) : Calls Tryz.prog 64 #[.string s] w (PuPost (DecR (s.extract 0 i).data.toList (s.extract (i + 1) s.size).data.toList) w) := by
  obtain ⟨a, ha⟩ : ∃ a, s.extract 0 i = a := ⟨_, rfl⟩
  obtain ⟨b, hbb⟩ : ∃ b, s.extract (i + 1) s.size = b := ⟨_, rfl⟩
  have hal : a.size + b.size ≤ 608 := by rw [← ha, ← hbb, ByteArray.size_extract, ByteArray.size_extract]; omega
  rw [ha, hbb]
  obtain ⟨w0, hw0, hs, k0, k1, hz⟩ := boxes2 w #[.int .i64 0, .pointer none] 63 #[.int .i64 0, .pointer none] 63 (ip2 _ _) (ip2 _ _)
  have k0 : K2 w.heap.size 0 none w0 := k0
  have k1 : K2 (w.heap.size + 1) 0 none w0 := k1
  have HX := Lib.hid hx
  have hc : ((s[i].toNat : Nat) : Int) = 46 := by rw [hb]; rfl
  have e1 : ((i : Int)).toNat = i := by simp
  have e2 : ((i : Int) + 1).toNat = i + 1 := by omega
  have hi1 : (0 : Int) ≤ (i : Int) := by omega
  have hi2 : (i : Int) ≤ (s.size : Int) := by omega
  have hi3 : (0 : Int) ≤ (i : Int) + 1 := by omega
  have hi4 : (i : Int) + 1 ≤ (s.size : Int) := by omega
  have hi5 : i ≤ 608 := by omega
  have hsl6 : ∀ w, (Instr.slice 9 (.string s) (some (.int .i64 ((i : Int) + 1))) none none).run Tryz.prog w = .ok (.string b) w := fun w => by
    rw [run_slice_string_from_if (P := Tryz.prog) w 9 s .i64 _ Tryz.underlying9, if_pos ⟨hi3, hi4⟩, e2, hbb]
  have hw6 : IntKind.i64.wrap ((i : Int) + 1) = (i : Int) + 1 := by rw [IntKind.wrap_i64]; omega
  have HPD := Lib.hid (fun w => parseDecimal_any a b hal w)
  clear hx hz hal
  go_enter Tryz.func64, Tryz.ntmps64
  go_wp2_with fail
  refine (HX.out _).mono ?_
  rintro e w1 ⟨rfl, hb1⟩
  have k0 := k0.below hb1
  have k1 := k1.below hb1
  have hs := below_trans hs hb1
  clear hb1
  have k0 : K2 w.heap.size 0 none w1.drew := k0
  have k1 : K2 (w.heap.size + 1) 0 none w1.drew := k1
  have hs : Below w.heap.size w w1.drew := hs.drew
  go_wp2_with fail
  go_region_held3 (fun w' => True) (exact trivial)
    (first | (go_at_call 111; (with_reducible refine (HPD.out _).mono ?_); rintro e w5 ⟨x, p, y5, p5, o2, rfl, hb5, hor⟩; have k0 := k0.below hb5; have k1 := k1.below hb5; have hs := below_trans hs hb5; have c0 := k0.c0; have c1 := k0.c1; have d0 := k1.c0; have d1 := k1.c1; have f0 := k0.f 0; have f1 := k0.f 1; have g0 := k1.f 0; have g1 := k1.f 1) | fail)
  obtain ⟨WW, hWW⟩ : ∃ WW, (((w5.setCell ⟨w.heap.size, 0, none⟩ (.int .i64 x)).setCell ⟨w.heap.size, 1, none⟩ (.pointer p)).setCell ⟨w.heap.size + 1, 0, none⟩ (.int .i64 y5)).setCell ⟨w.heap.size + 1, 1, none⟩ (.pointer p5) = WW := ⟨_, rfl⟩
  obtain ⟨z0, z1, z2, z3, hsW, hmv⟩ := two_store k0 k1 hs hWW
  rw [hWW]
  have HFIN := Lib.hid (show PuPost (DecR a.data.toList b.data.toList) w (.returned (.tuple #[.agg #[.int .i64 x, .pointer p], .agg #[.int .i64 y5, .pointer p5], .bool o2])) WW from by
    refine ⟨x, p, y5, p5, o2, rfl, hsW, ?_⟩
    rcases hor with ⟨h1, n, d, h2, h3, h4⟩ | ⟨h1, h2⟩
    · exact .inl ⟨h1, n, d, h2, hmv _ _ h3, hmv _ _ h4⟩
    · exact .inr ⟨h1, h2⟩)
  clear k0 k1 hs hb5 hor hsW hmv hWW c0 c1 d0 d1 f0 f1 g0 g1
  go_wp2_with fail
  exact bodyPost_ret (v := .tuple #[.agg #[.int .i64 x, .pointer p], .agg #[.int .i64 y5, .pointer p5], .bool o2]) (by simp [results, Tryz.results64, go_sem, z0, z1, z2, z3]) rfl HFIN.out
end Go.Proofs.YtekghemhccfhkaaGreatDoor
namespace Go.Big
open Go Go.RowKit
/-- What a text without a sign stands for. -/
def UForm (m : List UInt8) (n d : Nat) : Prop := Go.Proofs.YtekghemhccfhkaaGreatDoor.OneR m n d ∨ (∃ a b, m = a ++ 47 :: b ∧ Go.Proofs.YtekghemhccfhkaaGreatDoor.SlashR a b n d) ∨ ∃ a b, m = a ++ 46 :: b ∧ DecR a b n d
def NoSep (l : List UInt8) : Prop := ∀ x ∈ l, x ≠ 47 ∧ x ≠ 46
theorem fd_nosep {l : List UInt8} (h : FdOk l) : NoSep l := fun x hx => by
  have := h.1 x hx
  exact ⟨fun e => by rw [e] at this; exact absurd this.1 (by decide), fun e => by rw [e] at this; exact absurd this.1 (by decide)⟩
theorem sep_uniq : ∀ {a a' b b' : List UInt8} {x y : UInt8}, NoSep a → NoSep a' → (x = 47 ∨ x = 46) → (y = 47 ∨ y = 46) → a ++ x :: b = a' ++ y :: b' → a = a' ∧ x = y ∧ b = b'
  | [], [], _, _, _, _, _, _, _, _, h => by simp at h; exact ⟨rfl, h.1, h.2⟩
  | [], z :: a', _, _, x, _, _, h2, hx, _, h => by
    simp at h
    have := h2 z (by simp)
    rw [← h.1] at this
    rcases hx with e | e <;> simp [e] at this
  | z :: a, [], _, _, _, y, h1, _, _, hy, h => by
    simp at h
    have := h1 z (by simp)
    rw [h.1] at this
    rcases hy with e | e <;> simp [e] at this
  | z :: a, z' :: a', _, _, _, _, h1, h2, hx, hy, h => by
    simp at h
    obtain ⟨e1, e2, e3⟩ := sep_uniq (fun x hx => h1 x (by simp [hx])) (fun x hx => h2 x (by simp [hx])) hx hy h.2
    exact ⟨by rw [h.1, e1], e2, e3⟩
theorem uform_none {m : List UInt8} (h : NoSep m) (n d : Nat) : UForm m n d ↔ Go.Proofs.YtekghemhccfhkaaGreatDoor.OneR m n d := by
  constructor
  · rintro (h1 | ⟨a, b, e, _⟩ | ⟨a, b, e, _⟩)
    · exact h1
    · exact absurd rfl (h 47 (by rw [e]; simp)).1
    · exact absurd rfl (h 46 (by rw [e]; simp)).2
  · exact fun h1 => .inl h1
theorem uform_slash {m a b : List UInt8} (e : m = a ++ 47 :: b) (h : NoSep a) (n d : Nat) : UForm m n d ↔ Go.Proofs.YtekghemhccfhkaaGreatDoor.SlashR a b n d := by
  constructor
  · rintro (h1 | ⟨a', b', e', h1⟩ | ⟨a', b', e', h1⟩)
    · exact absurd rfl (fd_nosep h1.1 47 (by rw [e]; simp)).1
    · obtain ⟨rfl, _, rfl⟩ := sep_uniq h (fd_nosep h1.1) (.inl rfl) (.inl rfl) (e.symm.trans e')
      exact h1
    · obtain ⟨_, e2, _⟩ := sep_uniq h (fd_nosep h1.1) (.inl rfl) (.inr rfl) (e.symm.trans e')
      exact absurd e2 (by decide)
  · exact fun h1 => .inr (.inl ⟨a, b, e, h1⟩)
theorem uform_dot {m a b : List UInt8} (e : m = a ++ 46 :: b) (h : NoSep a) (n d : Nat) : UForm m n d ↔ DecR a b n d := by
  constructor
  · rintro (h1 | ⟨a', b', e', h1⟩ | ⟨a', b', e', h1⟩)
    · exact absurd rfl (fd_nosep h1.1 46 (by rw [e]; simp)).2
    · obtain ⟨_, e2, _⟩ := sep_uniq h (fd_nosep h1.1) (.inr rfl) (.inl rfl) (e.symm.trans e')
      exact absurd e2 (by decide)
    · obtain ⟨rfl, _, rfl⟩ := sep_uniq h (fd_nosep h1.1) (.inr rfl) (.inr rfl) (e.symm.trans e')
      exact h1
  · exact fun h1 => .inr (.inr ⟨a, b, e, h1⟩)
theorem ixs_mem (x : UInt8) : ixs.contains x = true ↔ x = 47 ∨ x = 46 := by simp [ixs]
/-- The first separator. -/
theorem first_sep (l : List UInt8) : ∀ n, n ≤ l.length → Lib.NoAny l ixs n ∨ ∃ i x, Lib.NoAny l ixs i ∧ l[i]? = some x ∧ ixs.contains x = true
  | 0, _ => .inl (Lib.NoAny.zero _ _)
  | n + 1, h => by
    rcases first_sep l n (by omega) with h1 | h1
    · obtain ⟨x, hx⟩ : ∃ x, l[n]? = some x := ⟨_, List.getElem?_eq_getElem (by omega)⟩
      cases hc : ixs.contains x
      · exact .inl (h1.succ hx hc)
      · exact .inr ⟨n, x, h1, hx, hc⟩
    · exact .inr h1
theorem noany_nosep {l : List UInt8} {i : Nat} (h : Lib.NoAny l ixs i) : NoSep (l.take i) := fun x hx => by
  obtain ⟨j, hj, e⟩ := List.getElem_of_mem hx
  have hj' : j < i := by rw [List.length_take] at hj; omega
  have h1 := h j x hj' (by rw [List.getElem_take] at e; rw [← e]; exact List.getElem?_eq_getElem _)
  have h2 : ¬ (x = 47 ∨ x = 46) := fun e => by rw [(ixs_mem x).2 e] at h1; cases h1
  exact ⟨fun e => h2 (.inl e), fun e => h2 (.inr e)⟩
end Go.Big
namespace Go.Proofs.YtekghemhccfhkaaGreatDoor
open Go.RowKit Go.Big
theorem PuPost.mono {R R' : Nat → Nat → Prop} {w w' : World} {e : Ending} (h : PuPost R w e w') (hr : ∀ n d, R' n d ↔ R n d) : PuPost R' w e w' := by
  obtain ⟨x, p, y, q, b, rfl, hb, h⟩ := h
  refine ⟨x, p, y, q, b, rfl, hb, ?_⟩
  rcases h with ⟨h1, n, d, h2, h3⟩ | ⟨h1, h2⟩
  · exact .inl ⟨h1, n, d, (hr n d).2 h2, h3⟩
  · exact .inr ⟨h1, fun n d h => h2 n d ((hr n d).1 h)⟩
/-- parseUnsigned -/
theorem parseUnsigned_any (s : ByteArray) (hl : s.size ≤ 608) (w : World) : Calls Tryz.prog 64 #[.string s] w (PuPost (UForm s.data.toList) w) := by
  obtain ⟨l, hll⟩ : ∃ l, s.data.toList = l := ⟨_, rfl⟩
  have hsz : l.length = s.size := by rw [← hll]; exact (Lib.size_eq s).symm
  have hix : IxOk s (Lib.indexAny l ixs) := fun w => by rw [← hll]; exact indexAny_any s (by omega) w
  rw [hll]
  rcases first_sep l l.length (Nat.le_refl _) with h | ⟨i, x, h1, h2, h3⟩
  · rw [Lib.indexAny_none h] at hix
    have hn := noany_nosep h
    rw [List.take_length] at hn
    refine (parseUnsigned_none hl (by omega) hix w).mono fun e w' hp => ?_
    rw [hll] at hp
    exact hp.mono (uform_none hn)
  · rw [Lib.indexAny_hit h1 h2 h3] at hix
    have hi : i < l.length := (List.getElem?_eq_some_iff.1 h2).1
    have his : i < s.size := by omega
    have hx : s[i] = x := by
      have h4 := Lib.data_getElem? s i his
      rw [hll, h2] at h4
      exact (Option.some.inj h4).symm
    have hn := noany_nosep h1
    have e1 : (s.extract 0 i).data.toList = l.take i := by rw [← hll]; simp
    have e2 : (s.extract (i + 1) s.size).data.toList = l.drop (i + 1) := by
      rw [← hll]; simp
      rw [List.take_of_length_le (by rw [List.length_drop, hll, hsz]; omega)]
    have el : l = l.take i ++ x :: l.drop (i + 1) := by
      have := List.drop_eq_getElem_cons hi
      have hg : l[i] = x := by rw [List.getElem?_eq_getElem hi] at h2; exact Option.some.inj h2
      rw [hg] at this
      rw [← this, List.take_append_drop]
    rcases (ixs_mem x).1 h3 with rfl | rfl
    · refine (parseUnsigned_slash2 hl his hx hix w).mono fun e w' hp => ?_
      rw [e1, e2] at hp
      exact hp.mono (uform_slash el hn)
    · refine (parseUnsigned_dot hl his hx hix w).mono fun e w' hp => ?_
      rw [e1, e2] at hp
      exact hp.mono (uform_dot el hn)
end Go.Proofs.YtekghemhccfhkaaGreatDoor
namespace Go.Proofs.YtekghemhccfhkaaGreatDoor
open Go.RowKit Go.Big
set_option maxRecDepth 100000 in
set_option maxHeartbeats 4000000 in
theorem parseUnsigned_noneL {s : ByteArray} {i : Int} (hl : s.size ≤ 9728) (h6 : 608 < s.size) (hi : i < 0) (hx : IxOk s i) (w : World) : Calls Tryz.prog 64 #[.string s] w (PuPost (OneR s.data.toList) w) := by
  obtain ⟨w0, hw0, hs, k0, k1, hz⟩ := boxes2 w #[.int .i64 0, .pointer none] 63 #[.int .i64 0, .pointer none] 63 (ip2 _ _) (ip2 _ _)
  have k0 : K2 w.heap.size 0 none w0 := k0
  have k1 : K2 (w.heap.size + 1) 0 none w0 := k1
  have HX := Lib.hid hx
  clear hx hz
  go_enter Tryz.func64, Tryz.ntmps64
  go_wp2_with fail
  refine (HX.out _).mono ?_
  rintro e w1 ⟨rfl, hb1⟩
  have k0 := k0.below hb1
  have k1 := k1.below hb1
  have hs := below_trans hs hb1
  clear hb1
  go_wp2_with fail
  refine (fromDigits_long s hl h6 _).mono ?_
  rintro e w2 ⟨v2, o2, rfl, hb2, hor2⟩
  obtain ⟨x, p, rfl, hq2⟩ := fd_shape hor2
  obtain ⟨w3, hw3, hb3, j8, hz3⟩ := box1 w2 #[.int .i64 x, .pointer p] 63 (ip2 _ _)
  have j8 : K2 w2.heap.size x p w3 := j8
  have hlt8 := Bx.lt (K2.below k1 hb2)
  have hb23 := below_trans hb2 hb3
  have k0 := k0.below hb23
  have k1 := k1.below hb23
  have k0 : K2 w.heap.size 0 none w3.drew := k0
  have k1 : K2 (w.heap.size + 1) 0 none w3.drew := k1
  have hs : Below w.heap.size w w3.drew := (below_trans hs hb23).drew
  have HO := Lib.hid (hq2.imp_left (fun h => And.intro h.1 (And.intro h.2.1 (h.2.2.below hb3))))
  clear hb2 hb23 hz3 hor2 hq2
  have m0 := j8.c0
  have m1 := j8.c1
  have j8 : K2 w2.heap.size x p w3.drew := j8
  have n0 : w2.heap.size ≠ w.heap.size := by omega
  have n1 : w2.heap.size ≠ w.heap.size + 1 := by omega
  have HIS : Hid (IsS 1) := Lib.hid ⟨by decide, by decide⟩
  have hc : Below w3.heap.size w3 w3.drew := (Below.refl _ _).drew
  go_wp2_with fail
  go_region_held3 (fun w' => w'.cell? ⟨w2.heap.size, 0, none⟩ = some (.int .i64 x) ∧ w'.cell? ⟨w2.heap.size, 1, none⟩ = some (.pointer p)) (first | (with_reducible exact ⟨j8.c0, j8.c1⟩) | (with_reducible exact ⟨(j8.o2 n0 _ _).c0, (j8.o2 n0 _ _).c1⟩) | (with_reducible exact ⟨(j8.o2 n1 _ _).c0, (j8.o2 n1 _ _).c1⟩) | (with_reducible exact ⟨((j8.o2 n0 _ _).o2 n1 _ _).c0, ((j8.o2 n0 _ _).o2 n1 _ _).c1⟩) | (with_reducible exact ⟨((j8.o2 n1 _ _).o2 n0 _ _).c0, ((j8.o2 n1 _ _).o2 n0 _ _).c1⟩) | fail)
    (first | (go_at_call 59; (with_reducible refine (fromInt64_any HIS.out _).mono ?_); rintro e w5 ⟨v5, rfl, hv5, hb5⟩; have k0 := k0.below hb5; have k1 := k1.below hb5; have j8 := j8.below hb5; have hs := below_trans hs hb5; have hc := below_trans hc hb5; obtain ⟨y5, p5, rfl⟩ := hv5.two; have c0 := k0.c0; have c1 := k0.c1; have d0 := k1.c0; have d1 := k1.c1; have f0 := k0.f 0; have f1 := k0.f 1; have g0 := k1.f 0; have g1 := k1.f 1) | fail)
  obtain ⟨WW, hWW⟩ : ∃ WW, (((w5.setCell ⟨w.heap.size, 0, none⟩ (.int .i64 x)).setCell ⟨w.heap.size, 1, none⟩ (.pointer p)).setCell ⟨w.heap.size + 1, 0, none⟩ (.int .i64 y5)).setCell ⟨w.heap.size + 1, 1, none⟩ (.pointer p5) = WW := ⟨_, rfl⟩
  obtain ⟨z0, z1, z2, z3, hsW, hmv⟩ := two_store k0 k1 hs hWW
  rw [hWW]
  have HFIN := Lib.hid (show PuPost (OneR s.data.toList) w (.returned (.tuple #[.agg #[.int .i64 x, .pointer p], .agg #[.int .i64 y5, .pointer p5], .bool o2])) WW from by
    refine ⟨x, p, y5, p5, o2, rfl, hsW, ?_⟩
    rcases HO.out with ⟨h1, h2, h3⟩ | ⟨h1, h2⟩
    · exact .inl ⟨h1, _, _, ⟨h2, rfl, rfl⟩, hmv _ _ (h3.below hc), hmv _ _ hv5⟩
    · exact .inr ⟨h1, fun n d h => h2 h.1⟩)
  clear k0 k1 j8 hs hc hv5 hb5 hsW hmv hWW c0 c1 d0 d1 f0 f1 g0 g1 m0 m1
  go_wp2_with fail
  exact bodyPost_ret (v := .tuple #[.agg #[.int .i64 x, .pointer p], .agg #[.int .i64 y5, .pointer p5], .bool o2]) (by simp [results, Tryz.results64, go_sem, z0, z1, z2, z3]) rfl HFIN.out

theorem parseUnsigned_long (s : ByteArray) (hl : s.size ≤ 9728) (h6 : 608 < s.size) (hns : NoSep s.data.toList) (w : World) : Calls Tryz.prog 64 #[.string s] w (PuPost (OneR s.data.toList) w) := by
  have hix : IxOk s (Lib.indexAny s.data.toList ixs) := fun w => indexAny_any s (by omega) w
  have h : Lib.NoAny s.data.toList ixs s.data.toList.length := fun j x _ hx => by
    have := hns x (List.mem_of_getElem? hx)
    cases hc : ixs.contains x
    · rfl
    · exact ((ixs_mem x).1 hc).elim (fun e => absurd e this.1) (fun e => absurd e this.2)
  rw [Lib.indexAny_none h] at hix
  exact parseUnsigned_noneL hl h6 (by omega) hix w
end Go.Proofs.YtekghemhccfhkaaGreatDoor
namespace Go.Proofs.YtekghemhccfhkaaGreatDoor
open Go.RowKit Go.Big
set_option maxRecDepth 100000 in
set_option maxHeartbeats 4000000 in
theorem text_one {v : Value} {q : Rat} {w : World} (h : FracV w v q) (hT : TabsA w) (hd : q.den = 1) (sq : q.num.natAbs < B64 ^ 426) : Calls Tryz.prog 68 #[v] w (RetStr w (rtext q)) := by
  obtain ⟨a, p, b, r, rfl, ha, hb⟩ := h
  obtain ⟨w0, hw0, hs, k0, hz⟩ := box1 w #[.int .i64 a, .pointer p, .int .i64 b, .pointer r] 65 (ip4 _ _ _ _)
  have k0 : K4 (w.heap.size) a p b r w0 := k0
  have HA := Lib.hid ha
  have HB := Lib.hid hb
  have HS := Lib.hid (And.intro sq hT)
  clear ha hb hz sq hT
  have ek00 := k0.c0
  have ek01 := k0.c1
  have ek02 := k0.c2
  have ek03 := k0.c3
  · have HD := Lib.hid hd
    clear hd
    go_enter Tryz.func68, Tryz.ntmps68
    go_wp2_with fail
    refine (isOne_at (HB.out.below hs) (b := true) (by rw [one_den]; exact decide_eq_true HD.out)).mono ?_
    rintro e w1 ⟨rfl, hb1⟩
    have k0 := k0.below hb1
    have hs := hs.trans (hb1.mono hs.size)
    clear ek00 ek01 ek02 ek03
    have ek00 := k0.c0
    have ek01 := k0.c1
    have ek02 := k0.c2
    have ek03 := k0.c3
    go_wp2_with fail
    refine (string_any426 (HA.out.below hs) (HS.out.2.below hs) HS.out.1).mono ?_
    rintro e w2 ⟨rfl, hb2⟩
    have k0 := k0.below hb2
    have hs := hs.trans (hb2.mono hs.size)
    have HF := Lib.hid hs
    clear k0 hs hb1 hb2 ek00 ek01 ek02 ek03
    go_wp2_with fail
    go_ret
    exact ⟨by unfold rtext; rw [if_pos HD.out, List.append_nil]; rfl, HF.out⟩

def PaDig (R : Nat → Nat → Prop) (w : World) (e : Ending) (w' : World) : Prop :=
  Below w.heap.size w w' ∧ ((∃ n d, R n d ∧ e = .returned (.tuple #[.string ⟨(itext (n : Int)).toArray⟩, .int .i64 0])) ∨ (∀ n d, ¬ R n d) ∧ e = .returned (.tuple #[.string ⟨#[]⟩, .int .i64 6]))
set_option maxRecDepth 100000 in
set_option maxHeartbeats 4000000 in
theorem parse_dig {s : ByteArray} {R : Nat → Nat → Prop} (hl : s.size ≤ 8192) (hm : (unsign s.data.toList).1 = s.data.toList) (hn : (unsign s.data.toList).2 = false)
    (hP : ∀ w, Calls Tryz.prog 64 #[.string s] w (PuPost R w)) (hR : ∀ n d, R n d → n < B64 ^ 426 ∧ d = 1) {w : World} (hT : TabsA w) : Calls Tryz.prog 21 #[.string s] w (PaDig R w) := by
  have HC := Lib.hid (fun w => cutPrefix_at s s false hm hn w)
  have HP := Lib.hid hP
  have HR := Lib.hid hR
  have HT := Lib.hid hT
  have HT0 := Lib.hid hT
  clear hm hn hP hR hT
  go_enter Tryz.func21, Tryz.ntmps21
  go_wp2_with fail
  refine (HC.out _).mono ?_
  rintro e w1 ⟨rfl, rfl⟩
  go_wp2_with fail
  refine (HP.out _).mono ?_
  rintro e w2 ⟨x, p, y, q, b, rfl, hb2, hor⟩
  have hle : w1.heap.size ≤ w2.heap.size := hb2.size
  obtain ⟨w3, hw3, hs3, k0, k1, hz⟩ := boxes2 w2 #[.int .i64 x, .pointer p] 63 #[.int .i64 y, .pointer q] 63 (ip2 _ _) (ip2 _ _)
  have k0 : K2 w2.heap.size x p w3 := k0
  have k1 : K2 (w2.heap.size + 1) y q w3 := k1
  have hs := below_trans hb2 hs3
  have HT := Lib.hid (HT.out.below hs)
  rcases hor with ⟨rfl, n, d, hr, h1, h2⟩ | ⟨rfl, hno⟩
  · have HA := Lib.hid (h1.below hs3)
    have HB := Lib.hid (h2.below hs3)
    have HN := Lib.hid hr
    clear h1 h2 hr hb2 hs3 hz
    have e0 := k0.c0
    have e1 := k0.c1
    have d0 := k1.c0
    have d1 := k1.c1
    have f0 := k0.f 0
    have f1 := k0.f 1
    obtain ⟨sg, hsg⟩ : ∃ sg, Int.sign (d : Int) = sg := ⟨_, rfl⟩
    have HSG := Lib.hid hsg
    clear hsg
    go_wp2_with fail
    refine (sign_at HB.out HSG.out).mono ?_
    rintro e w4 ⟨rfl, hb4⟩
    have k0 := k0.below hb4
    have k1 := k1.below hb4
    have hs := below_trans hs hb4
    have HT := Lib.hid (HT.out.below hb4)
    have HA := Lib.hid (HA.out.below hb4)
    have HB := Lib.hid (HB.out.below hb4)
    clear hb4 e0 e1 d0 d1 f0 f1
    have h0 : ¬ sg = 0 := fun h => by have h1 := HSG.out; rw [h, (HR.out _ _ HN.out).2] at h1; exact absurd h1 (by decide)
    have hz : (sg == 0) = false := by rw [beq_eq_false_iff_ne]; exact h0
    have e0 := k0.c0
    have e1 := k0.c1
    have d0 := k1.c0
    have d1 := k1.c1
    have f0 := k0.f 0
    have f1 := k0.f 1
    have hlt := Bx.lt k1
    obtain ⟨qq, hqq⟩ : ∃ qq : Rat, ((n : Int) : Rat) = qq := ⟨_, rfl⟩
    have HQ := Lib.hid hqq
    have HQ2 := Lib.hid (show qq.num * d = n * qq.den by rw [← hqq, Rat.num_intCast, Rat.den_intCast, (HR.out _ _ HN.out).2])
    have HD1 := Lib.hid (show qq.den = 1 by rw [← hqq]; exact Rat.den_intCast _)
    have HN1 := Lib.hid (show qq.num.natAbs < B64 ^ 426 by rw [← hqq, Rat.num_intCast, Int.natAbs_natCast]; exact (HR.out _ _ HN.out).1)
    clear hqq
    go_wp2_with fail
    refine (reduced_one HA.out HB.out (HR.out _ _ HN.out).2 HQ2.out).mono ?_
    rintro e w5 ⟨v5, rfl, hv5, hb5⟩
    have HV := Lib.hid hv5
    have HT := Lib.hid (HT.out.below hb5)
    have HF := Lib.hid (below_trans hs hb5)
    clear hv5 hb5 e0 e1 d0 d1 f0 f1 k0 k1 hs
    go_wp2_with fail
    refine (text_one HV.out HT.out HD1.out HN1.out).mono ?_
    rintro e w6 ⟨rfl, hb6⟩
    have HF := Lib.hid (below_trans HF.out hb6)
    clear hb6
    go_wp2_with fail
    refine bodyPost_ret (v := .tuple #[.string ⟨(rtext qq).toArray⟩, .int .i64 0]) (by simp [results, Tryz.results21, go_sem]) rfl ⟨HF.out, .inl ⟨n, d, HN.out, ?_⟩⟩
    rw [itext_rs, HQ.out]
  · have HN := Lib.hid hno
    have HF := Lib.hid hs
    clear hno hb2 hs3 hz k0 k1 hs
    go_wp2_with fail
    exact bodyPost_ret (v := .tuple #[.string ⟨#[]⟩, .int .i64 6]) (by simp [results, Tryz.results21, go_sem]) rfl ⟨HF.out, .inr ⟨HN.out, rfl⟩⟩
end Go.Proofs.YtekghemhccfhkaaGreatDoor
namespace Go.Proofs.YtekghemhccfhkaaGreatDoor
open Go.RowKit Go.Big
theorem tmod8232 (n : Int) : (0 ≤ n.tmod 8232 → n.tmod 8232 = n % 8232) ∧ (n.tmod 8232 < 0 → n.tmod 8232 + 8232 = n % 8232) ∧ -8232 < n.tmod 8232 ∧ n.tmod 8232 < 8232 := by
  rcases Int.lt_or_le n 0 with h | h
  · obtain ⟨k, rfl⟩ : ∃ k, n = -k := ⟨-n, by omega⟩
    rw [Int.neg_tmod, Int.tmod_eq_emod_of_nonneg (by omega)]
    omega
  · rw [Int.tmod_eq_emod_of_nonneg h]
    omega
set_option maxRecDepth 100000 in
set_option maxHeartbeats 1000000 in
theorem mod8232 (n : Int) (w : World) : Calls Tryz.prog 23 #[.int .i64 n, .int .i64 8232] w fun e w' => e = .returned (.int .i64 (n % 8232)) ∧ w' = w := by
  have H := tmod8232 n
  obtain ⟨r, hr⟩ : ∃ r, n.tmod 8232 = r := ⟨_, rfl⟩
  rw [hr] at H
  obtain ⟨H1, H2, H3, H4⟩ := H
  by_cases h : r < 0
  · have e := H2 h
    have HE := Lib.hid e
    clear H1 H2 e
    go_enter Tryz.func23, Tryz.ntmps23
    go_wp2_with fail
    go_ret
    exact ⟨by rw [← HE.out]; rfl, rfl⟩
  · have e := H1 (by omega)
    have HE := Lib.hid e
    clear H1 H2 e
    go_enter Tryz.func23, Tryz.ntmps23
    go_wp2_with fail
    go_ret
    exact ⟨by rw [← HE.out]; rfl, rfl⟩

theorem dig_lt {l : List UInt8} {a K : Nat} (hd : Dig l) (hl : l.length ≤ 64 * a) (hK : 213 * a = 64 * K) : dec l < B64 ^ K := by
  refine Nat.lt_of_lt_of_le (dec_lt hd) (Nat.le_trans (Nat.pow_le_pow_right (by decide) hl) ?_)
  rw [B64_pow, ← hK, Nat.pow_mul, Nat.pow_mul]
  exact Nat.pow_le_pow_left (by decide) _
def RetTE2 (w : World) (S : ByteArray) (c : Int) (e : Ending) (w' : World) : Prop := e = .returned (.tuple #[.string S, .int .i64 c]) ∧ Below w.heap.size w w'
set_option maxRecDepth 100000 in
set_option maxHeartbeats 1000000 in
theorem parse_limit {s : ByteArray} (hl : 8192 < s.size) (w : World) : Calls Tryz.prog 21 #[.string s] w (RetTE2 w ⟨#[]⟩ 2) := by
  go_enter Tryz.func21, Tryz.ntmps21
  go_wp2_with fail
  exact bodyPost_ret (v := .tuple #[.string ⟨#[]⟩, .int .i64 2]) (by simp [results, Tryz.results21, go_sem]) rfl ⟨rfl, Below.refl _ _⟩
/-- The text of n digits d. -/
def same (n d : Nat) : List UInt8 := List.replicate n (UInt8.ofNat (48 + d))
theorem same_dig {n d : Nat} (hd : d < 10) : Dig (same n d) := fun b hb => by
  have := List.eq_of_mem_replicate hb
  rw [this, UInt8.toNat_ofNat']; omega
theorem parse_same {n d : Nat} (hd : d < 10) (hn : n ≤ 8192) {w : World} (hT : TabsA w) : Calls Tryz.prog 21 #[.string ⟨(same n d).toArray⟩] w (RetTE2 w (if n = 0 then ⟨#[]⟩ else ⟨(itext (dec (same n d) : Nat)).toArray⟩) (if n = 0 then 6 else 0)) := by
  have hlen : (same n d).length = n := List.length_replicate
  have hns : NoSep (same n d) := fun x hx => by
    have := same_dig hd x hx
    exact ⟨fun e => by rw [e] at this; exact absurd this.1 (by decide), fun e => by rw [e] at this; exact absurd this.1 (by decide)⟩
  have hu : unsign (same n d) = (same n d, false) := by
    unfold unsign
    split
    · next e =>
      have := same_dig hd 45 (by rw [e]; simp)
      exact absurd this.1 (by decide)
    · rfl
  have hR : ∀ a b, OneR (same n d) a b → a < B64 ^ 426 ∧ b = 1 := fun a b ⟨h1, h2, h3⟩ => by
    exact ⟨h2 ▸ dig_lt (a := 128) (K := 426) h1.1 (by omega) (by decide), h3⟩
  have hP : ∀ w, Calls Tryz.prog 64 #[.string ⟨(same n d).toArray⟩] w (PuPost (OneR (same n d)) w) := fun w => by
    rcases Nat.lt_or_ge 608 n with h | h
    · exact parseUnsigned_long ⟨(same n d).toArray⟩ (by rw [Lib.size_mk, hlen]; omega) (by rw [Lib.size_mk, hlen]; omega) hns w
    · exact (parseUnsigned_any ⟨(same n d).toArray⟩ (by rw [Lib.size_mk, hlen]; omega) w).mono fun e w' hp => hp.mono fun a b => (uform_none hns a b).symm
  refine (parse_dig (by rw [Lib.size_mk, hlen]; exact hn) (by rw [hu]) (by rw [hu]) hP hR hT).mono fun e w' hp => ?_
  obtain ⟨hb, h⟩ := hp
  by_cases h0 : n = 0
  · rw [if_pos h0, if_pos h0]
    rcases h with ⟨a, b, h1, _⟩ | ⟨_, rfl⟩
    · subst h0; exact absurd rfl h1.1.2
    · exact ⟨rfl, hb⟩
  · rw [if_neg h0, if_neg h0]
    rcases h with ⟨a, b, h1, rfl⟩ | ⟨h1, _⟩
    · rw [h1.2.1]; exact ⟨rfl, hb⟩
    · exact absurd ⟨⟨same_dig hd, fun e => h0 (by rw [← hlen, e]; rfl)⟩, rfl, rfl⟩ (h1 (dec (same n d)) 1)
end Go.Proofs.YtekghemhccfhkaaGreatDoor
namespace Go.Proofs.YtekghemhccfhkaaGreatDoor
open Go.RowKit Go.Big
theorem dec_same0 : ∀ n, dec (same n 0) = 0
  | 0 => rfl
  | n + 1 => by
    have h : same (n + 1) 0 = same n 0 ++ [UInt8.ofNat (48 + 0)] := by unfold same; exact List.replicate_succ'
    rw [h, dec_snoc, dec_same0 n]; rfl
theorem itext_same0 (n : Nat) : itext (dec (same n 0) : Nat) = [48] := by
  have h1 : Lib.decDigits 0 = [48] := dd_of (l := [48]) (fun b hb => by rw [List.mem_singleton.1 hb]; decide) (by simp) (fun h => absurd h (by decide))
  rw [dec_same0]
  unfold itext
  rw [if_neg (by omega)]
  exact h1
theorem itext_same {n d : Nat} (hd : d < 10) (h0 : n ≠ 0) (hd0 : d ≠ 0) : itext (dec (same n d) : Nat) = same n d := by
  have h1 : Lib.decDigits (dec (same n d)) = same n d := dd_of (same_dig hd) (by unfold same; simp [h0]) (fun _ b m e => by
    have h2 : b ∈ same n d := by rw [e]; simp
    rw [List.eq_of_mem_replicate h2, UInt8.toNat_ofNat']; omega)
  unfold itext
  rw [if_neg (by omega), Int.natAbs_natCast, h1]
theorem long_parse {n d : Nat} (hd : d < 10) : ∃ S c, (∀ w, TabsA w → Calls Tryz.prog 21 #[.string ⟨(same n d).toArray⟩] w (RetTE2 w S c)) ∧ (8192 < n → S = ⟨#[]⟩ ∧ c = 2) ∧ (n ≤ 8192 → n = 0 → S = ⟨#[]⟩ ∧ c = 6) ∧
    (n ≤ 8192 → n ≠ 0 → d = 0 → S = ⟨#[48]⟩ ∧ c = 0) ∧ (n ≤ 8192 → n ≠ 0 → d ≠ 0 → S = ⟨(same n d).toArray⟩ ∧ c = 0) := by
  rcases Nat.lt_or_ge 8192 n with h | h
  · exact ⟨⟨#[]⟩, 2, fun w _ => parse_limit (by rw [Lib.size_mk]; unfold same; rw [List.length_replicate]; exact h) w, fun _ => ⟨rfl, rfl⟩, fun h1 => absurd h1 (by omega), fun h1 => absurd h1 (by omega), fun h1 => absurd h1 (by omega)⟩
  · refine ⟨_, _, fun w hT => parse_same hd h hT, fun h1 => absurd h1 (by omega), fun _ h0 => ?_, fun _ h0 hd0 => ?_, fun _ h0 hd0 => ?_⟩
    · rw [if_pos h0, if_pos h0]; exact ⟨rfl, rfl⟩
    · rw [if_neg h0, if_neg h0, hd0, itext_same0]; exact ⟨rfl, rfl⟩
    · rw [if_neg h0, if_neg h0, itext_same hd h0 hd0]; exact ⟨rfl, rfl⟩
def LlRel (w : World) (N c : Nat) (k : Nat) (y : Value) (wr : World) : Prop :=
  ∃ i, i + k = N ∧ y = .int .i64 (i : Nat) ∧ isRow wr w.heap.size 5 .u8 (List.replicate i c ++ zeros (N - i)) ∧ Below w.heap.size w wr ∧ w.heap.size < wr.heap.size
theorem fill_set {i N c : Nat} (h : i < N) : (List.replicate i c ++ zeros (N - i)).set i c = List.replicate (i + 1) c ++ zeros (N - (i + 1)) := by
  obtain ⟨z, hz⟩ : ∃ z, N - i = z + 1 := ⟨N - i - 1, by omega⟩
  have hz2 : N - (i + 1) = z := by omega
  rw [hz, hz2, List.set_append_right _ _ (by rw [List.length_replicate]; omega), List.length_replicate, Nat.sub_self, List.replicate_succ', List.append_assoc]
  rfl
theorem LlRel.next {w wr : World} {N c i : Nat} (h : i < N) (hr : isRow wr w.heap.size 5 .u8 (List.replicate i c ++ zeros (N - i))) (hb : Below w.heap.size w wr) {v : Int} (hv : v = (c : Int)) {k : Nat} (hk : i + k = N) : LlRel w N c (k - 1) (.int .i64 ((i : Int) + 1)) (wr.setCell ⟨w.heap.size, i, none⟩ (.int .u8 v)) := by
  subst hv
  have h1 := hr.storeRow i c
  rw [fill_set h] at h1
  exact ⟨i + 1, by omega, by rw [Int.natCast_add]; rfl, h1, hb.setCell (p := ⟨w.heap.size, i, none⟩) (Nat.le_refl _) _, h1.lt⟩
theorem conv_same {w : World} {g N c d : Nat} (hc : 48 + d = c) (hd : d < 10) (hr : isRow w g 5 .u8 (List.replicate N c)) : (convert 39 9 (.slice (some ⟨g, 0, none⟩) N N)).run Tryz.prog w = .ok (.string ⟨(same N d).toArray⟩) w := by
  have hlen : (same N d).length = N := List.length_replicate
  have := run_convert_bytes_back (P := Tryz.prog) w 39 9 5 ⟨g, 0, none⟩ N (same N d) Tryz.underlying39 Tryz.underlying5 Tryz.underlying9 (fun j hj => by
    rw [hlen] at hj
    have h1 := hr.cell (i := j) (by rw [List.length_replicate]; exact hj)
    have h2 : (⟨g, 0, none⟩ : Addr).add j = ⟨g, j, none⟩ := by unfold Addr.add; split <;> simp_all
    rw [h2, h1]
    have h3 : nth (List.replicate N c) j = c := by rw [nth_lt (by rw [List.length_replicate]; exact hj)]; simp
    have h5 : (same N d)[j]'(by rw [hlen]; exact hj) = UInt8.ofNat c := by simp [same, hc]
    rw [h5, h3, UInt8.toNat_ofNat', Nat.mod_eq_of_lt (by omega)])
  rw [hlen] at this
  exact this
end Go.Proofs.YtekghemhccfhkaaGreatDoor
