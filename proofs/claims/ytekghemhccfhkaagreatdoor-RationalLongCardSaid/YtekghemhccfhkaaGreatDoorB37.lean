/-
  Walks of the program's functions: Api2, Pars, Pars2, Awake, Awake2, Short, LawC.
-/
import Derived.Test.YtekghemhccfhkaaGreatDoorB36
namespace Go.Big
open Go Go.RowKit
end Go.Big
namespace Go.Proofs.YtekghemhccfhkaaGreatDoor
open Go.RowKit Go.Big
theorem _root_.Go.Proofs.YtekghemhccfhkaaGreatDoor.TabsA.tabs {w : World} (h : TabsA w) : Tabs w := h.1
theorem FracV.mk4 {w : World} {a b : Int} {p r : Option Addr} {q : Rat} (h1 : IntV w (.agg #[.int .i64 a, .pointer p]) q.num) (h2 : IntV w (.agg #[.int .i64 b, .pointer r]) (q.den : Int)) : FracV w (.agg #[.int .i64 a, .pointer p, .int .i64 b, .pointer r]) q := ⟨_, _, _, _, rfl, h1, h2⟩
def DivPost (w : World) (a b : Rat) (e : Ending) (w' : World) : Prop := Below w.heap.size w w' ∧ (b = 0 ∧ e = .returned (.tuple #[.string ⟨#[]⟩, .bool false]) ∨ b ≠ 0 ∧ e = .returned (.tuple #[.string (rs (a * b⁻¹)), .bool true]))
set_option maxRecDepth 100000 in
set_option maxHeartbeats 4000000 in
theorem divA {s t : ByteArray} {K : Nat} (hs : s.size ≤ 608) (ht : t.size ≤ 608) (hK : K < 100) (s1 : Sz K (qv s)) (s2 : Sz K (qv t)) (sr : Sz 31 (qv s * (qv t)⁻¹)) {w : World} (hT : TabsA w) : Calls Tryz.prog 35 #[.string s, .string t] w (DivPost w (qv s) (qv t)) := by
  have HL := Lib.hid (And.intro hs ht)
  have HT := Lib.hid hT
  have HK := Lib.hid hK
  have HZ := Lib.hid (And.intro s1 (And.intro s2 sr))
  clear hs ht hT hK s1 s2 sr
  go_enter Tryz.func35, Tryz.ntmps35
  go_wp2_with fail
  refine (value_any t HL.out.2 _ HT.out.1).mono ?_
  rintro e w1 ⟨v1, rfl, ⟨a, p, b, r, rfl, h1, h2⟩, hb1⟩
  obtain ⟨w0, hw0, hb0, k1, hz0⟩ := box1 w1 #[.int .i64 a, .pointer p, .int .i64 b, .pointer r] 65 (ip4 _ _ _ _)
  have k1 : K4 w1.heap.size a p b r w0 := k1
  have hs := below_trans hb1 hb0
  have HT := Lib.hid (HT.out.below hs)
  have HA := Lib.hid (h1.below hb0)
  have HD := Lib.hid (h2.below hb0)
  clear h1 h2 hb1 hz0
  have ek10 := k1.c0
  have ek11 := k1.c1
  have ek12 := k1.c2
  have ek13 := k1.c3
  obtain ⟨d, hd⟩ : ∃ d, Int.sign (qv t).num = d := ⟨_, rfl⟩
  have HDD := Lib.hid hd
  clear hd
  go_wp2_with fail
  refine (sign_at HA.out HDD.out).mono ?_
  rintro e w2 ⟨rfl, hb2⟩
  have k1 := k1.below hb2
  have hs := below_trans hs hb2
  have HT := Lib.hid (HT.out.below hb2)
  have HA := Lib.hid (HA.out.below hb2)
  have HD := Lib.hid (HD.out.below hb2)
  clear ek10 ek11 ek12 ek13 hb2
  by_cases h0 : d = 0
  · subst h0
    have HF := Lib.hid hs
    clear hs k1
    go_wp2_with fail
    exact bodyPost_ret (v := .tuple #[.string ⟨#[]⟩, .bool false]) (by simp [results, Tryz.results35, go_sem]) rfl ⟨HF.out, .inl ⟨Rat.num_eq_zero.1 (Int.sign_eq_zero_iff_zero.1 HDD.out), rfl⟩⟩
  · have HQ := Lib.hid (show qv t ≠ 0 from fun h => h0 (by rw [← HDD.out, h]; rfl))
    have hz : (d == 0) = false := by rw [beq_eq_false_iff_ne]; exact h0
    have ek10 := k1.c0
    have ek11 := k1.c1
    have ek12 := k1.c2
    have ek13 := k1.c3
    go_wp2_with fail
    have k1 : K4 (w1.heap.size) a p b r w2.drew := k1
    have hc : Below w2.heap.size w2 w2.drew := (Below.refl _ _).drew
    have hs : Below w.heap.size w w2.drew := hs.drew
    go_region_held3 (fun w' => w'.cell? ⟨w1.heap.size, 0, none⟩ = some (.int .i64 a) ∧ w'.cell? ⟨w1.heap.size, 1, none⟩ = some (.pointer p) ∧ w'.cell? ⟨w1.heap.size, 2, none⟩ = some (.int .i64 b) ∧ w'.cell? ⟨w1.heap.size, 3, none⟩ = some (.pointer r) ∧ Below w.heap.size w w') (first | (with_reducible exact ⟨k1.c0, k1.c1, k1.c2, k1.c3, hs⟩) | fail) (first | (go_at_call 76; (with_reducible refine (value_any s HL.out.1 _ (HT.out.below hc).tabs).mono ?_); rintro e w3 ⟨v3, rfl, hv3, hb3⟩; have k1 := k1.below hb3; have hs := hs.trans (hb3.mono hs.size); have hc := hc.trans (hb3.mono hc.size)) | (go_at_call 82; (with_reducible refine (inverse_any (FracV.mk4 (HA.out.below hc) (HD.out.below hc)) HQ.out).mono ?_); rintro e w4 ⟨v4, rfl, hv4, hb4⟩; have k1 := k1.below hb4; have hs := hs.trans (hb4.mono hs.size); have hc := hc.trans (hb4.mono hc.size); have hv3 := hv3.below hb4) | (go_at_call 81; (with_reducible refine (mulF_any hv3 hv4 (HT.out.below hc).tabs HK.out HZ.out.1 (HZ.out.2.1.inv HQ.out)).mono ?_); rintro e w5 ⟨v5, rfl, hv5, hb5⟩; have k1 := k1.below hb5; have hs := hs.trans (hb5.mono hs.size); have hc := hc.trans (hb5.mono hc.size)) | (go_at_call 68; (with_reducible refine (text_at hv5 (HT.out.below hc) HZ.out.2.2).mono ?_); rintro e w6 ⟨rfl, hb6⟩; have k1 := k1.below hb6; have hs := hs.trans (hb6.mono hs.size); have hc := hc.trans (hb6.mono hc.size)) | fail)
    have HF := Lib.hid hs
    clear k1 hs hb3 hb4 hb5 hb6 hv3 hv4 hv5 hc
    go_wp2_with fail
    exact bodyPost_ret (v := .tuple #[.string (rs (qv s * (qv t)⁻¹)), .bool true]) (by simp [results, Tryz.results35, go_sem]) rfl ⟨HF.out, .inr ⟨HQ.out, rfl⟩⟩
end Go.Proofs.YtekghemhccfhkaaGreatDoor
namespace Go.Big
open Go Go.RowKit
def FdOk (l : List UInt8) : Prop := Dig l ∧ l ≠ []
def IxOk (s : ByteArray) (i : Int) : Prop := ∀ w : World, Calls Go.Proofs.Tryz.prog 109 #[.string s, .string ⟨#[47, 46]⟩] w fun e w' => e = .returned (.int .i64 i) ∧ Below w.heap.size w w'
end Go.Big
namespace Go.Proofs.YtekghemhccfhkaaGreatDoor
open Go.RowKit Go.Big
def PuPost (R : Nat → Nat → Prop) (w : World) (e : Ending) (w' : World) : Prop :=
  ∃ x p y q b, e = .returned (.tuple #[.agg #[.int .i64 x, .pointer p], .agg #[.int .i64 y, .pointer q], .bool b]) ∧ Below w.heap.size w w' ∧
    (b = true ∧ (∃ n d : Nat, R n d ∧ IntV w' (.agg #[.int .i64 x, .pointer p]) (n : Int) ∧ IntV w' (.agg #[.int .i64 y, .pointer q]) (d : Int)) ∨ b = false ∧ ∀ n d, ¬ R n d)
def SlashR (a b : List UInt8) (n d : Nat) : Prop := FdOk a ∧ FdOk b ∧ n = dec a ∧ d = dec b
theorem fd_shape {s : ByteArray} {w : World} {v : Value} {o : Bool} (h : o = true ∧ Dig s.data.toList ∧ 0 < s.size ∧ IntV w v (dec s.data.toList) ∨ o = false ∧ ¬ (Dig s.data.toList ∧ 0 < s.size) ∧ IntV w v 0) :
    ∃ x p, v = .agg #[.int .i64 x, .pointer p] ∧ (o = true ∧ FdOk s.data.toList ∧ IntV w (.agg #[.int .i64 x, .pointer p]) (dec s.data.toList) ∨ o = false ∧ ¬ FdOk s.data.toList) := by
  have hsz : s.data.toList.length = s.size := (Lib.size_eq s).symm
  rcases h with ⟨h1, h2, h3, h4⟩ | ⟨h1, h2, h4⟩
  · obtain ⟨x, p, rfl⟩ := h4.two
    exact ⟨x, p, rfl, .inl ⟨h1, ⟨h2, fun e => by rw [e] at hsz; simp at hsz; omega⟩, h4⟩⟩
  · obtain ⟨x, p, rfl⟩ := h4.two
    refine ⟨x, p, rfl, .inr ⟨h1, fun h => h2 ⟨h.1, ?_⟩⟩⟩
    rcases Nat.eq_zero_or_pos s.size with h0 | h0
    · exact absurd (List.length_eq_zero_iff.1 (hsz.trans h0)) h.2
    · exact h0
set_option maxRecDepth 100000 in
set_option maxHeartbeats 4000000 in
theorem parseUnsigned_slash {s : ByteArray} {i : Nat} (hl : s.size ≤ 608) (hi : i < s.size) (hb : s[i] = 47) (hx : IxOk s i) (hfa : FdOk (s.extract 0 i).data.toList) (w : World) : Calls Tryz.prog 64 #[.string s] w (PuPost (SlashR (s.extract 0 i).data.toList (s.extract (i + 1) s.size).data.toList) w) := by
  obtain ⟨a, ha⟩ : ∃ a, s.extract 0 i = a := ⟨_, rfl⟩
  obtain ⟨b, hbb⟩ : ∃ b, s.extract (i + 1) s.size = b := ⟨_, rfl⟩
  have hal : a.size ≤ 608 := by rw [← ha, ByteArray.size_extract]; omega
  have hbl : b.size ≤ 608 := by rw [← hbb, ByteArray.size_extract]; omega
  rw [ha] at hfa
  rw [ha, hbb]
  have HFA := Lib.hid hfa
  clear hfa
  obtain ⟨w0, hw0, hs, k0, k1, hz⟩ := boxes2 w #[.int .i64 0, .pointer none] 63 #[.int .i64 0, .pointer none] 63 (ip2 _ _) (ip2 _ _)
  have k0 : K2 w.heap.size 0 none w0 := k0
  have k1 : K2 (w.heap.size + 1) 0 none w0 := k1
  have HX := Lib.hid hx
  have hc : ((s[i].toNat : Nat) : Int) = 47 := by rw [hb]; rfl
  have e1 : ((i : Int)).toNat = i := by simp
  have e2 : ((i : Int) + 1).toNat = i + 1 := by omega
  clear hx hz
  go_enter Tryz.func64, Tryz.ntmps64
  go_wp2_with fail
  refine (HX.out _).mono ?_
  rintro e w1 ⟨rfl, hb1⟩
  have k0 := k0.below hb1
  have k1 := k1.below hb1
  have hs := below_trans hs hb1
  clear hb1
  go_wp2_with fail
  refine (fromDigits_any a hal _).mono ?_
  rintro e w2 ⟨v2, o2, rfl, hb2, hor2⟩
  have hv2 : ∃ x p, v2 = .agg #[.int .i64 x, .pointer p] ∧ (o2 = true ∧ FdOk a.data.toList ∧ IntV w2 (.agg #[.int .i64 x, .pointer p]) (dec a.data.toList) ∨ o2 = false ∧ ¬ FdOk a.data.toList) := fd_shape hor2
  obtain ⟨x, p, rfl, hq2⟩ := hv2
  obtain ⟨w3, hw3, hb3, j8, hz3⟩ := box1 w2 #[.int .i64 x, .pointer p] 63 (ip2 _ _)
  have j8 : K2 w2.heap.size x p w3 := j8
  have hlt8 := Bx.lt (K2.below k1 hb2)
  have hb23 := below_trans hb2 hb3
  have k0 := k0.below hb23
  have k1 := k1.below hb23
  have hs := below_trans hs hb23
  have HO2 := Lib.hid (hq2.imp_left (fun h => And.intro h.1 (And.intro h.2.1 (h.2.2.below hb3))))
  clear hb2 hb3 hb23 hz3 hor2 hq2 hc
  go_wp2_with fail
  refine (fromDigits_any b hbl _).mono ?_
  rintro e w4 ⟨v4, o4, rfl, hb4, hor4⟩
  obtain ⟨y, q, rfl, hq4⟩ := fd_shape hor4
  obtain ⟨w5, hw5, hb5, j10, hz5⟩ := box1 w4 #[.int .i64 y, .pointer q] 63 (ip2 _ _)
  have j10 : K2 w4.heap.size y q w5 := j10
  have hlt10 := Bx.lt (K2.below j8 hb4)
  have hb45 := below_trans hb4 hb5
  have k0 := k0.below hb45
  have k1 := k1.below hb45
  have j8 := j8.below hb45
  have hs := below_trans hs hb45
  have HO2 := Lib.hid (HO2.out.imp_left (fun h => And.intro h.1 (And.intro h.2.1 (h.2.2.below hb45))))
  have HO4 := Lib.hid (hq4.imp_left (fun h => And.intro h.1 (And.intro h.2.1 (h.2.2.below hb5))))
  clear hb4 hb5 hb45 hz5 hor4 hq4
  have c0 := k0.c0
  have c1 := k0.c1
  have d0 := k1.c0
  have d1 := k1.c1
  have f0 := k0.f 0
  have f1 := k0.f 1
  have g0 := k1.f 0
  have g1 := k1.f 1
  have m0 := j8.c0
  have m1 := j8.c1
  have n0 := j10.c0
  have n1 := j10.c1
  have hlt4 : w2.heap.size < w4.heap.size := hlt10
  have ho : o2 = true := by
    rcases HO2.out with ⟨h, _⟩ | ⟨_, h⟩
    · exact h
    · exact absurd HFA.out h
  subst ho
  obtain ⟨WW, hWW⟩ : ∃ WW, (((w5.setCell ⟨w.heap.size, 0, none⟩ (.int .i64 x)).setCell ⟨w.heap.size, 1, none⟩ (.pointer p)).setCell ⟨w.heap.size + 1, 0, none⟩ (.int .i64 y)).setCell ⟨w.heap.size + 1, 1, none⟩ (.pointer q) = WW := ⟨_, rfl⟩
  have hne : w.heap.size + 1 ≠ w.heap.size := by omega
  have k1' : K2 (w.heap.size + 1) 0 none (Go.Big.st2 w5 w.heap.size x p) := Bx.other (Bx.other k1 hne _ _) hne _ _
  have k0' : K2 w.heap.size x p (Go.Big.st2 w5 w.heap.size x p) := Bx.set (Bx.set k0 0 (IP.int x)) 1 (IP.ptr p)
  have k0'' : K2 w.heap.size x p WW := by rw [← hWW]; exact Bx.other (Bx.other k0' hne.symm _ _) hne.symm _ _
  have k1'' : K2 (w.heap.size + 1) y q WW := by rw [← hWW]; exact Bx.set (Bx.set k1' 0 (IP.int y)) 1 (IP.ptr q)
  have z0 := k0''.c0
  have z1 := k0''.c1
  have z2 := k1''.c0
  have z3 := k1''.c1
  have hsW : Below w.heap.size w WW := by rw [← hWW]; exact (((hs.setCell (p := ⟨w.heap.size, 0, none⟩) (Nat.le_refl _) (.int .i64 x)).setCell (p := ⟨w.heap.size, 1, none⟩) (Nat.le_refl _) (.pointer p)).setCell (p := ⟨w.heap.size + 1, 0, none⟩) (Nat.le_succ _) (.int .i64 y)).setCell (p := ⟨w.heap.size + 1, 1, none⟩) (Nat.le_succ _) (.pointer q)
  have hmv : ∀ v n, IntV w5 v n → IntV WW.drew v n := fun v n h => by
    rw [← hWW]
    exact ((h.set2 (i := 0) (x := x) (p := p) k0).set2 (i := 0) (x := y) (p := q) k1').drewN 1
  have HFIN := Lib.hid (show PuPost (SlashR a.data.toList b.data.toList) w (.returned (.tuple #[.agg #[.int .i64 x, .pointer p], .agg #[.int .i64 y, .pointer q], .bool o4])) WW.drew from by
    refine ⟨x, p, y, q, o4, rfl, hsW.drew, ?_⟩
    rcases HO2.out with ⟨_, h2, h3⟩ | ⟨h, _⟩
    · rcases HO4.out with ⟨h4, h5, h6⟩ | ⟨h4, h5⟩
      · exact .inl ⟨h4, _, _, ⟨h2, h5, rfl, rfl⟩, hmv _ _ h3, hmv _ _ h6⟩
      · exact .inr ⟨h4, fun n d h => h5 h.2.1⟩
    · cases h)
  clear k0 k1 k0' k1' k0'' k1'' hsW hmv j8 j10 hs
  go_wp2_with fail
  go_region_with (fail)
  all_goals
    go_wp2_with fail
    exact bodyPost_ret (v := .tuple #[.agg #[.int .i64 x, .pointer p], .agg #[.int .i64 y, .pointer q], .bool o4]) (by simp [results, Tryz.results64, go_sem, z0, z1, z2, z3]) rfl HFIN.out
end Go.Proofs.YtekghemhccfhkaaGreatDoor
namespace Go.Big
open Go Go.RowKit
theorem exists_rat (n : Int) {d : Nat} (hd : 0 < d) : ∃ q : Rat, q.num * d = n * q.den := by
  refine ⟨Rat.divInt n d, ?_⟩
  have h2 : Rat.divInt (Rat.divInt n d).num (Rat.divInt n d).den = Rat.divInt n d := Rat.num_divInt_den _
  rw [Rat.divInt_eq_divInt_iff (by have := (Rat.divInt n d).den_nz; omega) (by omega)] at h2
  exact h2
theorem rat_small {q : Rat} {n : Int} {d K : Nat} (hd : 0 < d) (h : q.num * d = n * q.den) (hn : n.natAbs < B64 ^ K) (hk : d < B64 ^ K) : Sz K q := by
  obtain ⟨h1, h2⟩ := rat_reduce hd h
  refine ⟨?_, ?_⟩
  · rw [h1]; exact Nat.lt_of_le_of_lt (natAbs_div_le _ _) hn
  · rw [h2]; exact Nat.lt_of_le_of_lt (Nat.div_le_self _ _) hk
end Go.Big
namespace Go.Proofs.YtekghemhccfhkaaGreatDoor
open Go.RowKit Go.Big
def PaPost (neg : Bool) (R : Nat → Nat → Prop) (w : World) (e : Ending) (w' : World) : Prop :=
  Below w.heap.size w w' ∧ ((∃ (n d : Nat) (q : Rat), R n d ∧ 0 < d ∧ q.num * d = signed neg n * q.den ∧ e = .returned (.tuple #[.string (rs q), .int .i64 0])) ∨
    (∃ n, R n 0 ∧ e = .returned (.tuple #[.string ⟨#[]⟩, .int .i64 5])) ∨ (∀ n d, ¬ R n d) ∧ e = .returned (.tuple #[.string ⟨#[]⟩, .int .i64 6]))
set_option maxRecDepth 100000 in
set_option maxHeartbeats 4000000 in
theorem parse_any {s m : ByteArray} {neg : Bool} {R : Nat → Nat → Prop} {K : Nat} (hl : s.size ≤ 608) (hm : (unsign s.data.toList).1 = m.data.toList) (hn : (unsign s.data.toList).2 = neg)
    (hP : ∀ w, Calls Tryz.prog 64 #[.string m] w (PuPost R w)) (hR : ∀ n d, R n d → n < B64 ^ K ∧ d < B64 ^ K) (hK : K ≤ 31) {w : World} (hT : TabsA w) : Calls Tryz.prog 21 #[.string s] w (PaPost neg R w) := by
  have HC := Lib.hid (fun w => cutPrefix_at s m neg hm hn w)
  have HP := Lib.hid hP
  have HR := Lib.hid (And.intro hR hK)
  have HT := Lib.hid hT
  have HT0 := Lib.hid hT
  clear hm hn hP hR hT hK
  go_enter Tryz.func21, Tryz.ntmps21
  go_wp2_with fail
  refine (HC.out _).mono ?_
  rintro e w1 ⟨rfl, rfl⟩
  go_wp2_with fail
  refine (HP.out _).mono ?_
  rintro e w2 ⟨x, p, y, q, b, rfl, hb2, hor⟩
  have hle : w1.heap.size ≤ w2.heap.size := hb2.size
  obtain ⟨w3, hw3, hs3, k0, k1, hz⟩ := boxes2 w2 #[.int .i64 x, .pointer p] 63 #[.int .i64 y, .pointer q] 63 (ip2 _ _) (ip2 _ _)
  have k0 : K2 w2.heap.size x p w3 := k0
  have k1 : K2 (w2.heap.size + 1) y q w3 := k1
  have hs := below_trans hb2 hs3
  have HT := Lib.hid (HT.out.below hs)
  rcases hor with ⟨rfl, n, d, hr, h1, h2⟩ | ⟨rfl, hno⟩
  · have HA := Lib.hid (h1.below hs3)
    have HB := Lib.hid (h2.below hs3)
    have HN := Lib.hid hr
    clear h1 h2 hr hb2 hs3 hz
    have e0 := k0.c0
    have e1 := k0.c1
    have d0 := k1.c0
    have d1 := k1.c1
    have f0 := k0.f 0
    have f1 := k0.f 1
    obtain ⟨sg, hsg⟩ : ∃ sg, Int.sign (d : Int) = sg := ⟨_, rfl⟩
    have HSG := Lib.hid hsg
    clear hsg
    go_wp2_with fail
    refine (sign_at HB.out HSG.out).mono ?_
    rintro e w4 ⟨rfl, hb4⟩
    have k0 := k0.below hb4
    have k1 := k1.below hb4
    have hs := below_trans hs hb4
    have HT := Lib.hid (HT.out.below hb4)
    have HA := Lib.hid (HA.out.below hb4)
    have HB := Lib.hid (HB.out.below hb4)
    clear hb4 e0 e1 d0 d1 f0 f1
    by_cases h0 : sg = 0
    · subst h0
      have hd0 : d = 0 := by have := Int.sign_eq_zero_iff_zero.1 HSG.out; omega
      subst hd0
      have HF := Lib.hid hs
      clear hs k0 k1
      go_wp2_with fail
      exact bodyPost_ret (v := .tuple #[.string ⟨#[]⟩, .int .i64 5]) (by simp [results, Tryz.results21, go_sem]) rfl ⟨HF.out, .inr (.inl ⟨n, HN.out, rfl⟩)⟩
    · have hz : (sg == 0) = false := by rw [beq_eq_false_iff_ne]; exact h0
      have HD := Lib.hid (show 0 < d by
        rcases Nat.eq_zero_or_pos d with h | h
        · exact absurd (by rw [← HSG.out, h]; rfl) h0
        · exact h)
      have e0 := k0.c0
      have e1 := k0.c1
      have d0 := k1.c0
      have d1 := k1.c1
      have f0 := k0.f 0
      have f1 := k0.f 1
      have hlt := Bx.lt k1
      cases neg with
      | false =>
        obtain ⟨qq, hq⟩ := exists_rat (n : Int) HD.out
        have HQ := Lib.hid hq
        clear hq
        go_wp2_with fail
        refine (reduced_any HA.out HB.out HD.out HT.out.1 (K := K) (by have := HR.out.2; omega) (by rw [Int.natAbs_natCast]; exact (HR.out.1 _ _ HN.out).1) (HR.out.1 _ _ HN.out).2 HQ.out).mono ?_
        rintro e w5 ⟨v5, rfl, hv5, hb5⟩
        have HV := Lib.hid hv5
        have HT := Lib.hid (HT.out.below hb5)
        have HF := Lib.hid (below_trans hs hb5)
        clear hv5 hb5 e0 e1 d0 d1 f0 f1 k0 k1 hs
        go_wp2_with fail
        refine (text_at HV.out HT.out ((rat_small HD.out HQ.out (by rw [Int.natAbs_natCast]; exact (HR.out.1 _ _ HN.out).1) (HR.out.1 _ _ HN.out).2).mono HR.out.2)).mono ?_
        rintro e w6 ⟨rfl, hb6⟩
        have HF := Lib.hid (below_trans HF.out hb6)
        clear hb6
        go_wp2_with fail
        exact bodyPost_ret (v := .tuple #[.string (rs qq), .int .i64 0]) (by simp [results, Tryz.results21, go_sem]) rfl ⟨HF.out, .inl ⟨n, d, qq, HN.out, HD.out, HQ.out, rfl⟩⟩
      | true =>
        obtain ⟨qq, hq⟩ := exists_rat (-(n : Int)) HD.out
        have HQ := Lib.hid hq
        clear hq
        go_wp2_with fail
        refine (negI_any HA.out).mono ?_
        rintro e w5 ⟨v5, rfl, hv5, hb5⟩
        obtain ⟨x5, p5, rfl⟩ := hv5.two
        have k0 := k0.below hb5
        have k1 := k1.below hb5
        have hs := below_trans hs hb5
        clear e0 e1 d0 d1 f0 f1
        have e0 := k0.c0
        have e1 := k0.c1
        have d0 := k1.c0
        have d1 := k1.c1
        have f0 := k0.f 0
        have f1 := k0.f 1
        have hne : w2.heap.size + 1 ≠ w2.heap.size := by omega
        have hgw : w1.heap.size ≤ w2.heap.size := hle
        obtain ⟨WW, hWW⟩ : ∃ WW, (w5.setCell ⟨w2.heap.size, 0, none⟩ (.int .i64 x5)).setCell ⟨w2.heap.size, 1, none⟩ (.pointer p5) = WW := ⟨_, rfl⟩
        have j0 : K2 w2.heap.size x5 p5 WW := by rw [← hWW]; exact Bx.set (Bx.set k0 0 (IP.int x5)) 1 (IP.ptr p5)
        have j1 : K2 (w2.heap.size + 1) y q WW := by rw [← hWW]; exact Bx.other (Bx.other k1 hne _ _) hne _ _
        have HA := Lib.hid (show IntV WW (.agg #[.int .i64 x5, .pointer p5]) (-(n : Int)) from by rw [← hWW]; exact hv5.set2 (i := 0) k0)
        have HB := Lib.hid (show IntV WW (.agg #[.int .i64 y, .pointer q]) (d : Int) from by rw [← hWW]; exact (HB.out.below hb5).set2 (i := 0) k0)
        have hsW : Below w1.heap.size w1 WW := by rw [← hWW]; exact (hs.setCell (p := ⟨w2.heap.size, 0, none⟩) hgw (.int .i64 x5)).setCell (p := ⟨w2.heap.size, 1, none⟩) hgw (.pointer p5)
        have HF := Lib.hid hsW
        have HT := Lib.hid (HT0.out.below hsW)
        have u0 := j0.c0
        have u1 := j0.c1
        have u2 := j1.c0
        have u3 := j1.c1
        clear hb5 hv5 k0 k1 hs hsW j0 j1
        go_wp2_with fail
        refine (reduced_any HA.out HB.out HD.out HT.out.1 (K := K) (by have := HR.out.2; omega) (by rw [Int.natAbs_neg, Int.natAbs_natCast]; exact (HR.out.1 _ _ HN.out).1) (HR.out.1 _ _ HN.out).2 HQ.out).mono ?_
        rintro e w7 ⟨v7, rfl, hv7, hb7⟩
        have HV := Lib.hid hv7
        have HT := Lib.hid (HT.out.below hb7)
        have HF := Lib.hid (below_trans HF.out hb7)
        clear hv7 hb7 e0 e1 d0 d1 f0 f1 u0 u1 u2 u3
        go_wp2_with fail
        refine (text_at HV.out HT.out ((rat_small HD.out HQ.out (by rw [Int.natAbs_neg, Int.natAbs_natCast]; exact (HR.out.1 _ _ HN.out).1) (HR.out.1 _ _ HN.out).2).mono HR.out.2)).mono ?_
        rintro e w6 ⟨rfl, hb6⟩
        have HF := Lib.hid (below_trans HF.out hb6)
        clear hb6
        go_wp2_with fail
        exact bodyPost_ret (v := .tuple #[.string (rs qq), .int .i64 0]) (by simp [results, Tryz.results21, go_sem]) rfl ⟨HF.out, .inl ⟨n, d, qq, HN.out, HD.out, HQ.out, rfl⟩⟩
  · have HN := Lib.hid hno
    have HF := Lib.hid hs
    clear hno hb2 hs3 hz k0 k1 hs
    go_wp2_with fail
    exact bodyPost_ret (v := .tuple #[.string ⟨#[]⟩, .int .i64 6]) (by simp [results, Tryz.results21, go_sem]) rfl ⟨HF.out, .inr (.inr ⟨HN.out, rfl⟩)⟩
end Go.Proofs.YtekghemhccfhkaaGreatDoor
namespace Go.Big
open Go Go.RowKit
theorem rs_rd {s : ByteArray} {q : Rat} (h : rd s.data.toList = some (q.num, q.den)) : rs q = s := by
  obtain ⟨r, h1, h2, h3⟩ := rd_some h
  have e : r = q := Rat.ext h1 h2
  subst e
  exact ByteArray.ext (Array.toList_inj.1 h3.symm)
theorem sz_lit {q : Rat} {K : Nat} (h1 : Nat.blt q.num.natAbs 1000 = true) (h2 : Nat.blt q.den 1000 = true) (hK : 0 < K) : Sz K q := by
  have h1 := Nat.le_of_ble_eq_true h1
  have h2 := Nat.le_of_ble_eq_true h2
  have h3 : 1000 ≤ B64 ^ K := Nat.le_trans (by decide : 1000 ≤ B64 ^ 1) (bw_mono hK)
  exact ⟨Nat.lt_of_lt_of_le h1 h3, Nat.lt_of_lt_of_le h2 h3⟩
theorem q1 : qv ⟨#[49]⟩ = 1 := qv_rd (r := 1) (by kernel_rfl)
theorem q3 : qv ⟨#[51]⟩ = 3 := qv_rd (r := 3) (by kernel_rfl)
theorem q12 : qv ⟨#[49, 47, 50]⟩ = 1 / 2 := qv_rd (r := 1 / 2) (by kernel_rfl)
theorem q13 : qv ⟨#[49, 47, 51]⟩ = 1 / 3 := qv_rd (r := 1 / 3) (by kernel_rfl)
theorem qm23 : qv ⟨#[45, 50, 47, 51]⟩ = -2 / 3 := qv_rd (r := -2 / 3) (by kernel_rfl)
theorem s13 : rs ((1 : Rat) * 3⁻¹) = ⟨#[49, 47, 51]⟩ := rs_rd (by kernel_rfl)
theorem s56 : rs ((1 / 2 : Rat) + 1 / 3) = ⟨#[53, 47, 54]⟩ := rs_rd (by kernel_rfl)
theorem sm2 : rs ((-2 / 3 : Rat) * 3) = ⟨#[45, 50]⟩ := rs_rd (by kernel_rfl)
theorem sm32 {q : Rat} (h : q.num * (4 : Nat) = signed true 6 * q.den) : rs q = ⟨#[45, 51, 47, 50]⟩ := by
  have h0 : q.num * (2 : Nat) = -3 * (q.den : Int) := by
    have : signed true 6 = -6 := rfl
    rw [this] at h; omega
  obtain ⟨h1, h2⟩ := rat_of (q := q) (n := -3) (d := 2) (by decide) (by decide) h0
  exact rs_rd (by rw [h1, h2]; kernel_rfl)
end Go.Big
namespace Go.Proofs.YtekghemhccfhkaaGreatDoor
open Go.RowKit Go.Big
theorem ix_awake : IxOk ⟨#[48, 54, 47, 52]⟩ 2 := by
  intro w
  refine (Proofs.Tryz.strings_IndexAny_short ⟨#[48, 54, 47, 52]⟩ ⟨#[47, 46]⟩ w (by decide) (by decide) ?_).mono ?_
  · intro j b h
    rcases j with _ | _ | _ | _ | j <;> simp at h <;> subst h <;> decide
  · rintro e w' ⟨rfl, pos, rfl⟩
    exact ⟨congrArg (fun x => Ending.returned (.int .i64 x)) (by kernel_rfl), (Below.refl w.heap.size w).alloc' _⟩
def awR : Nat → Nat → Prop := SlashR [48, 54] [52]
theorem pu_awake (w : World) : Calls Tryz.prog 64 #[.string ⟨#[48, 54, 47, 52]⟩] w (PuPost awR w) :=
  parseUnsigned_slash (s := ⟨#[48, 54, 47, 52]⟩) (i := 2) (by decide) (by decide) rfl ix_awake (by
    refine ⟨?_, by decide⟩
    intro b hb
    have hb : b ∈ ([48, 54] : List UInt8) := hb
    simp at hb
    rcases hb with rfl | rfl <;> decide) w
theorem awR_iff {n d : Nat} (h : awR n d) : n = 6 ∧ d = 4 := by
  obtain ⟨_, _, h1, h2⟩ := h
  exact ⟨h1.trans (by decide), h2.trans (by decide)⟩
theorem awR_yes : awR 6 4 := ⟨⟨by intro b hb; simp at hb; rcases hb with rfl | rfl <;> decide, by decide⟩, ⟨by intro b hb; simp at hb; rcases hb with rfl <;> decide, by decide⟩, by decide, by decide⟩
set_option maxRecDepth 100000 in
set_option maxHeartbeats 4000000 in
theorem parse_awake {w : World} (hT : TabsA w) : Calls Tryz.prog 21 #[.string ⟨#[45, 48, 54, 47, 52]⟩] w fun e w' => e = .returned (.tuple #[.string ⟨#[45, 51, 47, 50]⟩, .int .i64 0]) ∧ Below w.heap.size w w' := by
  refine (parse_any (s := ⟨#[45, 48, 54, 47, 52]⟩) (m := ⟨#[48, 54, 47, 52]⟩) (neg := true) (R := awR) (K := 1) (by decide) (by decide) (by decide) pu_awake (fun n d h => by
    obtain ⟨rfl, rfl⟩ := awR_iff h; exact ⟨by decide, by decide⟩) (by decide) hT).mono ?_
  rintro e w' ⟨hb, ⟨n, d, q, h, h0, hq, rfl⟩ | ⟨n, h, _⟩ | ⟨h, _⟩⟩
  · obtain ⟨rfl, rfl⟩ := awR_iff h
    rw [sm32 hq]; exact ⟨rfl, hb⟩
  · exact absurd (awR_iff h).2 (by decide)
  · exact absurd awR_yes (h 6 4)
end Go.Proofs.YtekghemhccfhkaaGreatDoor
namespace Go.Proofs.YtekghemhccfhkaaGreatDoor
open Go.RowKit Go.Big
theorem div13 {w : World} (hT : TabsA w) : Calls Tryz.prog 35 #[.string ⟨#[49]⟩, .string ⟨#[51]⟩] w fun e w' => e = .returned (.tuple #[.string ⟨#[49, 47, 51]⟩, .bool true]) ∧ Below w.heap.size w w' := by
  have h := divA (s := ⟨#[49]⟩) (t := ⟨#[51]⟩) (K := 1) (by decide) (by decide) (by decide) (by rw [q1]; exact sz_lit (by kernel_rfl) (by kernel_rfl) (by decide)) (by rw [q3]; exact sz_lit (by kernel_rfl) (by kernel_rfl) (by decide))
    (by rw [q1, q3]; exact sz_lit (by kernel_rfl) (by kernel_rfl) (by decide)) hT
  refine h.mono ?_
  rintro e w' ⟨hb, ⟨h0, _⟩ | ⟨_, rfl⟩⟩
  · rw [q3] at h0; exact absurd h0 (by decide)
  · rw [q1, q3, s13]; exact ⟨rfl, hb⟩
theorem add1213 {w : World} (hT : TabsA w) : Calls Tryz.prog 37 #[.string ⟨#[49, 47, 50]⟩, .string ⟨#[49, 47, 51]⟩] w fun e w' => e = .returned (.string ⟨#[53, 47, 54]⟩) ∧ Below w.heap.size w w' := by
  have h := addA (s := ⟨#[49, 47, 50]⟩) (t := ⟨#[49, 47, 51]⟩) (K := 1) (by decide) (by decide) (by decide) (by rw [q12]; exact sz_lit (by kernel_rfl) (by kernel_rfl) (by decide)) (by rw [q13]; exact sz_lit (by kernel_rfl) (by kernel_rfl) (by decide))
    (by rw [q12, q13]; exact sz_lit (by kernel_rfl) (by kernel_rfl) (by decide)) hT
  rw [q12, q13] at h
  refine h.mono ?_
  rintro e w' ⟨rfl, hb⟩
  rw [s56]; exact ⟨rfl, hb⟩
theorem mul233 {w : World} (hT : TabsA w) : Calls Tryz.prog 41 #[.string ⟨#[45, 50, 47, 51]⟩, .string ⟨#[51]⟩] w fun e w' => e = .returned (.string ⟨#[45, 50]⟩) ∧ Below w.heap.size w w' := by
  have h := mulA (s := ⟨#[45, 50, 47, 51]⟩) (t := ⟨#[51]⟩) (K := 1) (by decide) (by decide) (by decide) (by rw [qm23]; exact sz_lit (by kernel_rfl) (by kernel_rfl) (by decide)) (by rw [q3]; exact sz_lit (by kernel_rfl) (by kernel_rfl) (by decide))
    (by rw [qm23, q3]; exact sz_lit (by kernel_rfl) (by kernel_rfl) (by decide)) hT
  rw [qm23, q3] at h
  refine h.mono ?_
  rintro e w' ⟨rfl, hb⟩
  rw [sm2]; exact ⟨rfl, hb⟩
theorem cmp1312 {w : World} (hT : TabsA w) : Calls Tryz.prog 31 #[.string ⟨#[49, 47, 51]⟩, .string ⟨#[49, 47, 50]⟩] w fun e w' => e = .returned (.int .i64 (-1)) ∧ Below w.heap.size w w' := by
  have h := compareA (s := ⟨#[49, 47, 51]⟩) (t := ⟨#[49, 47, 50]⟩) (K := 1) (by decide) (by decide) (by decide) (by rw [q13]; exact sz_lit (by kernel_rfl) (by kernel_rfl) (by decide)) (by rw [q12]; exact sz_lit (by kernel_rfl) (by kernel_rfl) (by decide)) hT
  rw [q12, q13, show cmpInt ((1 / 3 : Rat).num * (1 / 2 : Rat).den) ((1 / 2 : Rat).num * (1 / 3 : Rat).den) = -1 by kernel_rfl] at h
  exact h
set_option maxRecDepth 100000 in
set_option maxHeartbeats 4000000 in
theorem awake_any {w : World} (hT : TabsA w) : Calls Tryz.prog 13 #[] w (RetBool w true) := by
  have HT := Lib.hid hT
  have HP := Lib.hid (parse_awake hT)
  clear hT
  go_enter Tryz.func13, Tryz.ntmps13
  go_wp2_with fail
  refine HP.out.mono ?_
  rintro e w1 ⟨rfl, hb1⟩
  have HT := Lib.hid (HT.out.below hb1)
  have HB := Lib.hid hb1
  clear hb1 HP
  go_wp2_with fail
  refine (div13 HT.out).mono ?_
  rintro e w2 ⟨rfl, hb2⟩
  have HT := Lib.hid (HT.out.below hb2)
  have HB := Lib.hid (below_trans HB.out hb2)
  clear hb2
  go_wp2_with fail
  refine (add1213 HT.out).mono ?_
  rintro e w3 ⟨rfl, hb3⟩
  have HT := Lib.hid (HT.out.below hb3)
  have HB := Lib.hid (below_trans HB.out hb3)
  clear hb3
  go_wp2_with fail
  refine (mul233 HT.out).mono ?_
  rintro e w4 ⟨rfl, hb4⟩
  have HT := Lib.hid (HT.out.below hb4)
  have HB := Lib.hid (below_trans HB.out hb4)
  clear hb4
  go_wp2_with fail
  refine (cmp1312 HT.out).mono ?_
  rintro e w5 ⟨rfl, hb5⟩
  have HB := Lib.hid (below_trans HB.out hb5)
  clear hb5
  go_wp2_with fail
  go_ret
  exact ⟨rfl, HB.out⟩
end Go.Proofs.YtekghemhccfhkaaGreatDoor
namespace Go.Proofs.YtekghemhccfhkaaGreatDoor
open Go.RowKit Go.Big
end Go.Proofs.YtekghemhccfhkaaGreatDoor
namespace Go.Big
open Go Go.RowKit
/-- A text that the functions read, of a number of at most K words. -/
def Nmb (K : Nat) (s : ByteArray) : Prop := s.size ≤ 608 ∧ Sz K (qv s)
theorem Nmb.mono {K L : Nat} {s : ByteArray} (h : Nmb K s) (hl : K ≤ L) : Nmb L s := ⟨h.1, h.2.mono hl⟩
theorem q0 : qv ⟨#[48]⟩ = 0 := qv_rd (r := 0) (by kernel_rfl)
end Go.Big
namespace Go.Proofs.YtekghemhccfhkaaGreatDoor
open Go.RowKit Go.Big
end Go.Proofs.YtekghemhccfhkaaGreatDoor
