/-
  Walks of the program's functions: Pars, Pars2, Awake, Awake2, Short, LawC, LawField, LawC2, LawRoots.
-/
import Derived.Test.YtekghemhccfhkaaGreatDoorB36
import Derived.Test.YtekghemhccfhkaaGreatDoorB02
namespace Go.Big
open Go Go.RowKit
def FdOk (l : List UInt8) : Prop := Dig l ∧ l ≠ []
def IxOk (s : ByteArray) (i : Int) : Prop := ∀ w : World, Calls Go.Proofs.Tryz.prog 109 #[.string s, .string ⟨#[47, 46]⟩] w fun e w' => e = .returned (.int .i64 i) ∧ Below w.heap.size w w'
end Go.Big
namespace Go.Proofs.YtekghemhccfhkaaGreatDoor
open Go.RowKit Go.Big
def PuPost (R : Nat → Nat → Prop) (w : World) (e : Ending) (w' : World) : Prop :=
  ∃ x p y q b, e = .returned (.tuple #[.agg #[.int .i64 x, .pointer p], .agg #[.int .i64 y, .pointer q], .bool b]) ∧ Below w.heap.size w w' ∧
    (b = true ∧ (∃ n d : Nat, R n d ∧ IntV w' (.agg #[.int .i64 x, .pointer p]) (n : Int) ∧ IntV w' (.agg #[.int .i64 y, .pointer q]) (d : Int)) ∨ b = false ∧ ∀ n d, ¬ R n d)
def SlashR (a b : List UInt8) (n d : Nat) : Prop := FdOk a ∧ FdOk b ∧ n = dec a ∧ d = dec b
theorem fd_shape {s : ByteArray} {w : World} {v : Value} {o : Bool} (h : o = true ∧ Dig s.data.toList ∧ 0 < s.size ∧ IntV w v (dec s.data.toList) ∨ o = false ∧ ¬ (Dig s.data.toList ∧ 0 < s.size) ∧ IntV w v 0) :
    ∃ x p, v = .agg #[.int .i64 x, .pointer p] ∧ (o = true ∧ FdOk s.data.toList ∧ IntV w (.agg #[.int .i64 x, .pointer p]) (dec s.data.toList) ∨ o = false ∧ ¬ FdOk s.data.toList) := by
  have hsz : s.data.toList.length = s.size := (Lib.size_eq s).symm
  rcases h with ⟨h1, h2, h3, h4⟩ | ⟨h1, h2, h4⟩
  · obtain ⟨x, p, rfl⟩ := h4.two
    exact ⟨x, p, rfl, .inl ⟨h1, ⟨h2, fun e => by rw [e] at hsz; simp at hsz; omega⟩, h4⟩⟩
  · obtain ⟨x, p, rfl⟩ := h4.two
    refine ⟨x, p, rfl, .inr ⟨h1, fun h => h2 ⟨h.1, ?_⟩⟩⟩
    rcases Nat.eq_zero_or_pos s.size with h0 | h0
    · exact absurd (List.length_eq_zero_iff.1 (hsz.trans h0)) h.2
    · exact h0
set_option maxRecDepth 100000 in
set_option maxHeartbeats 4000000 in
theorem parseUnsigned_slash {s : ByteArray} {i : Nat} (hl : s.size ≤ 608) (hi : i < s.size) (hb : s[i] = 47) (hx : IxOk s i) (hfa : FdOk (s.extract 0 i).data.toList) (w : World) : Calls Tryz.prog 64 #[.string s] w (PuPost (SlashR (s.extract 0 i).data.toList (s.extract (i + 1) s.size).data.toList) w) := by
  obtain ⟨a, ha⟩ : ∃ a, s.extract 0 i = a := ⟨_, rfl⟩
  obtain ⟨b, hbb⟩ : ∃ b, s.extract (i + 1) s.size = b := ⟨_, rfl⟩
  have hal : a.size ≤ 608 := by rw [← ha, ByteArray.size_extract]; omega
  have hbl : b.size ≤ 608 := by rw [← hbb, ByteArray.size_extract]; omega
  rw [ha] at hfa
  rw [ha, hbb]
  have HFA := Lib.hid hfa
  clear hfa
  obtain ⟨w0, hw0, hs, k0, k1, hz⟩ := boxes2 w #[.int .i64 0, .pointer none] 63 #[.int .i64 0, .pointer none] 63 (ip2 _ _) (ip2 _ _)
  have k0 : K2 w.heap.size 0 none w0 := k0
  have k1 : K2 (w.heap.size + 1) 0 none w0 := k1
  have HX := Lib.hid hx
  have hc : ((s[i].toNat : Nat) : Int) = 47 := by rw [hb]; rfl
  have e1 : ((i : Int)).toNat = i := by simp
  have e2 : ((i : Int) + 1).toNat = i + 1 := by omega
  clear hx hz
  go_enter Tryz.func64, Tryz.ntmps64
  go_wp2_with fail
  refine (HX.out _).mono ?_
  rintro e w1 ⟨rfl, hb1⟩
  have k0 := k0.below hb1
  have k1 := k1.below hb1
  have hs := below_trans hs hb1
  clear hb1
  go_wp2_with fail
  refine (fromDigits_any a hal _).mono ?_
  rintro e w2 ⟨v2, o2, rfl, hb2, hor2⟩
  have hv2 : ∃ x p, v2 = .agg #[.int .i64 x, .pointer p] ∧ (o2 = true ∧ FdOk a.data.toList ∧ IntV w2 (.agg #[.int .i64 x, .pointer p]) (dec a.data.toList) ∨ o2 = false ∧ ¬ FdOk a.data.toList) := fd_shape hor2
  obtain ⟨x, p, rfl, hq2⟩ := hv2
  obtain ⟨w3, hw3, hb3, j8, hz3⟩ := box1 w2 #[.int .i64 x, .pointer p] 63 (ip2 _ _)
  have j8 : K2 w2.heap.size x p w3 := j8
  have hlt8 := Bx.lt (K2.below k1 hb2)
  have hb23 := below_trans hb2 hb3
  have k0 := k0.below hb23
  have k1 := k1.below hb23
  have hs := below_trans hs hb23
  have HO2 := Lib.hid (hq2.imp_left (fun h => And.intro h.1 (And.intro h.2.1 (h.2.2.below hb3))))
  clear hb2 hb3 hb23 hz3 hor2 hq2 hc
  go_wp2_with fail
  refine (fromDigits_any b hbl _).mono ?_
  rintro e w4 ⟨v4, o4, rfl, hb4, hor4⟩
  obtain ⟨y, q, rfl, hq4⟩ := fd_shape hor4
  obtain ⟨w5, hw5, hb5, j10, hz5⟩ := box1 w4 #[.int .i64 y, .pointer q] 63 (ip2 _ _)
  have j10 : K2 w4.heap.size y q w5 := j10
  have hlt10 := Bx.lt (K2.below j8 hb4)
  have hb45 := below_trans hb4 hb5
  have k0 := k0.below hb45
  have k1 := k1.below hb45
  have j8 := j8.below hb45
  have hs := below_trans hs hb45
  have HO2 := Lib.hid (HO2.out.imp_left (fun h => And.intro h.1 (And.intro h.2.1 (h.2.2.below hb45))))
  have HO4 := Lib.hid (hq4.imp_left (fun h => And.intro h.1 (And.intro h.2.1 (h.2.2.below hb5))))
  clear hb4 hb5 hb45 hz5 hor4 hq4
  have c0 := k0.c0
  have c1 := k0.c1
  have d0 := k1.c0
  have d1 := k1.c1
  have f0 := k0.f 0
  have f1 := k0.f 1
  have g0 := k1.f 0
  have g1 := k1.f 1
  have m0 := j8.c0
  have m1 := j8.c1
  have n0 := j10.c0
  have n1 := j10.c1
  have hlt4 : w2.heap.size < w4.heap.size := hlt10
  have ho : o2 = true := by
    rcases HO2.out with ⟨h, _⟩ | ⟨_, h⟩
    · exact h
    · exact absurd HFA.out h
  subst ho
  obtain ⟨WW, hWW⟩ : ∃ WW, (((w5.setCell ⟨w.heap.size, 0, none⟩ (.int .i64 x)).setCell ⟨w.heap.size, 1, none⟩ (.pointer p)).setCell ⟨w.heap.size + 1, 0, none⟩ (.int .i64 y)).setCell ⟨w.heap.size + 1, 1, none⟩ (.pointer q) = WW := ⟨_, rfl⟩
  have hne : w.heap.size + 1 ≠ w.heap.size := by omega
  have k1' : K2 (w.heap.size + 1) 0 none (Go.Big.st2 w5 w.heap.size x p) := Bx.other (Bx.other k1 hne _ _) hne _ _
  have k0' : K2 w.heap.size x p (Go.Big.st2 w5 w.heap.size x p) := Bx.set (Bx.set k0 0 (IP.int x)) 1 (IP.ptr p)
  have k0'' : K2 w.heap.size x p WW := by rw [← hWW]; exact Bx.other (Bx.other k0' hne.symm _ _) hne.symm _ _
  have k1'' : K2 (w.heap.size + 1) y q WW := by rw [← hWW]; exact Bx.set (Bx.set k1' 0 (IP.int y)) 1 (IP.ptr q)
  have z0 := k0''.c0
  have z1 := k0''.c1
  have z2 := k1''.c0
  have z3 := k1''.c1
  have hsW : Below w.heap.size w WW := by rw [← hWW]; exact (((hs.setCell (p := ⟨w.heap.size, 0, none⟩) (Nat.le_refl _) (.int .i64 x)).setCell (p := ⟨w.heap.size, 1, none⟩) (Nat.le_refl _) (.pointer p)).setCell (p := ⟨w.heap.size + 1, 0, none⟩) (Nat.le_succ _) (.int .i64 y)).setCell (p := ⟨w.heap.size + 1, 1, none⟩) (Nat.le_succ _) (.pointer q)
  have hmv : ∀ v n, IntV w5 v n → IntV WW.drew v n := fun v n h => by
    rw [← hWW]
    exact ((h.set2 (i := 0) (x := x) (p := p) k0).set2 (i := 0) (x := y) (p := q) k1').drewN 1
  have HFIN := Lib.hid (show PuPost (SlashR a.data.toList b.data.toList) w (.returned (.tuple #[.agg #[.int .i64 x, .pointer p], .agg #[.int .i64 y, .pointer q], .bool o4])) WW.drew from by
    refine ⟨x, p, y, q, o4, rfl, hsW.drew, ?_⟩
    rcases HO2.out with ⟨_, h2, h3⟩ | ⟨h, _⟩
    · rcases HO4.out with ⟨h4, h5, h6⟩ | ⟨h4, h5⟩
      · exact .inl ⟨h4, _, _, ⟨h2, h5, rfl, rfl⟩, hmv _ _ h3, hmv _ _ h6⟩
      · exact .inr ⟨h4, fun n d h => h5 h.2.1⟩
    · cases h)
  clear k0 k1 k0' k1' k0'' k1'' hsW hmv j8 j10 hs
  go_wp2_with fail
  go_region_with (fail)
  all_goals
    go_wp2_with fail
    exact bodyPost_ret (v := .tuple #[.agg #[.int .i64 x, .pointer p], .agg #[.int .i64 y, .pointer q], .bool o4]) (by simp [results, Tryz.results64, go_sem, z0, z1, z2, z3]) rfl HFIN.out
end Go.Proofs.YtekghemhccfhkaaGreatDoor
namespace Go.Big
open Go Go.RowKit
theorem exists_rat (n : Int) {d : Nat} (hd : 0 < d) : ∃ q : Rat, q.num * d = n * q.den := by
  refine ⟨Rat.divInt n d, ?_⟩
  have h2 : Rat.divInt (Rat.divInt n d).num (Rat.divInt n d).den = Rat.divInt n d := Rat.num_divInt_den _
  rw [Rat.divInt_eq_divInt_iff (by have := (Rat.divInt n d).den_nz; omega) (by omega)] at h2
  exact h2
theorem rat_small {q : Rat} {n : Int} {d K : Nat} (hd : 0 < d) (h : q.num * d = n * q.den) (hn : n.natAbs < B64 ^ K) (hk : d < B64 ^ K) : Sz K q := by
  obtain ⟨h1, h2⟩ := rat_reduce hd h
  refine ⟨?_, ?_⟩
  · rw [h1]; exact Nat.lt_of_le_of_lt (natAbs_div_le _ _) hn
  · rw [h2]; exact Nat.lt_of_le_of_lt (Nat.div_le_self _ _) hk
end Go.Big
namespace Go.Proofs.YtekghemhccfhkaaGreatDoor
open Go.RowKit Go.Big
def PaPost (neg : Bool) (R : Nat → Nat → Prop) (w : World) (e : Ending) (w' : World) : Prop :=
  Below w.heap.size w w' ∧ ((∃ (n d : Nat) (q : Rat), R n d ∧ 0 < d ∧ q.num * d = signed neg n * q.den ∧ e = .returned (.tuple #[.string (rs q), .int .i64 0])) ∨
    (∃ n, R n 0 ∧ e = .returned (.tuple #[.string ⟨#[]⟩, .int .i64 5])) ∨ (∀ n d, ¬ R n d) ∧ e = .returned (.tuple #[.string ⟨#[]⟩, .int .i64 6]))
set_option maxRecDepth 100000 in
set_option maxHeartbeats 4000000 in
theorem parse_any {s m : ByteArray} {neg : Bool} {R : Nat → Nat → Prop} {K : Nat} (hl : s.size ≤ 608) (hm : (unsign s.data.toList).1 = m.data.toList) (hn : (unsign s.data.toList).2 = neg)
    (hP : ∀ w, Calls Tryz.prog 64 #[.string m] w (PuPost R w)) (hR : ∀ n d, R n d → n < B64 ^ K ∧ d < B64 ^ K) (hK : K ≤ 31) {w : World} (hT : TabsA w) : Calls Tryz.prog 21 #[.string s] w (PaPost neg R w) := by
  have HC := Lib.hid (fun w => cutPrefix_at s m neg hm hn w)
  have HP := Lib.hid hP
  have HR := Lib.hid (And.intro hR hK)
  have HT := Lib.hid hT
  have HT0 := Lib.hid hT
  clear hm hn hP hR hT hK
  go_enter Tryz.func21, Tryz.ntmps21
  go_wp2_with fail
  refine (HC.out _).mono ?_
  rintro e w1 ⟨rfl, rfl⟩
  go_wp2_with fail
  refine (HP.out _).mono ?_
  rintro e w2 ⟨x, p, y, q, b, rfl, hb2, hor⟩
  have hle : w1.heap.size ≤ w2.heap.size := hb2.size
  obtain ⟨w3, hw3, hs3, k0, k1, hz⟩ := boxes2 w2 #[.int .i64 x, .pointer p] 63 #[.int .i64 y, .pointer q] 63 (ip2 _ _) (ip2 _ _)
  have k0 : K2 w2.heap.size x p w3 := k0
  have k1 : K2 (w2.heap.size + 1) y q w3 := k1
  have hs := below_trans hb2 hs3
  have HT := Lib.hid (HT.out.below hs)
  rcases hor with ⟨rfl, n, d, hr, h1, h2⟩ | ⟨rfl, hno⟩
  · have HA := Lib.hid (h1.below hs3)
    have HB := Lib.hid (h2.below hs3)
    have HN := Lib.hid hr
    clear h1 h2 hr hb2 hs3 hz
    have e0 := k0.c0
    have e1 := k0.c1
    have d0 := k1.c0
    have d1 := k1.c1
    have f0 := k0.f 0
    have f1 := k0.f 1
    obtain ⟨sg, hsg⟩ : ∃ sg, Int.sign (d : Int) = sg := ⟨_, rfl⟩
    have HSG := Lib.hid hsg
    clear hsg
    go_wp2_with fail
    refine (sign_at HB.out HSG.out).mono ?_
    rintro e w4 ⟨rfl, hb4⟩
    have k0 := k0.below hb4
    have k1 := k1.below hb4
    have hs := below_trans hs hb4
    have HT := Lib.hid (HT.out.below hb4)
    have HA := Lib.hid (HA.out.below hb4)
    have HB := Lib.hid (HB.out.below hb4)
    clear hb4 e0 e1 d0 d1 f0 f1
    by_cases h0 : sg = 0
    · subst h0
      have hd0 : d = 0 := by have := Int.sign_eq_zero_iff_zero.1 HSG.out; omega
      subst hd0
      have HF := Lib.hid hs
      clear hs k0 k1
      go_wp2_with fail
      exact bodyPost_ret (v := .tuple #[.string ⟨#[]⟩, .int .i64 5]) (by simp [results, Tryz.results21, go_sem]) rfl ⟨HF.out, .inr (.inl ⟨n, HN.out, rfl⟩)⟩
    · have hz : (sg == 0) = false := by rw [beq_eq_false_iff_ne]; exact h0
      have HD := Lib.hid (show 0 < d by
        rcases Nat.eq_zero_or_pos d with h | h
        · exact absurd (by rw [← HSG.out, h]; rfl) h0
        · exact h)
      have e0 := k0.c0
      have e1 := k0.c1
      have d0 := k1.c0
      have d1 := k1.c1
      have f0 := k0.f 0
      have f1 := k0.f 1
      have hlt := Bx.lt k1
      cases neg with
      | false =>
        obtain ⟨qq, hq⟩ := exists_rat (n : Int) HD.out
        have HQ := Lib.hid hq
        clear hq
        go_wp2_with fail
        refine (reduced_any HA.out HB.out HD.out HT.out.1 (K := K) (by have := HR.out.2; omega) (by rw [Int.natAbs_natCast]; exact (HR.out.1 _ _ HN.out).1) (HR.out.1 _ _ HN.out).2 HQ.out).mono ?_
        rintro e w5 ⟨v5, rfl, hv5, hb5⟩
        have HV := Lib.hid hv5
        have HT := Lib.hid (HT.out.below hb5)
        have HF := Lib.hid (below_trans hs hb5)
        clear hv5 hb5 e0 e1 d0 d1 f0 f1 k0 k1 hs
        go_wp2_with fail
        refine (text_at HV.out HT.out ((rat_small HD.out HQ.out (by rw [Int.natAbs_natCast]; exact (HR.out.1 _ _ HN.out).1) (HR.out.1 _ _ HN.out).2).mono HR.out.2)).mono ?_
        rintro e w6 ⟨rfl, hb6⟩
        have HF := Lib.hid (below_trans HF.out hb6)
        clear hb6
        go_wp2_with fail
        exact bodyPost_ret (v := .tuple #[.string (rs qq), .int .i64 0]) (by simp [results, Tryz.results21, go_sem]) rfl ⟨HF.out, .inl ⟨n, d, qq, HN.out, HD.out, HQ.out, rfl⟩⟩
      | true =>
        obtain ⟨qq, hq⟩ := exists_rat (-(n : Int)) HD.out
        have HQ := Lib.hid hq
        clear hq
        go_wp2_with fail
        refine (negI_any HA.out).mono ?_
        rintro e w5 ⟨v5, rfl, hv5, hb5⟩
        obtain ⟨x5, p5, rfl⟩ := hv5.two
        have k0 := k0.below hb5
        have k1 := k1.below hb5
        have hs := below_trans hs hb5
        clear e0 e1 d0 d1 f0 f1
        have e0 := k0.c0
        have e1 := k0.c1
        have d0 := k1.c0
        have d1 := k1.c1
        have f0 := k0.f 0
        have f1 := k0.f 1
        have hne : w2.heap.size + 1 ≠ w2.heap.size := by omega
        have hgw : w1.heap.size ≤ w2.heap.size := hle
        obtain ⟨WW, hWW⟩ : ∃ WW, (w5.setCell ⟨w2.heap.size, 0, none⟩ (.int .i64 x5)).setCell ⟨w2.heap.size, 1, none⟩ (.pointer p5) = WW := ⟨_, rfl⟩
        have j0 : K2 w2.heap.size x5 p5 WW := by rw [← hWW]; exact Bx.set (Bx.set k0 0 (IP.int x5)) 1 (IP.ptr p5)
        have j1 : K2 (w2.heap.size + 1) y q WW := by rw [← hWW]; exact Bx.other (Bx.other k1 hne _ _) hne _ _
        have HA := Lib.hid (show IntV WW (.agg #[.int .i64 x5, .pointer p5]) (-(n : Int)) from by rw [← hWW]; exact hv5.set2 (i := 0) k0)
        have HB := Lib.hid (show IntV WW (.agg #[.int .i64 y, .pointer q]) (d : Int) from by rw [← hWW]; exact (HB.out.below hb5).set2 (i := 0) k0)
        have hsW : Below w1.heap.size w1 WW := by rw [← hWW]; exact (hs.setCell (p := ⟨w2.heap.size, 0, none⟩) hgw (.int .i64 x5)).setCell (p := ⟨w2.heap.size, 1, none⟩) hgw (.pointer p5)
        have HF := Lib.hid hsW
        have HT := Lib.hid (HT0.out.below hsW)
        have u0 := j0.c0
        have u1 := j0.c1
        have u2 := j1.c0
        have u3 := j1.c1
        clear hb5 hv5 k0 k1 hs hsW j0 j1
        go_wp2_with fail
        refine (reduced_any HA.out HB.out HD.out HT.out.1 (K := K) (by have := HR.out.2; omega) (by rw [Int.natAbs_neg, Int.natAbs_natCast]; exact (HR.out.1 _ _ HN.out).1) (HR.out.1 _ _ HN.out).2 HQ.out).mono ?_
        rintro e w7 ⟨v7, rfl, hv7, hb7⟩
        have HV := Lib.hid hv7
        have HT := Lib.hid (HT.out.below hb7)
        have HF := Lib.hid (below_trans HF.out hb7)
        clear hv7 hb7 e0 e1 d0 d1 f0 f1 u0 u1 u2 u3
        go_wp2_with fail
        refine (text_at HV.out HT.out ((rat_small HD.out HQ.out (by rw [Int.natAbs_neg, Int.natAbs_natCast]; exact (HR.out.1 _ _ HN.out).1) (HR.out.1 _ _ HN.out).2).mono HR.out.2)).mono ?_
        rintro e w6 ⟨rfl, hb6⟩
        have HF := Lib.hid (below_trans HF.out hb6)
        clear hb6
        go_wp2_with fail
        exact bodyPost_ret (v := .tuple #[.string (rs qq), .int .i64 0]) (by simp [results, Tryz.results21, go_sem]) rfl ⟨HF.out, .inl ⟨n, d, qq, HN.out, HD.out, HQ.out, rfl⟩⟩
  · have HN := Lib.hid hno
    have HF := Lib.hid hs
    clear hno hb2 hs3 hz k0 k1 hs
    go_wp2_with fail
    exact bodyPost_ret (v := .tuple #[.string ⟨#[]⟩, .int .i64 6]) (by simp [results, Tryz.results21, go_sem]) rfl ⟨HF.out, .inr (.inr ⟨HN.out, rfl⟩)⟩
end Go.Proofs.YtekghemhccfhkaaGreatDoor
namespace Go.Big
open Go Go.RowKit
theorem rs_rd {s : ByteArray} {q : Rat} (h : rd s.data.toList = some (q.num, q.den)) : rs q = s := by
  obtain ⟨r, h1, h2, h3⟩ := rd_some h
  have e : r = q := Rat.ext h1 h2
  subst e
  exact ByteArray.ext (Array.toList_inj.1 h3.symm)
theorem sz_lit {q : Rat} {K : Nat} (h1 : Nat.blt q.num.natAbs 1000 = true) (h2 : Nat.blt q.den 1000 = true) (hK : 0 < K) : Sz K q := by
  have h1 := Nat.le_of_ble_eq_true h1
  have h2 := Nat.le_of_ble_eq_true h2
  have h3 : 1000 ≤ B64 ^ K := Nat.le_trans (by decide : 1000 ≤ B64 ^ 1) (bw_mono hK)
  exact ⟨Nat.lt_of_lt_of_le h1 h3, Nat.lt_of_lt_of_le h2 h3⟩
theorem q1 : qv ⟨#[49]⟩ = 1 := qv_rd (r := 1) (by kernel_rfl)
theorem q3 : qv ⟨#[51]⟩ = 3 := qv_rd (r := 3) (by kernel_rfl)
theorem q12 : qv ⟨#[49, 47, 50]⟩ = 1 / 2 := qv_rd (r := 1 / 2) (by kernel_rfl)
theorem q13 : qv ⟨#[49, 47, 51]⟩ = 1 / 3 := qv_rd (r := 1 / 3) (by kernel_rfl)
theorem qm23 : qv ⟨#[45, 50, 47, 51]⟩ = -2 / 3 := qv_rd (r := -2 / 3) (by kernel_rfl)
theorem s13 : rs ((1 : Rat) * 3⁻¹) = ⟨#[49, 47, 51]⟩ := rs_rd (by kernel_rfl)
theorem s56 : rs ((1 / 2 : Rat) + 1 / 3) = ⟨#[53, 47, 54]⟩ := rs_rd (by kernel_rfl)
theorem sm2 : rs ((-2 / 3 : Rat) * 3) = ⟨#[45, 50]⟩ := rs_rd (by kernel_rfl)
theorem sm32 {q : Rat} (h : q.num * (4 : Nat) = signed true 6 * q.den) : rs q = ⟨#[45, 51, 47, 50]⟩ := by
  have h0 : q.num * (2 : Nat) = -3 * (q.den : Int) := by
    have : signed true 6 = -6 := rfl
    rw [this] at h; omega
  obtain ⟨h1, h2⟩ := rat_of (q := q) (n := -3) (d := 2) (by decide) (by decide) h0
  exact rs_rd (by rw [h1, h2]; kernel_rfl)
end Go.Big
namespace Go.Proofs.YtekghemhccfhkaaGreatDoor
open Go.RowKit Go.Big
theorem ix_awake : IxOk ⟨#[48, 54, 47, 52]⟩ 2 := by
  intro w
  refine (Proofs.Tryz.strings_IndexAny_short ⟨#[48, 54, 47, 52]⟩ ⟨#[47, 46]⟩ w (by decide) (by decide) ?_).mono ?_
  · intro j b h
    rcases j with _ | _ | _ | _ | j <;> simp at h <;> subst h <;> decide
  · rintro e w' ⟨rfl, pos, rfl⟩
    exact ⟨congrArg (fun x => Ending.returned (.int .i64 x)) (by kernel_rfl), (Below.refl w.heap.size w).alloc' _⟩
def awR : Nat → Nat → Prop := SlashR [48, 54] [52]
theorem pu_awake (w : World) : Calls Tryz.prog 64 #[.string ⟨#[48, 54, 47, 52]⟩] w (PuPost awR w) :=
  parseUnsigned_slash (s := ⟨#[48, 54, 47, 52]⟩) (i := 2) (by decide) (by decide) rfl ix_awake (by
    refine ⟨?_, by decide⟩
    intro b hb
    have hb : b ∈ ([48, 54] : List UInt8) := hb
    simp at hb
    rcases hb with rfl | rfl <;> decide) w
theorem awR_iff {n d : Nat} (h : awR n d) : n = 6 ∧ d = 4 := by
  obtain ⟨_, _, h1, h2⟩ := h
  exact ⟨h1.trans (by decide), h2.trans (by decide)⟩
theorem awR_yes : awR 6 4 := ⟨⟨by intro b hb; simp at hb; rcases hb with rfl | rfl <;> decide, by decide⟩, ⟨by intro b hb; simp at hb; rcases hb with rfl <;> decide, by decide⟩, by decide, by decide⟩
set_option maxRecDepth 100000 in
set_option maxHeartbeats 4000000 in
theorem parse_awake {w : World} (hT : TabsA w) : Calls Tryz.prog 21 #[.string ⟨#[45, 48, 54, 47, 52]⟩] w fun e w' => e = .returned (.tuple #[.string ⟨#[45, 51, 47, 50]⟩, .int .i64 0]) ∧ Below w.heap.size w w' := by
  refine (parse_any (s := ⟨#[45, 48, 54, 47, 52]⟩) (m := ⟨#[48, 54, 47, 52]⟩) (neg := true) (R := awR) (K := 1) (by decide) (by decide) (by decide) pu_awake (fun n d h => by
    obtain ⟨rfl, rfl⟩ := awR_iff h; exact ⟨by decide, by decide⟩) (by decide) hT).mono ?_
  rintro e w' ⟨hb, ⟨n, d, q, h, h0, hq, rfl⟩ | ⟨n, h, _⟩ | ⟨h, _⟩⟩
  · obtain ⟨rfl, rfl⟩ := awR_iff h
    rw [sm32 hq]; exact ⟨rfl, hb⟩
  · exact absurd (awR_iff h).2 (by decide)
  · exact absurd awR_yes (h 6 4)
end Go.Proofs.YtekghemhccfhkaaGreatDoor
namespace Go.Proofs.YtekghemhccfhkaaGreatDoor
open Go.RowKit Go.Big
theorem div13 {w : World} (hT : TabsA w) : Calls Tryz.prog 35 #[.string ⟨#[49]⟩, .string ⟨#[51]⟩] w fun e w' => e = .returned (.tuple #[.string ⟨#[49, 47, 51]⟩, .bool true]) ∧ Below w.heap.size w w' := by
  have h := divA (s := ⟨#[49]⟩) (t := ⟨#[51]⟩) (K := 1) (by decide) (by decide) (by decide) (by rw [q1]; exact sz_lit (by kernel_rfl) (by kernel_rfl) (by decide)) (by rw [q3]; exact sz_lit (by kernel_rfl) (by kernel_rfl) (by decide))
    (by rw [q1, q3]; exact sz_lit (by kernel_rfl) (by kernel_rfl) (by decide)) hT
  refine h.mono ?_
  rintro e w' ⟨hb, ⟨h0, _⟩ | ⟨_, rfl⟩⟩
  · rw [q3] at h0; exact absurd h0 (by decide)
  · rw [q1, q3, s13]; exact ⟨rfl, hb⟩
theorem add1213 {w : World} (hT : TabsA w) : Calls Tryz.prog 37 #[.string ⟨#[49, 47, 50]⟩, .string ⟨#[49, 47, 51]⟩] w fun e w' => e = .returned (.string ⟨#[53, 47, 54]⟩) ∧ Below w.heap.size w w' := by
  have h := addA (s := ⟨#[49, 47, 50]⟩) (t := ⟨#[49, 47, 51]⟩) (K := 1) (by decide) (by decide) (by decide) (by rw [q12]; exact sz_lit (by kernel_rfl) (by kernel_rfl) (by decide)) (by rw [q13]; exact sz_lit (by kernel_rfl) (by kernel_rfl) (by decide))
    (by rw [q12, q13]; exact sz_lit (by kernel_rfl) (by kernel_rfl) (by decide)) hT
  rw [q12, q13] at h
  refine h.mono ?_
  rintro e w' ⟨rfl, hb⟩
  rw [s56]; exact ⟨rfl, hb⟩
theorem mul233 {w : World} (hT : TabsA w) : Calls Tryz.prog 41 #[.string ⟨#[45, 50, 47, 51]⟩, .string ⟨#[51]⟩] w fun e w' => e = .returned (.string ⟨#[45, 50]⟩) ∧ Below w.heap.size w w' := by
  have h := mulA (s := ⟨#[45, 50, 47, 51]⟩) (t := ⟨#[51]⟩) (K := 1) (by decide) (by decide) (by decide) (by rw [qm23]; exact sz_lit (by kernel_rfl) (by kernel_rfl) (by decide)) (by rw [q3]; exact sz_lit (by kernel_rfl) (by kernel_rfl) (by decide))
    (by rw [qm23, q3]; exact sz_lit (by kernel_rfl) (by kernel_rfl) (by decide)) hT
  rw [qm23, q3] at h
  refine h.mono ?_
  rintro e w' ⟨rfl, hb⟩
  rw [sm2]; exact ⟨rfl, hb⟩
theorem cmp1312 {w : World} (hT : TabsA w) : Calls Tryz.prog 31 #[.string ⟨#[49, 47, 51]⟩, .string ⟨#[49, 47, 50]⟩] w fun e w' => e = .returned (.int .i64 (-1)) ∧ Below w.heap.size w w' := by
  have h := compareA (s := ⟨#[49, 47, 51]⟩) (t := ⟨#[49, 47, 50]⟩) (K := 1) (by decide) (by decide) (by decide) (by rw [q13]; exact sz_lit (by kernel_rfl) (by kernel_rfl) (by decide)) (by rw [q12]; exact sz_lit (by kernel_rfl) (by kernel_rfl) (by decide)) hT
  rw [q12, q13, show cmpInt ((1 / 3 : Rat).num * (1 / 2 : Rat).den) ((1 / 2 : Rat).num * (1 / 3 : Rat).den) = -1 by kernel_rfl] at h
  exact h
set_option maxRecDepth 100000 in
set_option maxHeartbeats 4000000 in
theorem awake_any {w : World} (hT : TabsA w) : Calls Tryz.prog 13 #[] w (RetBool w true) := by
  have HT := Lib.hid hT
  have HP := Lib.hid (parse_awake hT)
  clear hT
  go_enter Tryz.func13, Tryz.ntmps13
  go_wp2_with fail
  refine HP.out.mono ?_
  rintro e w1 ⟨rfl, hb1⟩
  have HT := Lib.hid (HT.out.below hb1)
  have HB := Lib.hid hb1
  clear hb1 HP
  go_wp2_with fail
  refine (div13 HT.out).mono ?_
  rintro e w2 ⟨rfl, hb2⟩
  have HT := Lib.hid (HT.out.below hb2)
  have HB := Lib.hid (below_trans HB.out hb2)
  clear hb2
  go_wp2_with fail
  refine (add1213 HT.out).mono ?_
  rintro e w3 ⟨rfl, hb3⟩
  have HT := Lib.hid (HT.out.below hb3)
  have HB := Lib.hid (below_trans HB.out hb3)
  clear hb3
  go_wp2_with fail
  refine (mul233 HT.out).mono ?_
  rintro e w4 ⟨rfl, hb4⟩
  have HT := Lib.hid (HT.out.below hb4)
  have HB := Lib.hid (below_trans HB.out hb4)
  clear hb4
  go_wp2_with fail
  refine (cmp1312 HT.out).mono ?_
  rintro e w5 ⟨rfl, hb5⟩
  have HB := Lib.hid (below_trans HB.out hb5)
  clear hb5
  go_wp2_with fail
  go_ret
  exact ⟨rfl, HB.out⟩
end Go.Proofs.YtekghemhccfhkaaGreatDoor
namespace Go.Proofs.YtekghemhccfhkaaGreatDoor
open Go.RowKit Go.Big
def StrsAt (w : World) (g : Nat) (l : List ByteArray) : Prop := ∀ i (h : i < l.length), w.cell? ⟨g, i, none⟩ = some (.string l[i])
set_option maxRecDepth 100000 in
set_option maxHeartbeats 1000000 in
theorem short_any {l : List ByteArray} {g cap : Nat} {n : Nat} {w : World} (hl : l.length ≤ 1000) (hc : StrsAt w g l) :
    Calls Tryz.prog 24 #[.int .i64 n, .slice (some ⟨g, 0, none⟩) l.length cap] w fun e w' => e = .returned (.bool (decide (∀ x ∈ l, x.size ≤ n))) ∧ w' = w := by
  obtain ⟨L, hL⟩ : ∃ L, l.length = L := ⟨_, rfl⟩
  have HC := Lib.hid (And.intro hc hL)
  rw [hL] at hl ⊢
  clear hc hL
  go_enter Tryz.func24, Tryz.ntmps24
  go_wp2_with fail
  go_loopw [5] (fun y wr => w = wr ∧ ∃ i : Nat, i ≤ L ∧ y = .int .i64 i ∧ Hid (∀ j (h : j < l.length), j < i → l[j].size ≤ n)) (fun y _ => L - (intOf y).toNat)
  case atStart => exact ⟨rfl, 0, by omega, rfl, Lib.hid (fun j h h0 => absurd h0 (by omega))⟩
  case round =>
    obtain ⟨rfl, i, hi, rfl, hall⟩ := hrel
    by_cases h : i < L
    · have hil : i < l.length := by rw [HC.out.2]; exact h
      obtain ⟨s, hs⟩ : ∃ s, l[i]'hil = s := ⟨_, rfl⟩
      have hcell : w.cell? ⟨g, i, none⟩ = some (.string s) := by rw [← hs]; exact HC.out.1 i hil
      have HS := Lib.hid hs
      clear hs
      by_cases hsz : n < s.size
      · have hz : decide ((n : Int) < (s.size : Int)) = true := decide_eq_true (by omega)
        go_wp2_with fail
        go_ret
        refine ⟨?_, rfl⟩
        rw [decide_eq_false ?_]
        · rfl
        intro hx
        have := hx s (by rw [← HS.out]; exact List.getElem_mem _)
        omega
      · have hz : decide ((n : Int) < (s.size : Int)) = false := decide_eq_false (by omega)
        go_wp2_with fail
        go_roundw
        case rel =>
          refine ⟨by first | rfl | trivial, i + 1, by omega, rfl, Lib.hid (fun j hj h0 => ?_)⟩
          by_cases hji : j = i
          · subst hji; rw [HS.out]; omega
          · exact hall.out j hj (by omega)
        case measure => simp [intOf]; omega
    · have he : i = L := by omega
      subst he
      go_wp2_with fail
      go_ret
      refine ⟨?_, rfl⟩
      rw [decide_eq_true ?_]
      · rfl
      intro x hx
      obtain ⟨j, hj, rfl⟩ := List.getElem_of_mem hx
      exact hall.out j hj (by have := HC.out.2; omega)
end Go.Proofs.YtekghemhccfhkaaGreatDoor
namespace Go.Big
open Go Go.RowKit
/-- A text that the functions read, of a number of at most K words. -/
def Nmb (K : Nat) (s : ByteArray) : Prop := s.size ≤ 608 ∧ Sz K (qv s)
theorem Nmb.mono {K L : Nat} {s : ByteArray} (h : Nmb K s) (hl : K ≤ L) : Nmb L s := ⟨h.1, h.2.mono hl⟩
theorem nmb_rs {K : Nat} {q : Rat} (hK : 0 < K) (hl : K ≤ 15) (h : Sz K q) : Nmb K (rs q) := ⟨Nat.le_trans (rs_size hK h) (by omega), by rw [qv_rs]; exact h⟩
theorem nmb_arg {s : ByteArray} (h : s.size ≤ 100) : Nmb 6 s := ⟨by omega, qv_size h⟩
theorem q0 : qv ⟨#[48]⟩ = 0 := qv_rd (r := 0) (by kernel_rfl)
theorem nmb0 : Nmb 6 ⟨#[48]⟩ := nmb_arg (by decide)
theorem nmb1 : Nmb 6 ⟨#[49]⟩ := nmb_arg (by decide)
end Go.Big
namespace Go.Proofs.YtekghemhccfhkaaGreatDoor
open Go.RowKit Go.Big
def RetB (w : World) (b : ByteArray) (e : Ending) (w' : World) : Prop := e = .returned (.string b) ∧ Below w.heap.size w w'
theorem mulC {s t S : ByteArray} {K : Nat} {w : World} (gs : Nmb K s) (gt : Nmb K t) (hK : K ≤ 15) (h : rs (qv s * qv t) = S) (hT : TabsA w) : Calls Tryz.prog 41 #[.string s, .string t] w (RetB w S) := by
  rw [← h]; exact mulA gs.1 gt.1 (by omega) gs.2 gt.2 ((gs.2.mul gt.2).mono (by omega)) hT
theorem addC {s t S : ByteArray} {K : Nat} {w : World} (gs : Nmb K s) (gt : Nmb K t) (hK : K ≤ 15) (h : rs (qv s + qv t) = S) (hT : TabsA w) : Calls Tryz.prog 37 #[.string s, .string t] w (RetB w S) := by
  rw [← h]; exact addA gs.1 gt.1 (by omega) gs.2 gt.2 ((gs.2.add gt.2).mono (by omega)) hT
theorem subC {s t S : ByteArray} {K : Nat} {w : World} (gs : Nmb K s) (gt : Nmb K t) (hK : K ≤ 15) (h : rs (qv s + -qv t) = S) (hT : TabsA w) : Calls Tryz.prog 39 #[.string s, .string t] w (RetB w S) := by
  rw [← h]; exact subA gs.1 gt.1 (by omega) gs.2 gt.2 ((gs.2.add gt.2.neg).mono (by omega)) hT
theorem divC {s t S : ByteArray} {K : Nat} {w : World} (gs : Nmb K s) (gt : Nmb K t) (hK : K ≤ 15) (h0 : qv t ≠ 0) (h : rs (qv s * (qv t)⁻¹) = S) (hT : TabsA w) :
    Calls Tryz.prog 35 #[.string s, .string t] w fun e w' => e = .returned (.tuple #[.string S, .bool true]) ∧ Below w.heap.size w w' := by
  rw [← h]
  refine (divA gs.1 gt.1 (by omega) gs.2 gt.2 ((gs.2.mul (gt.2.inv h0)).mono (by omega)) hT).mono ?_
  rintro e w' ⟨hb, ⟨h1, _⟩ | ⟨_, rfl⟩⟩
  · exact absurd h1 h0
  · exact ⟨rfl, hb⟩
theorem divC0 {s t : ByteArray} {K : Nat} {w : World} (gs : Nmb K s) (gt : Nmb K t) (hK : K ≤ 15) (h0 : qv t = 0) (hT : TabsA w) :
    Calls Tryz.prog 35 #[.string s, .string t] w fun e w' => e = .returned (.tuple #[.string ⟨#[]⟩, .bool false]) ∧ Below w.heap.size w w' := by
  refine (divA gs.1 gt.1 (by omega) gs.2 gt.2 ?_ hT).mono ?_
  · rw [h0, Rat.inv_zero, Rat.mul_zero]
    exact sz_lit (by kernel_rfl) (by kernel_rfl) (by decide)
  · rintro e w' ⟨hb, ⟨_, rfl⟩ | ⟨h1, _⟩⟩
    · exact ⟨rfl, hb⟩
    · exact absurd h0 h1
theorem cmp_pos {a b : Rat} : 0 < cmpInt (a.num * b.den) (b.num * a.den) ↔ b < a := by
  rw [Rat.lt_iff]
  unfold cmpInt
  split
  · omega
  · split <;> omega
theorem cmp_le {a b : Rat} : cmpInt (a.num * b.den) (b.num * a.den) ≤ 0 ↔ a ≤ b := by
  rw [← Rat.not_lt, ← cmp_pos]; omega
theorem compareC {s t : ByteArray} {K : Nat} {c : Int} {w : World} (gs : Nmb K s) (gt : Nmb K t) (hK : K ≤ 15) (h : cmpInt ((qv s).num * (qv t).den) ((qv t).num * (qv s).den) = c) (hT : TabsA w) : Calls Tryz.prog 31 #[.string s, .string t] w (RetI w c) := by
  rw [← h]; exact compareA gs.1 gt.1 (by omega) gs.2 gt.2 hT
end Go.Proofs.YtekghemhccfhkaaGreatDoor
namespace Go.Proofs.YtekghemhccfhkaaGreatDoor
open Go.RowKit Go.Big
def S100 : List ByteArray → Bool := fun l => decide (∀ x ∈ l, x.size ≤ 100)
theorem short3 {a b c : ByteArray} {g cap : Nat} {w : World} (h0 : w.cell? ⟨g, 0, none⟩ = some (.string a)) (h1 : w.cell? ⟨g, 1, none⟩ = some (.string b)) (h2 : w.cell? ⟨g, 2, none⟩ = some (.string c)) {o : Bool} (ho : S100 [a, b, c] = o) :
    Calls Tryz.prog 24 #[.int .i64 100, .slice (some ⟨g, 0, none⟩) 3 cap] w fun e w' => e = .returned (.bool o) ∧ w' = w := by
  rw [← ho]
  exact short_any (l := [a, b, c]) (n := 100) (by simp) (fun i h => by
    rcases i with _ | _ | _ | i
    · exact h0
    · exact h1
    · exact h2
    · simp at h; omega)
theorem short2 {a b : ByteArray} {g cap : Nat} {w : World} (h0 : w.cell? ⟨g, 0, none⟩ = some (.string a)) (h1 : w.cell? ⟨g, 1, none⟩ = some (.string b)) {o : Bool} (ho : S100 [a, b] = o) :
    Calls Tryz.prog 24 #[.int .i64 100, .slice (some ⟨g, 0, none⟩) 2 cap] w fun e w' => e = .returned (.bool o) ∧ w' = w := by
  rw [← ho]
  exact short_any (l := [a, b]) (n := 100) (by simp) (fun i h => by
    rcases i with _ | _ | i
    · exact h0
    · exact h1
    · simp at h; omega)
set_option maxRecDepth 100000 in
set_option maxHeartbeats 4000000 in
theorem rationalField_walk (a b c : ByteArray) {w : World} (hT : TabsA w) : Calls Tryz.prog 10 #[.string a, .string b, .string c] w (RetBool w true) := by
  have HT := Lib.hid hT
  obtain ⟨o, ho⟩ : ∃ o, S100 [a, b, c] = o := ⟨_, rfl⟩
  have HO := Lib.hid ho
  obtain ⟨w0, hw0⟩ : ∃ w0, w.alloc (.cells #[.string a, .string b, .string c] 9) = w0 := ⟨_, rfl⟩
  have hr := heap_alloc_new w (.cells #[.string a, .string b, .string c] 9)
  have hb0 : Below w.heap.size w w0 := by rw [← hw0]; exact (Below.refl _ _).alloc' _
  rw [hw0] at hr
  have HSH := Lib.hid (short3 (cap := 3) (g := w.heap.size) (w := w0) (by rw [cell_rowB hr]; rfl) (by rw [cell_rowB hr]; rfl) (by rw [cell_rowB hr]; rfl) HO.out)
  have HT := Lib.hid (HT.out.below hb0)
  have HB := Lib.hid hb0
  clear hT ho hr hb0
  cases o with
  | false =>
    go_enter Tryz.func10, Tryz.ntmps10
    go_wp2_with fail
    refine HSH.out.mono ?_
    rintro e w1 ⟨rfl, rfl⟩
    go_wp2_with fail
    refine (awake_any HT.out).mono ?_
    rintro e w2 ⟨rfl, hb2⟩
    have HB := Lib.hid (below_trans HB.out hb2)
    clear hb2
    go_wp2_with fail
    go_ret
    exact ⟨rfl, HB.out⟩
  | true =>
    have hsz : ∀ x ∈ [a, b, c], x.size ≤ 100 := of_decide_eq_true HO.out
    obtain ⟨A, hA⟩ : ∃ A, qv a = A := ⟨_, rfl⟩
    obtain ⟨B, hB⟩ : ∃ B, qv b = B := ⟨_, rfl⟩
    obtain ⟨C, hC⟩ : ∃ C, qv c = C := ⟨_, rfl⟩
    have ga : Nmb 6 a := nmb_arg (hsz a (by simp))
    have gb : Nmb 6 b := nmb_arg (hsz b (by simp))
    have gc : Nmb 6 c := nmb_arg (hsz c (by simp))
    have hza : Sz 6 A := by rw [← hA]; exact ga.2
    have hzb : Sz 6 B := by rw [← hB]; exact gb.2
    have hzc : Sz 6 C := by rw [← hC]; exact gc.2
    obtain ⟨S1, hS1⟩ : ∃ s, rs (A * B) = s := ⟨_, rfl⟩
    have qS1 : qv S1 = A * B := by rw [← hS1]; exact qv_rs _
    have gS1 : Nmb 12 S1 := by rw [← hS1]; exact nmb_rs (by decide) (by decide) (hza.mul hzb)
    obtain ⟨S2, hS2⟩ : ∃ s, rs (B * C) = s := ⟨_, rfl⟩
    have qS2 : qv S2 = B * C := by rw [← hS2]; exact qv_rs _
    have gS2 : Nmb 12 S2 := by rw [← hS2]; exact nmb_rs (by decide) (by decide) (hzb.mul hzc)
    obtain ⟨S3, hS3⟩ : ∃ s, rs (A * B * C) = s := ⟨_, rfl⟩
    have qS3 : qv S3 = A * B * C := by rw [← hS3]; exact qv_rs _
    obtain ⟨T1, hT1⟩ : ∃ s, rs (B + C) = s := ⟨_, rfl⟩
    have qT1 : qv T1 = B + C := by rw [← hT1]; exact qv_rs _
    have gT1 : Nmb 13 T1 := by rw [← hT1]; exact nmb_rs (by decide) (by decide) ((hzb.add hzc).mono (by decide))
    obtain ⟨S4, hS4⟩ : ∃ s, rs (A * (B + C)) = s := ⟨_, rfl⟩
    have qS4 : qv S4 = A * (B + C) := by rw [← hS4]; exact qv_rs _
    obtain ⟨T2, hT2⟩ : ∃ s, rs (A * C) = s := ⟨_, rfl⟩
    have qT2 : qv T2 = A * C := by rw [← hT2]; exact qv_rs _
    have gT2 : Nmb 12 T2 := by rw [← hT2]; exact nmb_rs (by decide) (by decide) (hza.mul hzc)
    obtain ⟨T3, hT3⟩ : ∃ s, rs (A + B) = s := ⟨_, rfl⟩
    have qT3 : qv T3 = A + B := by rw [← hT3]; exact qv_rs _
    have gT3 : Nmb 13 T3 := by rw [← hT3]; exact nmb_rs (by decide) (by decide) ((hza.add hzb).mono (by decide))
    obtain ⟨S5, hS5⟩ : ∃ s, rs (A + B + C) = s := ⟨_, rfl⟩
    have qS5 : qv S5 = A + B + C := by rw [← hS5]; exact qv_rs _
    obtain ⟨T4, hT4⟩ : ∃ s, rs (A + -B) = s := ⟨_, rfl⟩
    have qT4 : qv T4 = A + -B := by rw [← hT4]; exact qv_rs _
    have gT4 : Nmb 13 T4 := by rw [← hT4]; exact nmb_rs (by decide) (by decide) ((hza.add hzb.neg).mono (by decide))
    obtain ⟨S6, hS6⟩ : ∃ s, rs (A) = s := ⟨_, rfl⟩
    have qS6 : qv S6 = A := by rw [← hS6]; exact qv_rs _
    obtain ⟨T5, hT5⟩ : ∃ s, rs (A + C) = s := ⟨_, rfl⟩
    have qT5 : qv T5 = A + C := by rw [← hT5]; exact qv_rs _
    have gT5 : Nmb 13 T5 := by rw [← hT5]; exact nmb_rs (by decide) (by decide) ((hza.add hzc).mono (by decide))
    have GG := Lib.hid (show (Nmb 6 a ∧ Nmb 6 b ∧ Nmb 6 c) ∧ Nmb 12 S1 ∧ Nmb 12 S2 ∧ Nmb 13 T1 ∧ Nmb 12 T2 ∧ Nmb 13 T3 ∧ Nmb 13 T4 ∧ Nmb 13 T5 from ⟨⟨ga, gb, gc⟩, gS1, gS2, gT1, gT2, gT3, gT4, gT5⟩)
    have E1 := Lib.hid (show rs (qv a * qv b) = S1 from by rw [← hS1]; exact congrArg rs (by rw [hA, hB]))
    have E2 := Lib.hid (show rs (qv b * qv c) = S2 from by rw [← hS2]; exact congrArg rs (by rw [hB, hC]))
    have E3 := Lib.hid (show rs (qv S1 * qv c) = S3 from by rw [← hS3]; exact congrArg rs (by rw [qS1, hC]))
    have E4 := Lib.hid (show rs (qv a * qv S2) = S3 from by rw [← hS3]; exact congrArg rs (by rw [hA, qS2]; grind))
    have E5 := Lib.hid (show rs (qv b * qv a) = S1 from by rw [← hS1]; exact congrArg rs (by rw [hA, hB]; grind))
    have E6 := Lib.hid (show rs (qv b + qv c) = T1 from by rw [← hT1]; exact congrArg rs (by rw [hB, hC]))
    have E7 := Lib.hid (show rs (qv a * qv T1) = S4 from by rw [← hS4]; exact congrArg rs (by rw [hA, qT1]))
    have E8 := Lib.hid (show rs (qv a * qv c) = T2 from by rw [← hT2]; exact congrArg rs (by rw [hA, hC]))
    have E9 := Lib.hid (show rs (qv S1 + qv T2) = S4 from by rw [← hS4]; exact congrArg rs (by rw [qS1, qT2]; grind))
    have E10 := Lib.hid (show rs (qv a + qv b) = T3 from by rw [← hT3]; exact congrArg rs (by rw [hA, hB]))
    have E11 := Lib.hid (show rs (qv T3 + qv c) = S5 from by rw [← hS5]; exact congrArg rs (by rw [qT3, hC]))
    have E12 := Lib.hid (show rs (qv a + qv T1) = S5 from by rw [← hS5]; exact congrArg rs (by rw [hA, qT1]; grind))
    have E13 := Lib.hid (show rs (qv a + -qv b) = T4 from by rw [← hT4]; exact congrArg rs (by rw [hA, hB]))
    have E14 := Lib.hid (show rs (qv T4 + qv b) = S6 from by rw [← hS6]; exact congrArg rs (by rw [qT4, hB]; grind))
    have E15 := Lib.hid (show rs (qv a + qv ⟨#[48]⟩) = S6 from by rw [← hS6]; exact congrArg rs (by rw [hA, q0]; grind))
    have E16 := Lib.hid (show rs (qv a + qv c) = T5 from by rw [← hT5]; exact congrArg rs (by rw [hA, hC]))
    obtain ⟨x1, hx1⟩ : ∃ x, cmpInt ((qv a).num * (qv b).den) ((qv b).num * (qv a).den) = x := ⟨_, rfl⟩
    obtain ⟨x2, hx2⟩ : ∃ x, cmpInt ((qv T5).num * (qv T1).den) ((qv T1).num * (qv T5).den) = x := ⟨_, rfl⟩
    have HX1 := Lib.hid hx1
    have HX2 := Lib.hid hx2
    have hle : ¬ 0 < x1 → x2 ≤ 0 := by
      rw [← hx1, ← hx2, cmp_pos, cmp_le, hA, hB, qT5, qT1, Rat.not_lt]
      intro h; exact Rat.add_le_add_right.2 h
    have HB0 := Lib.hid hB
    clear hsz hS1 qS1 hS2 qS2 hS3 qS3 hT1 qT1 hS4 qS4 hT2 qT2 hT3 qT3 hS5 qS5 hT4 qT4 hS6 qS6 hT5 qT5 gS1 gS2 gT1 gT2 gT3 gT4 gT5 ga gb gc hza hzb hzc hx1 hx2 hA hB hC
    go_enter Tryz.func10, Tryz.ntmps10
    go_wp2_with fail
    refine HSH.out.mono ?_
    rintro e w1 ⟨rfl, rfl⟩
    clear HSH
    go_wp2_with fail
    refine (mulC (K := 6) GG.out.1.1 GG.out.1.2.1 (by decide) E1.out HT.out).mono ?_
    rintro e w1 ⟨rfl, hb1⟩
    have HT := Lib.hid (HT.out.below hb1)
    have HB := Lib.hid (below_trans HB.out hb1)
    clear hb1
    go_wp2_with fail
    refine (mulC (K := 6) GG.out.1.2.1 GG.out.1.2.2 (by decide) E2.out HT.out).mono ?_
    rintro e w2 ⟨rfl, hb2⟩
    have HT := Lib.hid (HT.out.below hb2)
    have HB := Lib.hid (below_trans HB.out hb2)
    clear hb2
    go_wp2_with fail
    refine (mulC (K := 12) GG.out.2.1 (Nmb.mono GG.out.1.2.2 (by decide)) (by decide) E3.out HT.out).mono ?_
    rintro e w3 ⟨rfl, hb3⟩
    have HT := Lib.hid (HT.out.below hb3)
    have HB := Lib.hid (below_trans HB.out hb3)
    clear hb3
    go_wp2_with fail
    refine (mulC (K := 12) (Nmb.mono GG.out.1.1 (by decide)) GG.out.2.2.1 (by decide) E4.out HT.out).mono ?_
    rintro e w4 ⟨rfl, hb4⟩
    have HT := Lib.hid (HT.out.below hb4)
    have HB := Lib.hid (below_trans HB.out hb4)
    clear hb4
    go_wp2_with fail
    refine (mulC (K := 6) GG.out.1.2.1 GG.out.1.1 (by decide) E5.out HT.out).mono ?_
    rintro e w5 ⟨rfl, hb5⟩
    have HT := Lib.hid (HT.out.below hb5)
    have HB := Lib.hid (below_trans HB.out hb5)
    clear hb5
    go_wp2_with fail
    refine (addC (K := 6) GG.out.1.2.1 GG.out.1.2.2 (by decide) E6.out HT.out).mono ?_
    rintro e w6 ⟨rfl, hb6⟩
    have HT := Lib.hid (HT.out.below hb6)
    have HB := Lib.hid (below_trans HB.out hb6)
    clear hb6
    go_wp2_with fail
    refine (mulC (K := 13) (Nmb.mono GG.out.1.1 (by decide)) GG.out.2.2.2.1 (by decide) E7.out HT.out).mono ?_
    rintro e w7 ⟨rfl, hb7⟩
    have HT := Lib.hid (HT.out.below hb7)
    have HB := Lib.hid (below_trans HB.out hb7)
    clear hb7
    go_wp2_with fail
    refine (mulC (K := 6) GG.out.1.1 GG.out.1.2.2 (by decide) E8.out HT.out).mono ?_
    rintro e w8 ⟨rfl, hb8⟩
    have HT := Lib.hid (HT.out.below hb8)
    have HB := Lib.hid (below_trans HB.out hb8)
    clear hb8
    go_wp2_with fail
    refine (addC (K := 12) GG.out.2.1 GG.out.2.2.2.2.1 (by decide) E9.out HT.out).mono ?_
    rintro e w9 ⟨rfl, hb9⟩
    have HT := Lib.hid (HT.out.below hb9)
    have HB := Lib.hid (below_trans HB.out hb9)
    clear hb9
    go_wp2_with fail
    refine (addC (K := 6) GG.out.1.1 GG.out.1.2.1 (by decide) E10.out HT.out).mono ?_
    rintro e w10 ⟨rfl, hb10⟩
    have HT := Lib.hid (HT.out.below hb10)
    have HB := Lib.hid (below_trans HB.out hb10)
    clear hb10
    go_wp2_with fail
    refine (addC (K := 13) GG.out.2.2.2.2.2.1 (Nmb.mono GG.out.1.2.2 (by decide)) (by decide) E11.out HT.out).mono ?_
    rintro e w11 ⟨rfl, hb11⟩
    have HT := Lib.hid (HT.out.below hb11)
    have HB := Lib.hid (below_trans HB.out hb11)
    clear hb11
    go_wp2_with fail
    refine (addC (K := 6) GG.out.1.2.1 GG.out.1.2.2 (by decide) E6.out HT.out).mono ?_
    rintro e w12 ⟨rfl, hb12⟩
    have HT := Lib.hid (HT.out.below hb12)
    have HB := Lib.hid (below_trans HB.out hb12)
    clear hb12
    go_wp2_with fail
    refine (addC (K := 13) (Nmb.mono GG.out.1.1 (by decide)) GG.out.2.2.2.1 (by decide) E12.out HT.out).mono ?_
    rintro e w13 ⟨rfl, hb13⟩
    have HT := Lib.hid (HT.out.below hb13)
    have HB := Lib.hid (below_trans HB.out hb13)
    clear hb13
    go_wp2_with fail
    refine (subC (K := 6) GG.out.1.1 GG.out.1.2.1 (by decide) E13.out HT.out).mono ?_
    rintro e w14 ⟨rfl, hb14⟩
    have HT := Lib.hid (HT.out.below hb14)
    have HB := Lib.hid (below_trans HB.out hb14)
    clear hb14
    go_wp2_with fail
    refine (addC (K := 13) GG.out.2.2.2.2.2.2.1 (Nmb.mono GG.out.1.2.1 (by decide)) (by decide) E14.out HT.out).mono ?_
    rintro e w15 ⟨rfl, hb15⟩
    have HT := Lib.hid (HT.out.below hb15)
    have HB := Lib.hid (below_trans HB.out hb15)
    clear hb15
    go_wp2_with fail
    refine (addC (K := 6) GG.out.1.1 nmb0 (by decide) E15.out HT.out).mono ?_
    rintro e w16 ⟨rfl, hb16⟩
    have HT := Lib.hid (HT.out.below hb16)
    have HB := Lib.hid (below_trans HB.out hb16)
    clear hb16
    have HLE := Lib.hid hle
    clear hle
    obtain ⟨wd, HDV⟩ : ∃ wd, wd = w16 := ⟨_, rfl⟩
    subst HDV
    by_cases h0 : B = 0
    · have HQ0 := Lib.hid (show qv b = 0 from HB0.out.trans h0)
      clear h0
      go_wp2_with fail
      refine (divC0 (K := 6) GG.out.1.1 GG.out.1.2.1 (by decide) HQ0.out HT.out).mono ?_
      rintro e w17 ⟨rfl, hb17⟩
      have HT := Lib.hid (HT.out.below hb17)
      have HB := Lib.hid (below_trans HB.out hb17)
      clear hb17
      go_wp2_with fail
      refine (compareC (K := 6) GG.out.1.1 GG.out.1.2.1 (by decide) HX1.out HT.out).mono ?_
      rintro e w18 ⟨rfl, hb18⟩
      have HT := Lib.hid (HT.out.below hb18)
      have HB := Lib.hid (below_trans HB.out hb18)
      clear hb18
      by_cases hc : 0 < x1
      · go_wp2_with fail
        refine (awake_any HT.out).mono ?_
        rintro e w19 ⟨rfl, hb19⟩
        have HT := Lib.hid (HT.out.below hb19)
        have HB := Lib.hid (below_trans HB.out hb19)
        clear hb19
        go_wp2_with fail
        go_ret
        exact ⟨rfl, HB.out⟩
      · have h2 : x2 ≤ 0 := HLE.out (by omega)
        go_wp2_with fail
        refine (addC (K := 6) GG.out.1.1 GG.out.1.2.2 (by decide) E16.out HT.out).mono ?_
        rintro e w19 ⟨rfl, hb19⟩
        have HT := Lib.hid (HT.out.below hb19)
        have HB := Lib.hid (below_trans HB.out hb19)
        clear hb19
        go_wp2_with fail
        refine (addC (K := 6) GG.out.1.2.1 GG.out.1.2.2 (by decide) E6.out HT.out).mono ?_
        rintro e w20 ⟨rfl, hb20⟩
        have HT := Lib.hid (HT.out.below hb20)
        have HB := Lib.hid (below_trans HB.out hb20)
        clear hb20
        go_wp2_with fail
        refine (compareC (K := 13) GG.out.2.2.2.2.2.2.2 GG.out.2.2.2.1 (by decide) HX2.out HT.out).mono ?_
        rintro e w21 ⟨rfl, hb21⟩
        have HT := Lib.hid (HT.out.below hb21)
        have HB := Lib.hid (below_trans HB.out hb21)
        clear hb21
        go_wp2_with fail
        refine (awake_any HT.out).mono ?_
        rintro e w22 ⟨rfl, hb22⟩
        have HT := Lib.hid (HT.out.below hb22)
        have HB := Lib.hid (below_trans HB.out hb22)
        clear hb22
        go_wp2_with fail
        go_ret
        exact ⟨rfl, HB.out⟩
    · have HQ0 := Lib.hid (show qv b ≠ 0 from fun h => h0 (HB0.out.symm.trans h))
      obtain ⟨Q, hQ⟩ : ∃ s, rs (qv a * (qv b)⁻¹) = s := ⟨_, rfl⟩
      have HQ := Lib.hid hQ
      have GQ := Lib.hid (show Nmb 12 Q from by rw [← hQ]; exact nmb_rs (by decide) (by decide) (GG.out.1.1.2.mul (GG.out.1.2.1.2.inv HQ0.out)))
      have E17 := Lib.hid (show rs (qv Q * qv b) = S6 from by rw [← hQ, qv_rs, ← E15.out, q0]; exact congrArg rs (by have := HQ0.out; grind))
      clear hQ h0
      go_wp2_with fail
      refine (divC (K := 6) GG.out.1.1 GG.out.1.2.1 (by decide) HQ0.out HQ.out HT.out).mono ?_
      rintro e w17 ⟨rfl, hb17⟩
      have HT := Lib.hid (HT.out.below hb17)
      have HB := Lib.hid (below_trans HB.out hb17)
      clear hb17
      go_wp2_with fail
      refine (mulC (K := 12) GQ.out (Nmb.mono GG.out.1.2.1 (by decide)) (by decide) E17.out HT.out).mono ?_
      rintro e w18 ⟨rfl, hb18⟩
      have HT := Lib.hid (HT.out.below hb18)
      have HB := Lib.hid (below_trans HB.out hb18)
      clear hb18
      go_wp2_with fail
      refine (addC (K := 6) GG.out.1.1 nmb0 (by decide) E15.out HT.out).mono ?_
      rintro e w19 ⟨rfl, hb19⟩
      have HT := Lib.hid (HT.out.below hb19)
      have HB := Lib.hid (below_trans HB.out hb19)
      clear hb19
      go_wp2_with fail
      refine (compareC (K := 6) GG.out.1.1 GG.out.1.2.1 (by decide) HX1.out HT.out).mono ?_
      rintro e w20 ⟨rfl, hb20⟩
      have HT := Lib.hid (HT.out.below hb20)
      have HB := Lib.hid (below_trans HB.out hb20)
      clear hb20
      by_cases hc : 0 < x1
      · go_wp2_with fail
        refine (awake_any HT.out).mono ?_
        rintro e w21 ⟨rfl, hb21⟩
        have HT := Lib.hid (HT.out.below hb21)
        have HB := Lib.hid (below_trans HB.out hb21)
        clear hb21
        go_wp2_with fail
        go_ret
        exact ⟨rfl, HB.out⟩
      · have h2 : x2 ≤ 0 := HLE.out (by omega)
        go_wp2_with fail
        refine (addC (K := 6) GG.out.1.1 GG.out.1.2.2 (by decide) E16.out HT.out).mono ?_
        rintro e w21 ⟨rfl, hb21⟩
        have HT := Lib.hid (HT.out.below hb21)
        have HB := Lib.hid (below_trans HB.out hb21)
        clear hb21
        go_wp2_with fail
        refine (addC (K := 6) GG.out.1.2.1 GG.out.1.2.2 (by decide) E6.out HT.out).mono ?_
        rintro e w22 ⟨rfl, hb22⟩
        have HT := Lib.hid (HT.out.below hb22)
        have HB := Lib.hid (below_trans HB.out hb22)
        clear hb22
        go_wp2_with fail
        refine (compareC (K := 13) GG.out.2.2.2.2.2.2.2 GG.out.2.2.2.1 (by decide) HX2.out HT.out).mono ?_
        rintro e w23 ⟨rfl, hb23⟩
        have HT := Lib.hid (HT.out.below hb23)
        have HB := Lib.hid (below_trans HB.out hb23)
        clear hb23
        go_wp2_with fail
        refine (awake_any HT.out).mono ?_
        rintro e w24 ⟨rfl, hb24⟩
        have HT := Lib.hid (HT.out.below hb24)
        have HB := Lib.hid (below_trans HB.out hb24)
        clear hb24
        go_wp2_with fail
        go_ret
        exact ⟨rfl, HB.out⟩
end Go.Proofs.YtekghemhccfhkaaGreatDoor
namespace Go.Big
open Go Go.RowKit
theorem rabs_of_root {r a : Rat} (h0 : 0 ≤ r) (h : r * r = a * a) : r = rabs a := by
  rcases root_abs h0 h with e | e
  · subst e
    have := Rat.num_nonneg.2 h0
    exact Rat.ext (by rw [rabs_num]; omega) rfl
  · have h1 := Rat.num_nonneg.2 h0
    rw [e, Rat.neg_num] at h1
    refine Rat.ext ?_ ?_
    · rw [e, Rat.neg_num, rabs_num]; omega
    · rw [e, Rat.neg_den, rabs_den]
theorem str_ne {x y : ByteArray} (h : x ≠ y) : (x.toList == y.toList) = false := by
  rw [beq_eq_false_iff_ne, ByteArray.toList_eq, ByteArray.toList_eq]
  intro e
  exact h (ByteArray.ext (Array.toList_inj.1 e))
theorem no_root {a r : Rat} (hd : a.den = 1) (h0 : a ≠ 0) (h : r * r = a * a + 1) : False := by
  have e : a = (a.num : Rat) := Rat.ext (by rw [Rat.num_intCast]) (by rw [Rat.den_intCast, hd])
  have e2 : a * a + 1 = ((a.num * a.num + 1 : Int) : Rat) := by
    rw [Rat.intCast_add, Rat.intCast_mul, ← e]; rfl
  have h1 := rat_sq r
  rw [h, e2, Rat.num_intCast] at h1
  have h2 : r.num.natAbs * r.num.natAbs = a.num.natAbs * a.num.natAbs + 1 := by
    have h5 := Int.natAbs_mul_self (a := r.num)
    have h6 := Int.natAbs_mul_self (a := a.num)
    have h7 := h1.1
    omega
  have h3 := sq_succ h2
  exact h0 (Rat.num_eq_zero.1 (by omega))
theorem nmb_int {K : Nat} {n : Int} (hK : 0 < K) (hl : K ≤ 30) (h : n.natAbs < Bw ^ K) : Nmb K (rs (n : Rat)) := by
  have hz := Sz.int h hK
  exact ⟨Nat.le_trans (rs_size_int hK hz (Rat.den_intCast n)) (by omega), by rw [qv_rs]; exact hz⟩
end Go.Big
namespace Go.Proofs.YtekghemhccfhkaaGreatDoor
open Go.RowKit Go.Big
theorem rootC1 {s R : ByteArray} {K : Nat} {a : Rat} {w : World} (gs : Nmb K s) (hK : K ≤ 31) (hq : qv s = a * a) (hR : rs (rabs a) = R) (hT : TabsA w) :
    Calls Tryz.prog 45 #[.string s] w fun e w' => e = .returned (.tuple #[.string R, .bool true]) ∧ Below w.heap.size w w' := by
  refine (rootA gs.1 hK gs.2 hT).mono ?_
  rintro e w' ⟨hb, ⟨r, h0, hr, rfl⟩ | ⟨hno, _⟩⟩
  · rw [rabs_of_root h0 (hr.trans hq), hR]; exact ⟨rfl, hb⟩
  · exact absurd ⟨a, hq.symm⟩ hno
theorem rootC0 {s : ByteArray} {K : Nat} {w : World} (gs : Nmb K s) (hK : K ≤ 31) (hno : ∀ r : Rat, r * r ≠ qv s) (hT : TabsA w) :
    Calls Tryz.prog 45 #[.string s] w fun e w' => e = .returned (.tuple #[.string ⟨#[]⟩, .bool false]) ∧ Below w.heap.size w w' := by
  refine (rootA gs.1 hK gs.2 hT).mono ?_
  rintro e w' ⟨hb, ⟨r, h0, hr, rfl⟩ | ⟨_, rfl⟩⟩
  · exact absurd hr (hno r)
  · exact ⟨rfl, hb⟩
theorem absC {s S : ByteArray} {K : Nat} {w : World} (gs : Nmb K s) (hK : K ≤ 31) (h : rs (rabs (qv s)) = S) (hT : TabsA w) : Calls Tryz.prog 34 #[.string s] w (RetB w S) := by
  rw [← h]; exact absA gs.1 (gs.2.mono hK) hT
theorem floorC {s S : ByteArray} {K : Nat} {w : World} (gs : Nmb K s) (hK : K ≤ 31) (h : rs ((qv s).floor : Rat) = S) (hT : TabsA w) : Calls Tryz.prog 47 #[.string s] w (RetB w S) := by
  rw [← h]; exact floorA gs.1 hK gs.2 hT
theorem signC {s : ByteArray} {K : Nat} {c : Int} {w : World} (gs : Nmb K s) (h : Int.sign (qv s).num = c) (hT : TabsA w) : Calls Tryz.prog 30 #[.string s] w (RetI w c) := by
  rw [← h]; exact signA gs.1 hT
theorem fromIntC {n : Int} {S : ByteArray} {w : World} (hn : IsS n) (h : rs (n : Rat) = S) (hT : TabsA w) : Calls Tryz.prog 16 #[.int .i64 n] w (RetB w S) := by
  rw [← h]; exact fromIntA hn hT
theorem gcdC {s t S : ByteArray} {K : Nat} {w : World} (gs : Nmb K s) (gt : Nmb K t) (hK : K < 100) (sr : Sz 31 (rgcd (qv s) (qv t))) (h : rs (rgcd (qv s) (qv t)) = S) (hT : TabsA w) : Calls Tryz.prog 51 #[.string s, .string t] w (RetB w S) := by
  rw [← h]; exact gcdA gs.1 gt.1 hK gs.2 gt.2 sr hT
theorem divC' {s t S : ByteArray} {K : Nat} {w : World} (gs : Nmb K s) (gt : Nmb K t) (hK : K < 100) (h0 : qv t ≠ 0) (sr : Sz 31 (qv s * (qv t)⁻¹)) (h : rs (qv s * (qv t)⁻¹) = S) (hT : TabsA w) :
    Calls Tryz.prog 35 #[.string s, .string t] w fun e w' => e = .returned (.tuple #[.string S, .bool true]) ∧ Below w.heap.size w w' := by
  rw [← h]
  refine (divA gs.1 gt.1 hK gs.2 gt.2 sr hT).mono ?_
  rintro e w' ⟨hb, ⟨h1, _⟩ | ⟨_, rfl⟩⟩
  · exact absurd h1 h0
  · exact ⟨rfl, hb⟩
end Go.Proofs.YtekghemhccfhkaaGreatDoor
namespace Go.Proofs.YtekghemhccfhkaaGreatDoor
open Go.RowKit Go.Big
set_option maxRecDepth 100000 in
set_option maxHeartbeats 4000000 in
theorem rationalRoots_walk (a : ByteArray) {w : World} (hT : TabsA w) : Calls Tryz.prog 11 #[.string a] w (RetBool w true) := by
  have HT := Lib.hid hT
  have HB := Lib.hid (Below.refl w.heap.size w)
  clear hT
  by_cases hl : 100 < a.size
  · have hz : decide ((100 : Int) < (a.size : Int)) = true := decide_eq_true (by omega)
    go_enter Tryz.func11, Tryz.ntmps11
    go_wp2_with fail
    refine (awake_any HT.out).mono ?_
    rintro e w1 ⟨rfl, hb1⟩
    have HB := Lib.hid (below_trans HB.out hb1)
    clear hb1
    go_wp2_with fail
    go_ret
    exact ⟨rfl, HB.out⟩
  · have hz : decide ((100 : Int) < (a.size : Int)) = false := decide_eq_false (by omega)
    have ga : Nmb 6 a := nmb_arg (by omega)
    obtain ⟨A, hA⟩ : ∃ A, qv a = A := ⟨_, rfl⟩
    have hza : Sz 6 A := by rw [← hA]; exact ga.2
    obtain ⟨S, hS⟩ : ∃ s, rs (A * A) = s := ⟨_, rfl⟩
    have qS : qv S = A * A := by rw [← hS]; exact qv_rs _
    have gS : Nmb 12 S := by rw [← hS]; exact nmb_rs (by decide) (by decide) (hza.mul hza)
    obtain ⟨R, hR⟩ : ∃ s, rs (rabs A) = s := ⟨_, rfl⟩
    obtain ⟨F, hF⟩ : ∃ s, rs (A.floor : Rat) = s := ⟨_, rfl⟩
    obtain ⟨Z, hZ⟩ : ∃ s, rs A = s := ⟨_, rfl⟩
    obtain ⟨T, hTT⟩ : ∃ s, rs (A * A + 1) = s := ⟨_, rfl⟩
    have qT : qv T = A * A + 1 := by rw [← hTT]; exact qv_rs _
    have gT : Nmb 14 T := by
      rw [← hTT]; exact nmb_rs (by decide) (by decide) (((hza.mul hza).add (L := 1) (sz_lit (by kernel_rfl) (by kernel_rfl) (by decide))).mono (by decide))
    obtain ⟨c, hc⟩ : ∃ c, Int.sign A.num = c := ⟨_, rfl⟩
    have GG := Lib.hid (show Nmb 6 a ∧ Nmb 12 S ∧ Nmb 14 T from ⟨ga, gS, gT⟩)
    have E1 := Lib.hid (show rs (qv a * qv a) = S from by rw [← hS, hA])
    have E2 := Lib.hid (show rs (rabs (qv a)) = R from by rw [← hR, hA])
    have E3 := Lib.hid (show rs ((qv a).floor : Rat) = F from by rw [← hF, hA])
    have E4 := Lib.hid (show rs (qv a + qv ⟨#[48]⟩) = Z from by rw [← hZ]; exact congrArg rs (by rw [hA, q0]; grind))
    have E5 := Lib.hid (show Int.sign (qv a).num = c from by rw [← hc, hA])
    have E6 := Lib.hid (show rs (qv S + qv ⟨#[49]⟩) = T from by rw [← hTT]; exact congrArg rs (by rw [qS, q1]))
    have E7 := Lib.hid (show qv S = qv a * qv a from by rw [qS, hA])
    have hroot : F = Z → c ≠ 0 → ∀ r : Rat, r * r ≠ qv T := by
      intro h1 h2 r hr
      rw [← hF, ← hZ] at h1
      refine no_root (floor_int (rs_inj h1)) (fun h => h2 ?_) (hr.trans qT)
      rw [← hc, h]; rfl
    have HRT := Lib.hid hroot
    clear hroot hA hza hS qS gS hR hF hZ hTT qT gT hc ga
    go_enter Tryz.func11, Tryz.ntmps11
    go_wp2_with fail
    refine (mulC (K := 6) GG.out.1 GG.out.1 (by decide) E1.out HT.out).mono ?_
    rintro e w1 ⟨rfl, hb1⟩
    have HT := Lib.hid (HT.out.below hb1)
    have HB := Lib.hid (below_trans HB.out hb1)
    clear hb1
    go_wp2_with fail
    refine (rootC1 GG.out.2.1 (by decide) E7.out E2.out HT.out).mono ?_
    rintro e w2 ⟨rfl, hb2⟩
    have HT := Lib.hid (HT.out.below hb2)
    have HB := Lib.hid (below_trans HB.out hb2)
    clear hb2
    go_wp2_with fail
    refine (absC GG.out.1 (by decide) E2.out HT.out).mono ?_
    rintro e w3 ⟨rfl, hb3⟩
    have HT := Lib.hid (HT.out.below hb3)
    have HB := Lib.hid (below_trans HB.out hb3)
    clear hb3
    go_wp2_with fail
    refine (floorC GG.out.1 (by decide) E3.out HT.out).mono ?_
    rintro e w4 ⟨rfl, hb4⟩
    have HT := Lib.hid (HT.out.below hb4)
    have HB := Lib.hid (below_trans HB.out hb4)
    clear hb4
    go_wp2_with fail
    refine (addC (K := 6) GG.out.1 nmb0 (by decide) E4.out HT.out).mono ?_
    rintro e w5 ⟨rfl, hb5⟩
    have HT := Lib.hid (HT.out.below hb5)
    have HB := Lib.hid (below_trans HB.out hb5)
    clear hb5
    by_cases hfz : F = Z
    · subst hfz
      go_wp2_with fail
      refine (signC GG.out.1 E5.out HT.out).mono ?_
      rintro e w6 ⟨rfl, hb6⟩
      have HT := Lib.hid (HT.out.below hb6)
      have HB := Lib.hid (below_trans HB.out hb6)
      clear hb6
      by_cases h0 : c = 0
      · subst h0
        go_wp2_with fail
        refine (awake_any HT.out).mono ?_
        rintro e w7 ⟨rfl, hb7⟩
        have HB := Lib.hid (below_trans HB.out hb7)
        clear hb7
        go_wp2_with fail
        go_ret
        exact ⟨rfl, HB.out⟩
      · have hz0 : (c != 0) = true := by rw [bne_iff_ne]; exact h0
        have HNO := Lib.hid (HRT.out (by first | rfl | trivial) h0)
        clear h0
        go_wp2_with fail
        refine (addC (K := 12) GG.out.2.1 (nmb1.mono (by decide)) (by decide) E6.out HT.out).mono ?_
        rintro e w7 ⟨rfl, hb7⟩
        have HT := Lib.hid (HT.out.below hb7)
        have HB := Lib.hid (below_trans HB.out hb7)
        clear hb7
        go_wp2_with fail
        refine (rootC0 GG.out.2.2 (by decide) HNO.out HT.out).mono ?_
        rintro e w8 ⟨rfl, hb8⟩
        have HT := Lib.hid (HT.out.below hb8)
        have HB := Lib.hid (below_trans HB.out hb8)
        clear hb8
        go_wp2_with fail
        refine (awake_any HT.out).mono ?_
        rintro e w9 ⟨rfl, hb9⟩
        have HB := Lib.hid (below_trans HB.out hb9)
        clear hb9
        go_wp2_with fail
        go_ret
        exact ⟨rfl, HB.out⟩
    · have hz1 := str_ne hfz
      clear hfz
      go_wp2_with fail
      refine (awake_any HT.out).mono ?_
      rintro e w7 ⟨rfl, hb7⟩
      have HB := Lib.hid (below_trans HB.out hb7)
      clear hb7
      go_wp2_with fail
      go_ret
      exact ⟨rfl, HB.out⟩
end Go.Proofs.YtekghemhccfhkaaGreatDoor
