/-
  Walks of the program's functions: NVal, NI64, LawValid.
-/
import Derived.Test.YtekghemhccfhkaaGreatDoorB43
import Derived.Test.YtekghemhccfhkaaGreatDoorB35
namespace Go.Big
open Go Go.RowKit
/-- The text s stands for the int64 x (b), or for none (then x is 0). -/
def I64S (s : ByteArray) (x : Int) (b : Bool) : Prop := (b = true ∧ IsS x ∧ s = rs (x : Rat)) ∨ (b = false ∧ x = 0 ∧ ∀ n : Int, IsS n → s ≠ rs (n : Rat))
theorem i64s_rs {q : Rat} {s : ByteArray} {x : Int} {b : Bool} (h : I64S s x b) (hs : s = rs q) : (q.den = 1 ∧ IsS q.num → b = true ∧ x = q.num) ∧ (¬ (q.den = 1 ∧ IsS q.num) → b = false ∧ x = 0) := by
  rcases h with ⟨h1, h2, h3⟩ | ⟨h1, h2, h3⟩
  · have e : q = (x : Rat) := rs_inj (hs.symm.trans h3)
    subst e
    rw [Rat.num_intCast, Rat.den_intCast]
    exact ⟨fun _ => ⟨h1, rfl⟩, fun h => absurd ⟨rfl, h2⟩ h⟩
  · constructor
    · rintro ⟨g1, g2⟩
      exact absurd (hs.trans (congrArg rs (Rat.ext (by rw [Rat.num_intCast]) (by rw [Rat.den_intCast, g1]) : q = (q.num : Rat)))) (h3 _ g2)
    · exact fun _ => ⟨h1, h2⟩
theorem i64s_none {s : ByteArray} {x : Int} {b : Bool} (h : I64S s x b) (hs : ∀ p, s ≠ rs p) : b = false ∧ x = 0 := by
  rcases h with ⟨_, _, h3⟩ | ⟨h1, h2, _⟩
  · exact absurd h3 (hs _)
  · exact ⟨h1, h2⟩
theorem val_drop_step {l : List Nat} {i : Nat} (h : i < l.length) : val B32 (l.drop i) = val B32 (l.drop (i + 1)) * 4294967296 + nth l i := by
  have e : l.drop i = nth l i :: l.drop (i + 1) := by
    rw [List.drop_eq_getElem_cons h]
    congr 1
    simp [nth, List.getD, h]
  rw [e]
  simp only [val]
  show _ = _ * B32 + _
  rw [Nat.mul_comm]; omega
theorem val_drop_lt {l : List Nat} {i : Nat} (hw : Wd B32 l) (hl : l.length ≤ 2) (h : 0 < i) : val B32 (l.drop i) < 4294967296 := by
  have h1 := val_lt (hw.drop i)
  have h2 : B32 ^ (l.drop i).length ≤ B32 ^ 1 := Nat.pow_le_pow_right (by decide) (by rw [List.length_drop]; omega)
  exact Nat.lt_of_lt_of_le h1 h2
end Go.Big
namespace Go.Proofs.YtekghemhccfhkaaGreatDoor
open Go.RowKit Go.Big
def RetI2 (w : World) (x : Int) (b : Bool) (e : Ending) (w' : World) : Prop := e = .returned (.tuple #[.int .i64 x, .bool b]) ∧ Below w.heap.size w w'
set_option maxRecDepth 100000 in
set_option maxHeartbeats 4000000 in
/-- Valid of the reference -/
theorem valid18 {s : ByteArray} {V : Bool} (hs : s.size ≤ 10000) (hV : V = true ↔ ∃ q, s = rs q) {w : World} : Calls Tryz.prog 18 #[.string s] w (RetBool w V) := by
  have HL := Lib.hid hs
  have HV := Lib.hid hV
  clear hs hV
  go_enter Tryz.func18, Tryz.ntmps18
  go_wp2_with fail
  refine (nread_any s HL.out _).mono ?_
  rintro e w1 ⟨v1, b1, q, rfl, hv1, p1, p2, hb1⟩
  have hb : b1 = V := by
    cases b1 with
    | false => exact (Bool.eq_false_iff.2 (fun e => by obtain ⟨q, hq⟩ := HV.out.1 e; exact p2 rfl q hq)).symm
    | true => exact (HV.out.2 ⟨q, p1 rfl⟩).symm
  obtain ⟨xb, xa, xk, xc, ya, yk, yc, rfl, e1, h1, h2⟩ := hv1.op
  obtain ⟨w2, hw2, hb2, kR, hz2⟩ := nbox1 w1 #[.bool xb, .slice xa xk xc, .bool false, .slice ya yk yc] 32 (cb4 xb (Cb.sl xa xk xc) false (Cb.sl ya yk yc))
  have HB := Lib.hid (hb1.trans (hb2.mono hb1.size))
  subst hb
  clear hv1 e1 h1 h2 kR hb1 hb2 hz2 p1 p2
  go_wp2_with fail
  go_ret
  exact ⟨rfl, HB.out⟩
set_option maxRecDepth 100000 in
set_option maxHeartbeats 4000000 in
/-- rational.Valid -/
theorem valid17 {s : ByteArray} {V : Bool} (hs : s.size ≤ 608) (hV : V = true ↔ ∃ q, s = rs q) {w : World} (hT : TabsA w) : Calls Tryz.prog 17 #[.string s] w (RetBool w V) := by
  have HL := Lib.hid hs
  have HV := Lib.hid hV
  have HT := Lib.hid hT
  clear hs hV hT
  go_enter Tryz.func17, Tryz.ntmps17
  go_wp2_with fail
  refine (read_any s HL.out _ HT.out.1).mono ?_
  rintro e w1 ⟨x, p, y, q, b1, rfl, hb1, hor⟩
  have hb : b1 = V := by
    rcases hor with ⟨rfl, r, hrd, _⟩ | ⟨rfl, hrd⟩
    · exact (HV.out.2 ⟨r, (rs_rd hrd).symm⟩).symm
    · exact (Bool.eq_false_iff.2 (fun e => by
        obtain ⟨q, hq⟩ := HV.out.1 e
        rw [rs_iff.1 hq, rd_rtext] at hrd
        cases hrd)).symm
  obtain ⟨w2, hw2, hb2, j3, hz2⟩ := box1 w1 #[.int .i64 x, .pointer p, .int .i64 y, .pointer q] 65 (ip4 _ _ _ _)
  have HB := Lib.hid (below_trans hb1 hb2)
  subst hb
  clear hor hb1 hb2 hz2 j3
  go_wp2_with fail
  go_ret
  exact ⟨rfl, HB.out⟩
set_option maxRecDepth 100000 in
set_option maxHeartbeats 4000000 in
/-- rational.Int64 -/
theorem int64A {s : ByteArray} {x : Int} {b : Bool} (hs : s.size ≤ 608) (hx : I64S s x b) {w : World} (hT : TabsA w) : Calls Tryz.prog 14 #[.string s] w (RetI2 w x b) := by
  have HL := Lib.hid hs
  have HX := Lib.hid hx
  have HT := Lib.hid hT
  clear hs hx hT
  go_enter Tryz.func14, Tryz.ntmps14
  go_wp2_with fail
  refine (read_any s HL.out _ HT.out.1).mono ?_
  rintro e w1 ⟨x1, p, y, q, b1, rfl, hb1, hor⟩
  obtain ⟨w2, hw2, hb2, j3, hz2⟩ := box1 w1 #[.int .i64 x1, .pointer p, .int .i64 y, .pointer q] 65 (ip4 _ _ _ _)
  have j3 : K4 w1.heap.size x1 p y q w2 := j3
  have HB := Lib.hid (below_trans hb1 hb2)
  rcases hor with ⟨rfl, r, hrd, hv⟩ | ⟨rfl, hrd⟩
  · have hS := i64s_rs HX.out (rs_rd hrd).symm
    obtain ⟨x', p', y', q', e, h1, h2⟩ := hv.below hb2
    cases e
    have HN := Lib.hid h1
    by_cases hd : r.den = 1
    · have H1 := Lib.hid (isOne_at h2 (b := true) (by rw [hd]; rfl))
      have HS := Lib.hid (And.intro hd hS)
      have c0 := j3.c0
      have c1 := j3.c1
      have c2 := j3.c2
      have c3 := j3.c3
      have HJ := Lib.hid j3
      clear h1 h2 hv hrd hd hS hb1 hb2 hz2 j3
      go_wp2_with fail
      refine H1.out.mono ?_
      rintro e w3 ⟨rfl, hb3⟩
      have d0 := (HJ.out.below hb3).c0
      have d1 := (HJ.out.below hb3).c1
      have HN := Lib.hid (HN.out.below hb3)
      have HB := Lib.hid (below_trans HB.out hb3)
      clear hb3 c0 c1 c2 c3 H1
      go_wp2_with fail
      refine (int64_any HN.out).mono ?_
      rintro e w4 ⟨s4, b4, rfl, hb4, hor⟩
      have hxb : s4 = x ∧ b4 = b := by
        rcases hor with ⟨rfl, h5, rfl⟩ | ⟨rfl, h5, rfl⟩
        · have := HS.out.2.1 ⟨HS.out.1, h5⟩
          exact ⟨this.2.symm, this.1.symm⟩
        · have := HS.out.2.2 (fun h => h5 h.2)
          exact ⟨this.2.symm, this.1.symm⟩
      obtain ⟨rfl, rfl⟩ := hxb
      have HB := Lib.hid (below_trans HB.out hb4)
      clear hor hb4
      go_wp2_with fail
      exact bodyPost_ret (v := .tuple #[.int .i64 s4, .bool b4]) (by simp [results, Tryz.results14, go_sem]) rfl ⟨rfl, HB.out⟩
    · have H1 := Lib.hid (isOne_at h2 (b := false) (by rw [decide_eq_false_iff_not]; omega))
      obtain ⟨rfl, rfl⟩ := hS.2 (fun h => hd h.1)
      have c0 := j3.c0
      have c1 := j3.c1
      have c2 := j3.c2
      have c3 := j3.c3
      clear h1 h2 hv hrd hd hS hb1 hb2 hz2 j3
      go_wp2_with fail
      refine H1.out.mono ?_
      rintro e w3 ⟨rfl, hb3⟩
      have HB := Lib.hid (below_trans HB.out hb3)
      clear hb3 c0 c1 c2 c3 H1
      go_wp2_with fail
      exact bodyPost_ret (v := .tuple #[.int .i64 0, .bool false]) (by simp [results, Tryz.results14, go_sem]) rfl ⟨rfl, HB.out⟩
  · obtain ⟨rfl, rfl⟩ := i64s_none HX.out (fun p hp => by rw [rs_iff.1 hp, rd_rtext] at hrd; cases hrd)
    clear hrd hb1 hb2 hz2 j3
    go_wp2_with fail
    exact bodyPost_ret (v := .tuple #[.int .i64 0, .bool false]) (by simp [results, Tryz.results14, go_sem]) rfl ⟨rfl, HB.out⟩
end Go.Proofs.YtekghemhccfhkaaGreatDoor
namespace Go.Big
open Go Go.RowKit
theorem i64_step {l : List Nat} {i u : Nat} (h : i < l.length) (hw : Wd B32 l) (hl : l.length ≤ 2) (hu : val B32 (l.drop (i + 1)) = u) : u < 4294967296 ∧ nth l i < 4294967296 ∧ val B32 (l.drop i) = u * 4294967296 + nth l i := by
  have h1 := val_drop_lt hw hl (i := i + 1) (by omega)
  rw [hu] at h1
  refine ⟨h1, hw.nth h, ?_⟩
  rw [drop_val_nth B32 l i h, hu]
  show nth l i + 4294967296 * u = _
  omega
theorem big_nat {l : List Nat} (hz : Nz l) (h : 2 < l.length) : 18446744073709551616 ≤ val B32 l := by
  have h1 := val_ge (B := B32) hz (by intro e; rw [e] at h; simp at h)
  have h2 : B32 ^ 2 ≤ B32 ^ (l.length - 1) := Nat.pow_le_pow_right (by decide) (by omega)
  have h3 : B32 ^ 2 = 18446744073709551616 := by decide
  omega
theorem small_nat {l : List Nat} (hw : Wd B32 l) (h : l.length ≤ 2) : val B32 l < 18446744073709551616 := by
  have h1 := val_lt hw
  have h2 : B32 ^ l.length ≤ B32 ^ 2 := Nat.pow_le_pow_right (by decide) (by omega)
  have h3 : B32 ^ 2 = 18446744073709551616 := by decide
  omega
theorem neg_wrap {c : Nat} (h0 : 0 < c) (h : (c : Int) ≤ 9223372036854775808) : wrap64 (IntKind.u64.wrap (-(c : Int))) = -(c : Int) := by
  have e : IntKind.u64.wrap (-(c : Int)) = 18446744073709551616 - c := by
    show (-(c : Int)) % 18446744073709551616 = _
    omega
  rw [e]; unfold wrap64; omega
theorem pos_wrap {c : Nat} (h : (c : Int) < 9223372036854775808) : wrap64 (c : Int) = c := by unfold wrap64; omega
end Go.Big
namespace Go.Proofs.YtekghemhccfhkaaGreatDoor
open Go.RowKit Go.Big
set_option maxRecDepth 100000 in
set_option maxHeartbeats 4000000 in
/-- Int64 of the reference -/
theorem int64R {s : ByteArray} {x : Int} {b : Bool} (hs : s.size ≤ 10000) (hx : I64S s x b) {w : World} : Calls Tryz.prog 15 #[.string s] w (RetI2 w x b) := by
  have HL := Lib.hid hs
  have HX := Lib.hid hx
  clear hs hx
  go_enter Tryz.func15, Tryz.ntmps15
  go_wp2_with fail
  refine (nread_any s HL.out _).mono ?_
  rintro e w1 ⟨v1, b1, q, rfl, hv1, p1, p2, hb1⟩
  obtain ⟨xb, xa, xk, xc, ya, yk, yc, rfl, e1, h1, h2⟩ := hv1.op
  obtain ⟨w2, hw2, hb2, kR, hz2⟩ := nbox1 w1 #[.bool xb, .slice xa xk xc, .bool false, .slice ya yk yc] 32 (cb4 xb (Cb.sl xa xk xc) false (Cb.sl ya yk yc))
  have kR : N4 w1.heap.size xb (.slice xa xk xc) false (.slice ya yk yc) w2 := kR
  have HB := Lib.hid (hb1.trans (hb2.mono hb1.size))
  have c0 := kR.c0
  have c1 := kR.c1
  have c2 := kR.c2
  have c3 := kR.c3
  cases b1 with
  | false =>
    obtain ⟨rfl, rfl⟩ := i64s_none HX.out (p2 rfl)
    clear hv1 e1 h1 h2 kR hb1 hb2 hz2 p1 p2
    go_wp2_with fail
    exact bodyPost_ret (v := .tuple #[.int .i64 0, .bool false]) (by simp [results, Tryz.results15, go_sem]) rfl ⟨rfl, HB.out⟩
  | true =>
    have hS := i64s_rs HX.out (p1 rfl)
    obtain ⟨hk, hkm⟩ := dn_len q.den_nz h2
    have h1 := h1.below hb2
    by_cases hd : q.den = 1
    · have hk0 := hk.2 hd
      obtain ⟨ao, cap, l, e, hsl, hw, hz, hv⟩ := h1
      cases e
      have hl := hsl.len_le
      subst hk0
      by_cases hl2 : l.length ≤ 2
      · have hvl := small_nat hw hl2
        have HV := Lib.hid (And.intro hv (And.intro hw (And.intro e1 (And.intro hd hS))))
        have HSL := Lib.hid hsl
        obtain ⟨u, hu⟩ : ∃ u, val B32 l = u := ⟨_, rfl⟩
        rw [hu] at hvl
        have hvl := Lib.hid hvl
        have HU := Lib.hid hu
        clear hv1 e1 h2 kR hb1 hb2 hz2 p1 p2 hv hw hz hsl hd hS hk hkm hu
        go_wp2_with fail
        go_loopw [6, 7] (fun c i wr => w2 = wr ∧ ∃ (k cn : Nat), k ≤ l.length ∧ i = .int .i64 ((k : Int) - 1) ∧ c = .int .u64 cn ∧ Hid (val B32 (l.drop k) = cn)) (fun _ i _ => (intOf i + 1).toNat)
        case atStart => exact ⟨rfl, l.length, 0, Nat.le_refl _, rfl, rfl, Lib.hid (by rw [List.drop_length]; rfl)⟩
        case round =>
          obtain ⟨rfl, k, cn, hk, rfl, rfl, hinv⟩ := hrel
          rcases Nat.eq_zero_or_pos k with hk0 | hpos
          · subst hk0
            have hcu : cn = u := by have := hinv.out; rw [List.drop_zero, HU.out] at this; exact this.symm
            subst hcu
            have HVL := Lib.hid hvl
            clear hinv hk hvl
            cases xb with
            | true =>
              have hn0 : q.num < 0 := of_decide_eq_true HV.out.2.2.1.symm
              obtain ⟨o, ho⟩ : ∃ o, decide ((cn : Int) ≤ 9223372036854775808) = o := ⟨_, rfl⟩
              have HO := Lib.hid (And.intro ho hn0)
              clear hn0
              cases o with
              | true =>
                have hq : q.num = -(cn : Int) := by have h5 := HV.out.1; have h6 := HU.out; have h7 := HO.out.2; omega
                obtain ⟨rfl, hxv⟩ := HV.out.2.2.2.2.1 ⟨HV.out.2.2.2.1, by have h5 := of_decide_eq_true HO.out.1; have h7 := HO.out.2; unfold IsS; omega⟩
                have HX2 : Hid (wrap64 (IntKind.u64.wrap (-(cn : Int))) = x) := Lib.hid (by rw [neg_wrap (by have h7 := HO.out.2; omega) (of_decide_eq_true HO.out.1), hxv, hq])
                clear hq hxv
                go_wp2_with fail
                exact bodyPost_ret (v := .tuple #[.int .i64 (wrap64 (IntKind.u64.wrap (-(cn : Int)))), .bool true]) (by simp [results, Tryz.results15, go_sem]) rfl ⟨by rw [HX2.out], HB.out⟩
              | false =>
                obtain ⟨rfl, rfl⟩ := HV.out.2.2.2.2.2 (fun h => by have h1 := h.2; have h5 := of_decide_eq_false HO.out.1; have h6 := HU.out; have h7 := HO.out.2; have h8 := HV.out.1; unfold IsS at h1; omega)
                go_wp2_with fail
                exact bodyPost_ret (v := .tuple #[.int .i64 0, .bool false]) (by simp [results, Tryz.results15, go_sem]) rfl ⟨rfl, HB.out⟩
            | false =>
              have hn0 : ¬ q.num < 0 := of_decide_eq_false HV.out.2.2.1.symm
              obtain ⟨o, ho⟩ : ∃ o, decide ((cn : Int) < 9223372036854775808) = o := ⟨_, rfl⟩
              have HO := Lib.hid (And.intro ho hn0)
              clear hn0
              cases o with
              | true =>
                have hq : q.num = (cn : Int) := by have h5 := HV.out.1; have h6 := HU.out; have h7 := HO.out.2; omega
                obtain ⟨rfl, hxv⟩ := HV.out.2.2.2.2.1 ⟨HV.out.2.2.2.1, by have h5 := of_decide_eq_true HO.out.1; have h7 := HO.out.2; unfold IsS; omega⟩
                have HX2 : Hid (wrap64 (cn : Int) = x) := Lib.hid (by rw [pos_wrap (of_decide_eq_true HO.out.1), hxv, hq])
                clear hq hxv
                go_wp2_with fail
                exact bodyPost_ret (v := .tuple #[.int .i64 (wrap64 (cn : Int)), .bool true]) (by simp [results, Tryz.results15, go_sem]) rfl ⟨by rw [HX2.out], HB.out⟩
              | false =>
                obtain ⟨rfl, rfl⟩ := HV.out.2.2.2.2.2 (fun h => by have h1 := h.2; have h5 := of_decide_eq_false HO.out.1; have h6 := HU.out; have h7 := HO.out.2; have h8 := HV.out.1; unfold IsS at h1; omega)
                go_wp2_with fail
                exact bodyPost_ret (v := .tuple #[.int .i64 0, .bool false]) (by simp [results, Tryz.results15, go_sem]) rfl ⟨rfl, HB.out⟩
          · obtain ⟨i, rfl⟩ : ∃ i, k = i + 1 := ⟨k - 1, by omega⟩
            have hlt : i < l.length := by omega
            obtain ⟨ba, offa, rfl, hba, hca⟩ := HSL.out.at hlt
            have ca := hca i hlt
            obtain ⟨hc1, xa, hst⟩ := i64_step hlt HV.out.2.1 hl2 hinv.out
            have eo := or_shl32 hc1 xa
            have e1 : (((i + 1 : Nat) : Int) - 1) = i := by omega
            have HE := Lib.hid (And.intro eo hst)
            rw [e1]
            clear eo hst e1 hca hba
            go_wp2_with fail
            go_roundw
            case rel => exact ⟨by first | rfl | trivial, i, _, by omega, rfl, rfl, Lib.hid (by rw [HE.out.1]; exact HE.out.2)⟩
            case measure => simp [intOf]
      · have hbig := big_nat hz (by omega)
        have hq : ¬ (q.den = 1 ∧ IsS q.num) := by
          rintro ⟨_, h5⟩
          rw [hv] at hbig
          unfold IsS at h5
          omega
        obtain ⟨rfl, rfl⟩ := hS.2 hq
        clear hv1 e1 h2 kR hb1 hb2 hz2 p1 p2 hv hw hz hsl hd hS hk hkm hbig hq
        go_wp2_with fail
        exact bodyPost_ret (v := .tuple #[.int .i64 0, .bool false]) (by simp [results, Tryz.results15, go_sem]) rfl ⟨rfl, HB.out⟩
    · obtain ⟨rfl, rfl⟩ := hS.2 (fun h => hd h.1)
      have hk0 : 0 < yk := by have := mt hk.1 hd; omega
      clear hv1 e1 h1 h2 kR hb1 hb2 hz2 p1 p2 hS hd hk
      go_wp2_with fail
      exact bodyPost_ret (v := .tuple #[.int .i64 0, .bool false]) (by simp [results, Tryz.results15, go_sem]) rfl ⟨rfl, HB.out⟩
end Go.Proofs.YtekghemhccfhkaaGreatDoor
namespace Go.Proofs.YtekghemhccfhkaaGreatDoor
open Go.RowKit Go.Big
theorem i64s_ex (s : ByteArray) : ∃ x b, I64S s x b := by
  by_cases h : ∃ n : Int, IsS n ∧ s = rs (n : Rat)
  · obtain ⟨n, h1, h2⟩ := h
    exact ⟨n, true, .inl ⟨rfl, h1, h2⟩⟩
  · exact ⟨0, false, .inr ⟨rfl, rfl, fun n h1 h2 => h ⟨n, h1, h2⟩⟩⟩
theorem valid_ex (s : ByteArray) : ∃ V : Bool, V = true ↔ ∃ q, s = rs q := by
  by_cases h : ∃ q, s = rs q
  · exact ⟨true, fun _ => h, fun _ => rfl⟩
  · exact ⟨false, fun e => (by cases e), fun e => absurd e h⟩
set_option maxRecDepth 100000 in
set_option maxHeartbeats 4000000 in
theorem rationalValid_walk (s : ByteArray) {n : Int} (hn : IsS n) {w : World} (hT : TabsA w) : Calls Tryz.prog 3 #[.string s, .int .i64 n] w (RetBool w true) := by
  have HB := Lib.hid (Below.refl w.heap.size w)
  have HT := Lib.hid hT
  have HN := Lib.hid hn
  clear hT hn
  by_cases hs : 400 < s.size
  · go_enter Tryz.func3, Tryz.ntmps3
    go_wp2_with fail
    refine (awake_any HT.out).mono ?_
    rintro e w2 ⟨rfl, hb2⟩
    have HB := Lib.hid (below_trans HB.out hb2)
    clear hb2
    go_wp2_with fail
    go_ret
    exact ⟨rfl, HB.out⟩
  · obtain ⟨x, b, hx⟩ := i64s_ex s
    obtain ⟨V, hV⟩ := valid_ex s
    obtain ⟨T, hTx⟩ : ∃ t, rs (n : Rat) = t := ⟨_, rfl⟩
    have ln : n.natAbs < Bw ^ 1 := by have := HN.out; unfold IsS at this; have e : Bw ^ 1 = 18446744073709551616 := by decide
                                      omega
    have gT : Nmb 1 T := by rw [← hTx]; exact nmb_int (by decide) (by decide) ln
    have HX := Lib.hid (And.intro hx hV)
    have HL : Hid (s.size ≤ 10000 ∧ s.size ≤ 608 ∧ T.size ≤ 608) := Lib.hid ⟨by omega, by omega, gT.1⟩
    have E1 := Lib.hid hTx
    have E2 : Hid (I64S T n true) := Lib.hid (.inl ⟨rfl, HN.out, hTx.symm⟩)
    have Z : Hid (Sn 2 (n : Rat)) := Lib.hid (sn_of_sz (K := 1) (Sz.int ln (by decide)))
    clear hx hV hTx ln gT
    go_enter Tryz.func3, Tryz.ntmps3
    go_wp2_with fail
    refine (int64A HL.out.2.1 HX.out.1 HT.out).mono ?_
    rintro e w1 ⟨rfl, hb1⟩
    have HT := Lib.hid (HT.out.below hb1)
    have HB := Lib.hid (below_trans HB.out hb1)
    clear hb1
    go_wp2_with fail
    refine (int64R HL.out.1 HX.out.1).mono ?_
    rintro e w2 ⟨rfl, hb2⟩
    have HT := Lib.hid (HT.out.below hb2)
    have HB := Lib.hid (below_trans HB.out hb2)
    clear hb2
    go_wp2_with fail
    refine (fromIntC HN.out E1.out HT.out).mono ?_
    rintro e w3 ⟨rfl, hb3⟩
    have HT := Lib.hid (HT.out.below hb3)
    have HB := Lib.hid (below_trans HB.out hb3)
    clear hb3
    go_wp2_with fail
    refine (int64A HL.out.2.2 E2.out HT.out).mono ?_
    rintro e w4 ⟨rfl, hb4⟩
    have HT := Lib.hid (HT.out.below hb4)
    have HB := Lib.hid (below_trans HB.out hb4)
    clear hb4
    go_wp2_with fail
    refine (valid17 HL.out.2.1 HX.out.2 HT.out).mono ?_
    rintro e w5 ⟨rfl, hb5⟩
    have HT := Lib.hid (HT.out.below hb5)
    have HB := Lib.hid (below_trans HB.out hb5)
    clear hb5
    go_wp2_with fail
    refine (valid18 HL.out.1 HX.out.2).mono ?_
    rintro e w6 ⟨rfl, hb6⟩
    have HT := Lib.hid (HT.out.below hb6)
    have HB := Lib.hid (below_trans HB.out hb6)
    clear hb6
    go_wp2_with fail
    refine (nR_any HN.out _).mono ?_
    rintro e w7 ⟨v7, rfl, hv7, hb7⟩
    have HV := Lib.hid hv7
    have HT := Lib.hid (HT.out.below hb7)
    have HB := Lib.hid (below_trans HB.out hb7)
    clear hv7 hb7
    go_wp2_with fail
    refine (textC (K := 2) HV.out (by decide) Z.out E1.out).mono ?_
    rintro e w8 ⟨rfl, hb8⟩
    have HT := Lib.hid (HT.out.below hb8)
    have HB := Lib.hid (below_trans HB.out hb8)
    clear hb8
    go_wp2_with fail
    refine (awake_any HT.out).mono ?_
    rintro e w9 ⟨rfl, hb9⟩
    have HT := Lib.hid (HT.out.below hb9)
    have HB := Lib.hid (below_trans HB.out hb9)
    clear hb9
    go_wp2_with fail
    go_ret
    exact ⟨rfl, HB.out⟩
end Go.Proofs.YtekghemhccfhkaaGreatDoor
