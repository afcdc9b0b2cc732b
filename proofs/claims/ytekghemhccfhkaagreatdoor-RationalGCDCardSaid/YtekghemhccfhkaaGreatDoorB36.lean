/-
  Walks of the program's functions: FracJ, FracK, Api, Api2.
-/
import Derived.Test.YtekghemhccfhkaaGreatDoorB35
import Derived.Deep.CutRange
namespace Go.Proofs.YtekghemhccfhkaaGreatDoor
open Go.RowKit Go.Big
def RdPost (s : ByteArray) (w : World) (e : Ending) (w' : World) : Prop :=
  ∃ x p y q b, e = .returned (.tuple #[.agg #[.int .i64 x, .pointer p, .int .i64 y, .pointer q], .bool b]) ∧ Below w.heap.size w w' ∧ (b = true ∧ (∃ r : Rat, rd s.data.toList = some (r.num, r.den) ∧ FracV w' (.agg #[.int .i64 x, .pointer p, .int .i64 y, .pointer q]) r) ∨ b = false ∧ rd s.data.toList = none)
theorem cutPrefix_at (s m : ByteArray) (neg : Bool) (hm : (unsign s.data.toList).1 = m.data.toList) (hn : (unsign s.data.toList).2 = neg) (w : World) :
    Calls Tryz.prog 63 #[.string s, .string ⟨#[45]⟩] w fun e w' => e = .returned (.tuple #[.string m, .bool neg]) ∧ w' = w := by
  have h := Proofs.Tryz.strings_CutPrefix s ⟨#[45]⟩ w
  have e1 := unsign_cut s.data.toList
  rw [show (⟨#[45]⟩ : ByteArray).data.toList = [45] from rfl, e1.1, e1.2, hm, hn] at h
  exact h
theorem unsign_len (l : List UInt8) : (unsign l).1.length ≤ l.length := by
  unfold unsign; split <;> simp
theorem rd_noslash {l m : List UInt8} {neg : Bool} (hm : (unsign l).1 = m) (hn : (unsign l).2 = neg) (h : slash m = none) :
    rd l = match rdInt m with | none => none | some n => if n = 0 ∧ l ≠ [48] then none else some (signed neg n, 1) := by
  unfold rd; rw [hm, hn, h]; rfl
theorem rd_slash {l m a b : List UInt8} {neg : Bool} (hm : (unsign l).1 = m) (hn : (unsign l).2 = neg) (h : slash m = some (a, b)) :
    rd l = match rdInt a, rdInt b with | some n, some d => if n = 0 ∨ d = 0 ∨ d = 1 ∨ Nat.gcd n d ≠ 1 then none else some (signed neg n, d) | _, _ => none := by
  unfold rd; rw [hm, hn, h]; rfl
def CT (m a b : ByteArray) (c : Bool) : Prop := c = true ∧ slash m.data.toList = some (a.data.toList, b.data.toList) ∨ c = false ∧ a = m ∧ slash m.data.toList = none
theorem rd_numfail {l : List UInt8} {m a b : ByteArray} {neg c : Bool} (hm : (unsign l).1 = m.data.toList) (hn : (unsign l).2 = neg) (h : CT m a b c) (ha : rdInt a.data.toList = none) : rd l = none := by
  rcases h with ⟨_, h⟩ | ⟨_, rfl, h⟩
  · rw [rd_slash hm hn h, ha]
  · rw [rd_noslash hm hn h, ha]
theorem rd_zero {l : List UInt8} {m a b : ByteArray} {neg c : Bool} (hm : (unsign l).1 = m.data.toList) (hn : (unsign l).2 = neg) (h : CT m a b c) (ha : rdInt a.data.toList = some 0) (h0 : l ≠ [48]) : rd l = none := by
  rcases h with ⟨_, h⟩ | ⟨_, rfl, h⟩
  · rw [rd_slash hm hn h, ha]
    cases rdInt b.data.toList with
    | none => rfl
    | some d => exact if_pos (.inl rfl)
  · rw [rd_noslash hm hn h, ha]; exact if_pos ⟨rfl, h0⟩
theorem ct_nz {l : List UInt8} {m a b : ByteArray} {n : Nat} (hm : (unsign l).1 = m.data.toList) (h : CT m a b true) (hp : n ≠ 0 ∨ l = [48]) : n ≠ 0 := by
  rcases hp with hp | rfl
  · exact hp
  · rcases h with ⟨_, h⟩ | ⟨h, _⟩
    · rw [← hm, show slash (unsign [48]).1 = none by decide] at h; cases h
    · cases h
theorem rd_whole {l : List UInt8} {m a b : ByteArray} {n : Nat} {neg : Bool} (hm : (unsign l).1 = m.data.toList) (hn : (unsign l).2 = neg) (h : CT m a b false) (ha : rdInt a.data.toList = some n) (hp : n ≠ 0 ∨ l = [48]) :
    rd l = some (((signed neg n : Int) : Rat).num, ((signed neg n : Int) : Rat).den) := by
  rcases h with ⟨h, _⟩ | ⟨_, rfl, h⟩
  · cases h
  · rw [rd_noslash hm hn h, ha, Rat.num_intCast, Rat.den_intCast]
    exact if_neg (fun hc => hp.elim (fun h => h hc.1) (fun h => hc.2 h))
theorem rd_frac {l : List UInt8} {m a b : ByteArray} {n : Nat} {neg : Bool} (hm : (unsign l).1 = m.data.toList) (hn : (unsign l).2 = neg) (h : CT m a b true) (ha : rdInt a.data.toList = some n) (h0 : n ≠ 0) :
    (rdInt b.data.toList = none → rd l = none) ∧ ∀ d, rdInt b.data.toList = some d → ((d = 0 ∨ d = 1 ∨ Nat.gcd n d ≠ 1) → rd l = none) ∧ (¬ (d = 0 ∨ d = 1 ∨ Nat.gcd n d ≠ 1) → ∃ q : Rat, rd l = some (q.num, q.den) ∧ q.num = signed neg n ∧ q.den = d) := by
  rcases h with ⟨_, h⟩ | ⟨h, _⟩
  · have e := rd_slash hm hn h
    rw [ha] at e
    refine ⟨fun hb => by rw [e, hb], fun d hb => ⟨fun hc => ?_, fun hc => ?_⟩⟩
    · rw [e, hb]; exact if_pos (.inr hc)
    · have e2 : rd l = some (signed neg n, d) := by rw [e, hb]; exact if_neg (fun hx => hx.elim h0 hc)
      obtain ⟨q, h1, h2, _⟩ := rd_some e2
      exact ⟨q, by rw [h1, h2]; exact e2, h1, h2⟩
  · cases h
theorem rd_bound {a : ByteArray} {n : Nat} (hl : a.size ≤ 608) (h : rdInt a.data.toList = some n) : n < B64 ^ 32 := by
  have h1 := rdInt_some h
  have h2 := dec_lt (dd_dig n)
  rw [dd_dec, ← h1, ← Lib.size_eq] at h2
  exact Nat.lt_of_lt_of_le h2 (Nat.le_trans (Nat.pow_le_pow_right (by decide) hl) (Nat.le_of_ble_eq_true (by kernel_rfl)))
theorem signed_natAbs (neg : Bool) (n : Nat) : (signed neg n).natAbs = n := by unfold signed; split <;> omega
theorem list48 (s : ByteArray) : s.data.toList = [48] ↔ s = ⟨#[48]⟩ := by
  constructor
  · intro h; exact ByteArray.ext (Array.toList_inj.1 h)
  · rintro rfl; rfl
set_option maxRecDepth 100000 in
set_option maxHeartbeats 4000000 in
theorem read_any (s : ByteArray) (hl : s.size ≤ 608) (w : World) (hT : Tabs w) : Calls Tryz.prog 55 #[.string s] w (RdPost s w) := by
  obtain ⟨m, hm⟩ : ∃ m : ByteArray, (unsign s.data.toList).1 = m.data.toList := ⟨⟨(unsign s.data.toList).1.toArray⟩, rfl⟩
  obtain ⟨neg, hn⟩ : ∃ neg, (unsign s.data.toList).2 = neg := ⟨_, rfl⟩
  have hml : m.size ≤ 608 := by
    have h1 := unsign_len s.data.toList
    have h2 : s.data.toList.length = s.size := (Lib.size_eq s).symm
    have h3 : m.data.toList.length = m.size := (Lib.size_eq m).symm
    rw [hm] at h1; omega
  have HP := Lib.hid (fun w => cutPrefix_at s m neg hm hn w)
  have HC := Lib.hid (fun w => cut_any m (by omega) w)
  have HS := Lib.hid (And.intro hm (And.intro hn hml))
  obtain ⟨w0, hw0, hs, k0, hz⟩ := box1 w #[.int .i64 0, .pointer none, .int .i64 0, .pointer none] 65 (ip4 _ _ _ _)
  have k0 : K4 w.heap.size 0 none 0 none w0 := k0
  clear hm hn hml hz
  have HT := Lib.hid (tabs_below hT hs)
  go_enter Tryz.func55, Tryz.ntmps55
  go_wp2_with fail
  refine (HP.out _).mono ?_
  rintro e w1 ⟨rfl, rfl⟩
  go_wp2_with fail
  refine (HC.out _).mono ?_
  rintro e w2 ⟨a, b, c, rfl, hb2, hor⟩
  have HCT := Lib.hid (show CT m a b c from hor)
  have hal : a.size ≤ 608 := by
    have h1 := HS.out.2.2
    have h3 : m.data.toList.length = m.size := (Lib.size_eq m).symm
    have h2 : a.data.toList.length = a.size := (Lib.size_eq a).symm
    rcases hor with ⟨_, h⟩ | ⟨_, rfl, _⟩
    · have := slash_len h; omega
    · exact h1
  have k0 := k0.below hb2
  have hs := below_trans hs hb2
  have HT := Lib.hid (tabs_below HT.out hb2)
  clear hor hb2
  have hbl : b.size ≤ 608 ∨ c = false := by
    have h1 := HS.out.2.2
    have h3 : m.data.toList.length = m.size := (Lib.size_eq m).symm
    have h2 : b.data.toList.length = b.size := (Lib.size_eq b).symm
    rcases HCT.out with ⟨_, h⟩ | ⟨h, _, _⟩
    · have := slash_len h; exact .inl (by omega)
    · exact .inr h
  have HBL := Lib.hid hbl
  clear hbl
  have HT0 := Lib.hid hT
  clear hT
  go_wp2_with fail
  refine (readInteger_any a hal _).mono ?_
  rintro e w3 ⟨v, ok, n, rfl, hb3, hv, hor⟩
  obtain ⟨y, p, rfl⟩ := hv.two
  obtain ⟨w4, hw4, hb4, j9, hz4⟩ := box1 w3 #[.int .i64 y, .pointer p] 63 (ip2 _ _)
  have j9 : K2 w3.heap.size y p w4 := j9
  have hlt := Bx.lt (K4.below k0 hb3)
  have hb5 := below_trans hb3 hb4
  have k0 := k0.below hb5
  have hs := below_trans hs hb5
  have HT := Lib.hid (tabs_below HT.out hb5)
  have HV := Lib.hid (hv.below hb4)
  have hlt9 : w3.heap.size < w4.heap.size := Bx.lt j9
  have HOR := Lib.hid hor
  clear hv hb3 hb4 hb5 hz4 hw0 hor
  go_upto_region 4 with (fail)
  go_cut [38] (fun s38 wx => ∃ b : Bool, s38 = .bool b ∧ Below w4.heap.size w4 wx ∧ (b = true ∧ rd s.data.toList = none ∨ b = false ∧ ok = true ∧ rdInt a.data.toList = some n ∧ (n ≠ 0 ∨ s.data.toList = [48])))
  case first =>
    cases ok with
    | true =>
      have hor : rdInt a.data.toList = some n := by
        rcases HOR.out with ⟨_, h⟩ | ⟨h, _⟩
        · exact h
        · cases h
      have HN := Lib.hid (And.intro hor (rd_bound hal hor))
      clear hor hal HOR
      have ej0 := j9.c0
      have ej1 := j9.c1
      by_cases hz : n = 0
      · subst hz
        go_wp2_with fail
        refine (sign_at HV.out (s := 0) rfl).mono ?_
        rintro e w5 ⟨rfl, hb5⟩
        clear ej0 ej1
        have HB5 := Lib.hid hb5
        clear hb5
        go_wp2_with fail
        go_meet
        case rel =>
          refine ⟨_, rfl, HB5.out, ?_⟩
          by_cases hs0 : s.data.toList = [48]
          · exact .inr ⟨by simp [Lib.toList_data, hs0], (by first | rfl | trivial), HN.out.1, .inr hs0⟩
          · exact .inl ⟨by simp [Lib.toList_data, hs0], rd_zero HS.out.1 HS.out.2.1 HCT.out HN.out.1 hs0⟩
      · have HSG := Lib.hid (show Int.sign (n : Int) = 1 from Int.sign_eq_one_of_pos (by omega))
        have HNZ := Lib.hid hz
        clear hz
        go_wp2_with fail
        refine (sign_at HV.out HSG.out).mono ?_
        rintro e w5 ⟨rfl, hb5⟩
        clear ej0 ej1
        have HB5 := Lib.hid hb5
        clear hb5
        go_wp2_with fail
        go_meet
        case rel => exact ⟨false, (by first | rfl | trivial), HB5.out, .inr ⟨rfl, (by first | rfl | trivial), HN.out.1, .inl HNZ.out⟩⟩
    | false =>
      have HN := Lib.hid (show rdInt a.data.toList = none by
        rcases HOR.out with ⟨h, _⟩ | ⟨_, h⟩
        · cases h
        · exact h)
      clear HOR hal
      go_wp2_with fail
      go_meet
      case rel => exact ⟨true, (by first | rfl | trivial), Below.refl _ _, .inl ⟨rfl, rd_numfail HS.out.1 HS.out.2.1 HCT.out HN.out⟩⟩
  case rest =>
    obtain ⟨bb, rfl, hbc, hor⟩ := hcut
    obtain ⟨wa, hwa⟩ : ∃ wa, wa = wc := ⟨_, rfl⟩
    subst hwa
    have k0 := k0.below hbc
    have j9 := j9.below hbc
    have hs := below_trans hs hbc
    have HV := Lib.hid (HV.out.below hbc)
    have HT := Lib.hid (tabs_below HT.out hbc)
    have hltc := Bx.lt j9
    clear hlt9 HOR hbc
    rcases hor with ⟨rfl, hno⟩ | ⟨rfl, rfl, hrd, hnz⟩
    · have HN := Lib.hid hno
      clear hno hal
      have c0 := k0.c0
      have c1 := k0.c1
      have c2 := k0.c2
      have c3 := k0.c3
      have f0 := k0.f 0
      have f1 := k0.f 1
      have f2 := k0.f 2
      have f3 := k0.f 3
      obtain ⟨WW, hWW⟩ : ∃ WW, (((wa.setCell ⟨w.heap.size, 0, none⟩ (.int .i64 0)).setCell ⟨w.heap.size, 1, none⟩ (.pointer none)).setCell ⟨w.heap.size, 2, none⟩ (.int .i64 0)).setCell ⟨w.heap.size, 3, none⟩ (.pointer none) = WW := ⟨_, rfl⟩
      obtain ⟨z0, z1, z2, z3, hbb⟩ := zero_box4 k0 hs (Nat.le_refl _) hWW
      have HF := Lib.hid (show RdPost s w (.returned (.tuple #[.agg #[.int .i64 0, .pointer none, .int .i64 0, .pointer none], .bool false])) WW from ⟨_, _, _, _, _, rfl, hbb, .inr ⟨rfl, HN.out⟩⟩)
      clear hs k0 hbb j9 hlt hltc
      go_wp2_with fail
      exact bodyPost_ret (v := .tuple #[.agg #[.int .i64 0, .pointer none, .int .i64 0, .pointer none], .bool false]) (by simp [results, Tryz.results55, go_sem, z0, z1, z2, z3]) rfl HF.out
    · have HN := Lib.hid (And.intro hrd (And.intro (rd_bound hal hrd) hnz))
      clear hrd hal hnz
      go_upto_if 40 with (fail)
      go_cut [9] (fun s9 wx => ∃ g9 y p, s9 = .pointer (some ⟨g9, 0, none⟩) ∧ w.heap.size < g9 ∧ K2 g9 y p wx ∧ IntV wx (.agg #[.int .i64 y, .pointer p]) (signed neg n) ∧ Below w.heap.size w wx ∧ K4 w.heap.size 0 none 0 none wx ∧ Tabs wx)
      case first =>
        have ej0 := j9.c0
        have ej1 := j9.c1
        have ef0 := j9.f 0
        have ef1 := j9.f 1
        cases neg with
        | false =>
          have HJ := Lib.hid j9
          have HKK := Lib.hid (And.intro hs k0)
          clear hs k0 j9
          go_wp2_with fail
          go_meet
          case rel => exact ⟨w3.heap.size, y, p, (by first | rfl | trivial), hlt, HJ.out, HV.out, HKK.out.1, HKK.out.2, HT.out⟩
        | true =>
          go_wp2_with fail
          refine (negI_any HV.out).mono ?_
          rintro e w6 ⟨v6, rfl, hv6, hb6⟩
          obtain ⟨y6, p6, rfl⟩ := hv6.two
          clear ej0 ej1 ef0 ef1
          have j6 := j9.below hb6
          have ej0 := j6.c0
          have ej1 := j6.c1
          have ef0 := j6.f 0
          have ef1 := j6.f 1
          have hs6 := below_trans hs hb6
          have k6 := k0.below hb6
          have hne : w.heap.size ≠ w3.heap.size := by omega
          have hle : w.heap.size ≤ w3.heap.size := by omega
          have HG := Lib.hid (show K2 w3.heap.size y6 p6 (Go.Big.st2 w6 w3.heap.size y6 p6) ∧ IntV (Go.Big.st2 w6 w3.heap.size y6 p6) (.agg #[.int .i64 y6, .pointer p6]) (-(n : Int)) ∧ Below w.heap.size w (Go.Big.st2 w6 w3.heap.size y6 p6) ∧ K4 w.heap.size 0 none 0 none (Go.Big.st2 w6 w3.heap.size y6 p6) from
            ⟨Bx.set (Bx.set j6 0 (IP.int y6)) 1 (IP.ptr p6), hv6.set2 (i := 0) j6, (hs6.setCell (p := ⟨w3.heap.size, 0, none⟩) hle (.int .i64 y6)).setCell (p := ⟨w3.heap.size, 1, none⟩) hle (.pointer p6), Bx.other (Bx.other k6 hne _ _) hne _ _⟩)
          clear hb6 hv6 j6 hs6 k6 hs k0 j9
          go_wp2_with fail
          go_meet
          case rel => exact ⟨w3.heap.size, y6, p6, (by first | rfl | trivial), hlt, HG.out.1, HG.out.2.1, HG.out.2.2.1, HG.out.2.2.2, tabs_below HT0.out HG.out.2.2.1⟩
      case rest =>
        clear hs k0 j9 hltc HV HT
        obtain ⟨g9, y9, p9, rfl, hlt9, i9, hv9, hs, k0, hT⟩ := hcut
        have HT := Lib.hid hT
        have HV9 := Lib.hid hv9
        clear hT hv9
        have ei0 := i9.c0
        have ei1 := i9.c1
        cases c with
        | false =>
          go_wp2_with fail
          refine (whole_any HV9.out).mono ?_
          rintro e w6 ⟨v6, rfl, hv6, hb6⟩
          obtain ⟨ya, pa, yb, pb, rfl, h1, h2⟩ := hv6
          have k0 := k0.below hb6
          have hs := below_trans hs hb6
          clear ei0 ei1 i9 hb6
          have c0 := k0.c0
          have c1 := k0.c1
          have c2 := k0.c2
          have c3 := k0.c3
          have f0 := k0.f 0
          have f1 := k0.f 1
          have f2 := k0.f 2
          have f3 := k0.f 3
          obtain ⟨WW, hWW⟩ : ∃ WW, (((w6.setCell ⟨w.heap.size, 0, none⟩ (.int .i64 ya)).setCell ⟨w.heap.size, 1, none⟩ (.pointer pa)).setCell ⟨w.heap.size, 2, none⟩ (.int .i64 yb)).setCell ⟨w.heap.size, 3, none⟩ (.pointer pb) = WW := ⟨_, rfl⟩
          obtain ⟨z0, z1, z2, z3, vv, hvv, hf, hbb⟩ := ret_box4 (r := ((signed neg n : Int) : Rat)) k0 (h1) (h2) hs (Nat.le_refl _) hWW
          cases hvv
          have HF := Lib.hid (show RdPost s w (.returned (.tuple #[.agg #[.int .i64 ya, .pointer pa, .int .i64 yb, .pointer pb], .bool true])) WW from ⟨_, _, _, _, _, rfl, hbb, .inl ⟨rfl, _, rd_whole HS.out.1 HS.out.2.1 HCT.out HN.out.1 HN.out.2.2, hf⟩⟩)
          clear hs k0 hbb hf h1 h2
          go_wp2_with fail
          exact bodyPost_ret (v := .tuple #[.agg #[.int .i64 ya, .pointer pa, .int .i64 yb, .pointer pb], .bool true]) (by simp [results, Tryz.results55, go_sem, z0, z1, z2, z3]) rfl HF.out
        | true =>
          go_wp2_with fail
          refine (readInteger_any b (HBL.out.resolve_right (fun h => by cases h)) _).mono ?_
          rintro e w7 ⟨v7, ok2, d, rfl, hb7, hv7, hor⟩
          obtain ⟨y7, p7, rfl⟩ := hv7.two
          obtain ⟨w8, hw8, hb8, j7, hz8⟩ := box1 w7 #[.int .i64 y7, .pointer p7] 63 (ip2 _ _)
          have j7 : K2 w7.heap.size y7 p7 w8 := j7
          have hb9 := below_trans hb7 hb8
          have hlt7 := Bx.lt (K2.below i9 hb7)
          have i9 := i9.below hb9
          have k0 := k0.below hb9
          have hs := below_trans hs hb9
          have HT := Lib.hid (tabs_below HT.out hb9)
          have HV9 := Lib.hid (HV9.out.below hb9)
          have HV7 := Lib.hid (hv7.below hb8)
          have HOR := Lib.hid hor
          clear ei0 ei1 hb7 hb8 hb9 hz8 hv7 hor
          have ei0 := i9.c0
          have ei1 := i9.c1
          have ej0 := j7.c0
          have ej1 := j7.c1
          go_upto_region 11 with (fail)
          go_cut [69] (fun s69 wx => ∃ bb : Bool, s69 = .bool bb ∧ Below w8.heap.size w8 wx ∧ (bb = true ∧ rd s.data.toList = none ∨ bb = false ∧ ∃ q : Rat, rd s.data.toList = some (q.num, q.den) ∧ q.num = signed neg n ∧ (q.den : Int) = d))
          case first =>
            clear hs k0
            have HR := Lib.hid (rd_frac HS.out.1 HS.out.2.1 HCT.out HN.out.1 (ct_nz HS.out.1 HCT.out HN.out.2.2))
            cases ok2 with
            | false =>
              have HNO := Lib.hid (show rdInt b.data.toList = none by
                rcases HOR.out with ⟨h, _⟩ | ⟨_, h⟩
                · cases h
                · exact h)
              clear HOR
              go_wp2_with fail
              go_meet
              case rel => exact ⟨true, (by first | rfl | trivial), Below.refl _ _, .inl ⟨(by first | rfl | trivial), HR.out.1 HNO.out⟩⟩
            | true =>
              have hor : rdInt b.data.toList = some d := by
                rcases HOR.out with ⟨_, h⟩ | ⟨h, _⟩
                · exact h
                · cases h
              have HD := Lib.hid (And.intro hor (rd_bound (HBL.out.resolve_right (fun h => by cases h)) hor))
              have HRD := Lib.hid (HR.out.2 d hor)
              clear hor HOR HR
              by_cases h0 : d = 0
              · subst h0
                go_wp2_with fail
                refine (sign_at HV7.out (s := 0) rfl).mono ?_
                rintro e wb ⟨rfl, hbb⟩
                have HB := Lib.hid hbb
                clear ei0 ei1 ej0 ej1 hbb i9 j7
                go_wp2_with fail
                go_meet
                case rel => exact ⟨true, (by first | rfl | trivial), HB.out, .inl ⟨(by first | rfl | trivial), HRD.out.1 (.inl (by first | rfl | trivial))⟩⟩
              · have HSG := Lib.hid (show Int.sign (d : Int) = 1 from Int.sign_eq_one_of_pos (by omega))
                have H0 := Lib.hid h0
                clear h0
                go_wp2_with fail
                refine (sign_at HV7.out HSG.out).mono ?_
                rintro e wb ⟨rfl, hbb⟩
                have i9 := i9.below hbb
                have j7 := j7.below hbb
                have HB := Lib.hid hbb
                have HV7 := Lib.hid (HV7.out.below hbb)
                have HV9 := Lib.hid (HV9.out.below hbb)
                have HT := Lib.hid (tabs_below HT.out hbb)
                clear ei0 ei1 ej0 ej1 hbb
                have ei0 := i9.c0
                have ei1 := i9.c1
                have ej0 := j7.c0
                have ej1 := j7.c1
                by_cases h1 : d = 1
                · subst h1
                  go_wp2_with fail
                  refine (isOne_at HV7.out (b := true) rfl).mono ?_
                  rintro e wd ⟨rfl, hbd⟩
                  have HB2 := Lib.hid (below_trans HB.out hbd)
                  clear ei0 ei1 ej0 ej1 hbd i9 j7
                  go_wp2_with fail
                  go_meet
                  case rel => exact ⟨true, (by first | rfl | trivial), HB2.out, .inl ⟨(by first | rfl | trivial), HRD.out.1 (.inr (.inl (by first | rfl | trivial)))⟩⟩
                · have H1 := Lib.hid h1
                  have HDO := Lib.hid (show decide ((d : Int) = 1) = false from decide_eq_false (by omega))
                  clear h1
                  go_wp2_with fail
                  refine (isOne_at HV7.out (b := false) HDO.out).mono ?_
                  rintro e wd ⟨rfl, hbd⟩
                  have i9 := i9.below hbd
                  have j7 := j7.below hbd
                  have HB2 := Lib.hid (below_trans HB.out hbd)
                  have HV7 := Lib.hid (HV7.out.below hbd)
                  have HV9 := Lib.hid (HV9.out.below hbd)
                  have HT := Lib.hid (tabs_below HT.out hbd)
                  clear ei0 ei1 ej0 ej1 hbd
                  have ei0 := i9.c0
                  have ei1 := i9.c1
                  have ej0 := j7.c0
                  have ej1 := j7.c1
                  obtain ⟨G, hG⟩ : ∃ G, Nat.gcd n d = G := ⟨_, rfl⟩
                  have HG := Lib.hid hG
                  have HGC := Lib.hid (gcd_in (K := 32) (G := G) HV9.out HV7.out HT.out (by decide) (by rw [signed_natAbs]; exact HN.out.2.1) HD.out.2 (by rw [signed_natAbs]; exact hG))
                  clear hG
                  go_wp2_with fail
                  refine HGC.out.mono ?_
                  rintro e wf ⟨vg, rfl, hvg, hbf⟩
                  obtain ⟨yg, pg, rfl⟩ := hvg.two
                  have HVG := Lib.hid hvg
                  have HB3 := Lib.hid (below_trans HB2.out hbf)
                  clear ei0 ei1 ej0 ej1 hbf hvg i9 j7
                  obtain ⟨o, ho⟩ : ∃ o, decide ((G : Int) = 1) = o := ⟨_, rfl⟩
                  have HO := Lib.hid ho
                  clear ho
                  go_wp2_with fail
                  refine (isOne_at HVG.out HO.out).mono ?_
                  rintro e wg ⟨rfl, hbg⟩
                  have HB4 := Lib.hid (below_trans HB3.out hbg)
                  clear hbg
                  cases o with
                  | true =>
                    go_wp2_with fail
                    go_meet
                    case rel =>
                      have e1 : G = 1 := by have := of_decide_eq_true HO.out; omega
                      obtain ⟨q, hq1, hq2, hq3⟩ := HRD.out.2 (by rintro (h | h | h); exact H0.out h; exact H1.out h; exact h (by rw [HG.out]; exact e1))
                      exact ⟨false, (by first | rfl | trivial), HB4.out, .inr ⟨(by first | rfl | trivial), q, hq1, hq2, by rw [hq3]⟩⟩
                  | false =>
                    go_wp2_with fail
                    go_meet
                    case rel =>
                      have e1 : Nat.gcd n d ≠ 1 := by have := of_decide_eq_false HO.out; rw [HG.out]; omega
                      exact ⟨true, (by first | rfl | trivial), HB4.out, .inl ⟨(by first | rfl | trivial), HRD.out.1 (.inr (.inr e1))⟩⟩
          case rest =>
            obtain ⟨bb, rfl, hbc, hor⟩ := hcut
            have k0 := k0.below hbc
            have i9 := i9.below hbc
            have j7 := j7.below hbc
            have hs := below_trans hs hbc
            have HV7 := Lib.hid (HV7.out.below hbc)
            have HV9 := Lib.hid (HV9.out.below hbc)
            clear ei0 ei1 ej0 ej1 hbc HOR
            rcases hor with ⟨rfl, hno⟩ | ⟨rfl, q, hq1, hq2, hq3⟩
            · have HNO := Lib.hid hno
              clear hno
              have c0 := k0.c0
              have c1 := k0.c1
              have c2 := k0.c2
              have c3 := k0.c3
              have f0 := k0.f 0
              have f1 := k0.f 1
              have f2 := k0.f 2
              have f3 := k0.f 3
              obtain ⟨WW, hWW⟩ : ∃ WW, (((wc.setCell ⟨w.heap.size, 0, none⟩ (.int .i64 0)).setCell ⟨w.heap.size, 1, none⟩ (.pointer none)).setCell ⟨w.heap.size, 2, none⟩ (.int .i64 0)).setCell ⟨w.heap.size, 3, none⟩ (.pointer none) = WW := ⟨_, rfl⟩
              obtain ⟨z0, z1, z2, z3, hbb⟩ := zero_box4 k0 hs (Nat.le_refl _) hWW
              have HF := Lib.hid (show RdPost s w (.returned (.tuple #[.agg #[.int .i64 0, .pointer none, .int .i64 0, .pointer none], .bool false])) WW from ⟨_, _, _, _, _, rfl, hbb, .inr ⟨rfl, HNO.out⟩⟩)
              clear hs k0 hbb i9 j7 hlt9 hlt7
              go_wp2_with fail
              exact bodyPost_ret (v := .tuple #[.agg #[.int .i64 0, .pointer none, .int .i64 0, .pointer none], .bool false]) (by simp [results, Tryz.results55, go_sem, z0, z1, z2, z3]) rfl HF.out
            · have HQ := Lib.hid (And.intro hq1 (And.intro hq2 hq3))
              clear hq1 hq2 hq3
              have ei0 := i9.c0
              have ei1 := i9.c1
              have ej0 := j7.c0
              have ej1 := j7.c1
              have c0 := k0.c0
              have c1 := k0.c1
              have c2 := k0.c2
              have c3 := k0.c3
              have f0 := k0.f 0
              have f1 := k0.f 1
              have f2 := k0.f 2
              have f3 := k0.f 3
              obtain ⟨WW, hWW⟩ : ∃ WW, (((wc.setCell ⟨w.heap.size, 0, none⟩ (.int .i64 y9)).setCell ⟨w.heap.size, 1, none⟩ (.pointer p9)).setCell ⟨w.heap.size, 2, none⟩ (.int .i64 y7)).setCell ⟨w.heap.size, 3, none⟩ (.pointer p7) = WW := ⟨_, rfl⟩
              obtain ⟨z0, z1, z2, z3, vv, hvv, hf, hbb⟩ := ret_box4 (r := q) k0 (by rw [HQ.out.2.1]; exact HV9.out) (by rw [HQ.out.2.2]; exact HV7.out) hs (Nat.le_refl _) hWW
              cases hvv
              have HF := Lib.hid (show RdPost s w (.returned (.tuple #[.agg #[.int .i64 y9, .pointer p9, .int .i64 y7, .pointer p7], .bool true])) WW from ⟨_, _, _, _, _, rfl, hbb, .inl ⟨rfl, _, HQ.out.1, hf⟩⟩)
              clear hs k0 hbb hf 
              go_wp2_with fail
              exact bodyPost_ret (v := .tuple #[.agg #[.int .i64 y9, .pointer p9, .int .i64 y7, .pointer p7], .bool true]) (by simp [results, Tryz.results55, go_sem, z0, z1, z2, z3]) rfl HF.out
end Go.Proofs.YtekghemhccfhkaaGreatDoor
namespace Go.Big
open Go Go.RowKit
/-- The value of a text, and the canonical text of a number, as Go strings. -/
noncomputable def qv (s : ByteArray) : Rat := qval s.data.toList
def rs (q : Rat) : ByteArray := ⟨(rtext q).toArray⟩
theorem qv_rs (q : Rat) : qv (rs q) = q := qval_rtext q
theorem rs_inj {p q : Rat} (h : rs p = rs q) : p = q := by rw [← qv_rs p, h, qv_rs]
theorem qv_rd {s : ByteArray} {r : Rat} (h : rd s.data.toList = some (r.num, r.den)) : qv s = r := by
  have := qval_rd h
  exact Rat.ext this.1 this.2
theorem qv_none {s : ByteArray} (h : rd s.data.toList = none) : qv s = 0 := qval_none h
theorem b20 : B64 ≤ 10 ^ 20 := Nat.le_of_ble_eq_true (by kernel_rfl)
theorem dd_size {n K : Nat} (hK : 0 < K) (h : n < B64 ^ K) : (Lib.decDigits n).length ≤ 20 * K :=
  dd_len (by omega) (Nat.lt_of_lt_of_le h (by rw [Nat.pow_mul]; exact Nat.pow_le_pow_left b20 K))
theorem rs_size {q : Rat} {K : Nat} (hK : 0 < K) (h : Sz K q) : (rs q).size ≤ 40 * K + 2 := by
  have e : (rs q).size = (rtext q).length := by simp [rs, ByteArray.size]
  have h1 := dd_size hK h.1
  have h2 := dd_size hK h.2
  have h3 : (itext q.num).length ≤ 20 * K + 1 := by unfold itext; split <;> (try rw [List.length_cons]) <;> omega
  rw [e]; unfold rtext
  rw [List.length_append]
  split
  · simp; omega
  · simp; omega
theorem rs_size_int {q : Rat} {K : Nat} (hK : 0 < K) (h : Sz K q) (hd : q.den = 1) : (rs q).size ≤ 20 * K + 1 := by
  have e : (rs q).size = (rtext q).length := by simp [rs, ByteArray.size]
  have h1 := dd_size hK h.1
  have h3 : (itext q.num).length ≤ 20 * K + 1 := by unfold itext; split <;> (try rw [List.length_cons]) <;> omega
  rw [e]; unfold rtext
  rw [if_pos hd, List.append_nil]; exact h3
theorem b6 : 10 ^ 100 ≤ B64 ^ 6 := Nat.le_of_ble_eq_true (by kernel_rfl)
theorem dd_big_len {n k : Nat} (h : (Lib.decDigits n).length ≤ k) : n < 10 ^ k := by
  have h2 := dec_lt (dd_dig n)
  rw [dd_dec] at h2
  exact Nat.lt_of_lt_of_le h2 (Nat.pow_le_pow_right (by decide) h)
theorem qv_size {s : ByteArray} (h : s.size ≤ 100) : Sz 6 (qv s) := by
  have hsz : s.data.toList.length = s.size := (Lib.size_eq s).symm
  cases hr : rd s.data.toList with
  | none =>
    rw [qv_none hr]
    exact ⟨Nat.lt_of_lt_of_le (by decide : (0 : Nat) < 10 ^ 100) b6, Nat.lt_of_lt_of_le (by decide : (1 : Nat) < 10 ^ 100) b6⟩
  | some p =>
    obtain ⟨n, d⟩ := p
    obtain ⟨q, h1, h2, h3⟩ := rd_some hr
    have e : qv s = q := qv_rd (by rw [hr, h1, h2])
    rw [e]
    have hlen : (rtext q).length ≤ 100 := by rw [← h3]; omega
    unfold rtext at hlen
    rw [List.length_append] at hlen
    have hn : (Lib.decDigits q.num.natAbs).length ≤ (itext q.num).length := by unfold itext; split <;> simp
    refine ⟨Nat.lt_of_lt_of_le (dd_big_len (by omega)) b6, ?_⟩
    split at hlen
    · next h => rw [h]; exact Nat.lt_of_lt_of_le (by decide : (1 : Nat) < 10 ^ 100) b6
    · next h => simp at hlen; exact Nat.lt_of_lt_of_le (dd_big_len (by omega)) b6
end Go.Big
namespace Go.Proofs.YtekghemhccfhkaaGreatDoor
open Go.RowKit Go.Big
set_option maxRecDepth 100000 in
set_option maxHeartbeats 4000000 in
theorem value_any (s : ByteArray) (hl : s.size ≤ 608) (w : World) (hT : Tabs w) : Calls Tryz.prog 76 #[.string s] w (RetF w (qv s)) := by
  obtain ⟨w0, hw0, hs, k0, hz⟩ := box1 w #[.int .i64 0, .pointer none, .int .i64 0, .pointer none] 65 (ip4 _ _ _ _)
  have k0 : K4 w.heap.size 0 none 0 none w0 := k0
  have HR := Lib.hid (read_any s hl w0 (tabs_below hT hs))
  clear hT hz
  go_enter Tryz.func76, Tryz.ntmps76
  go_wp2_with fail
  refine HR.out.mono ?_
  rintro e w1 ⟨x, p, y, q, b, rfl, hb1, hor⟩
  obtain ⟨w2, hw2, hb2, j3, hz2⟩ := box1 w1 #[.int .i64 x, .pointer p, .int .i64 y, .pointer q] 65 (ip4 _ _ _ _)
  have j3 : K4 w1.heap.size x p y q w2 := j3
  have hb3 := below_trans hb1 hb2
  have k0 := k0.below hb3
  have hs := below_trans hs hb3
  rcases hor with ⟨rfl, r, hrd, hv⟩ | ⟨rfl, hrd⟩
  · have HF := Lib.hid (And.intro (qv_rd hrd) (hv.below hb2))
    clear hb1 hb2 hb3 hz2 hv hrd HR
    have e0 := j3.c0
    have e1 := j3.c1
    have e2 := j3.c2
    have e3 := j3.c3
    have c0 := k0.c0
    have c1 := k0.c1
    have c2 := k0.c2
    have c3 := k0.c3
    have f0 := k0.f 0
    have f1 := k0.f 1
    have f2 := k0.f 2
    have f3 := k0.f 3
    obtain ⟨WW, hWW⟩ : ∃ WW, (((w2.setCell ⟨w.heap.size, 0, none⟩ (.int .i64 x)).setCell ⟨w.heap.size, 1, none⟩ (.pointer p)).setCell ⟨w.heap.size, 2, none⟩ (.int .i64 y)).setCell ⟨w.heap.size, 3, none⟩ (.pointer q) = WW := ⟨_, rfl⟩
    obtain ⟨x', p', y', q', e, h1, h2⟩ := HF.out.2
    cases e
    obtain ⟨z0, z1, z2, z3, z4⟩ := ret_box4 (r := r) k0 h1 h2 hs (Nat.le_refl _) hWW
    have HZ := Lib.hid z4
    clear hs k0 h1 h2 z4 j3
    go_wp2_with fail
    exact bodyPost_ret (v := .agg #[.int .i64 x, .pointer p, .int .i64 y, .pointer q]) (by simp [results, Tryz.results76, go_sem, z0, z1, z2, z3]) rfl (by rw [HF.out.1]; exact HZ.out)
  · have HN := Lib.hid (qv_none hrd)
    have HW := Lib.hid (whole_any (n := 0) (v := .agg #[.int .i64 0, .pointer none]) (w := w2) (.inl ⟨⟨by omega, by omega⟩, rfl⟩))
    clear hb1 hb2 hb3 hz2 hrd HR j3
    go_wp2_with fail
    refine HW.out.mono ?_
    rintro e w6 ⟨v6, rfl, hv6, hb6⟩
    obtain ⟨ya, pa, yb, pb, rfl, h1, h2⟩ := hv6
    have k0 := k0.below hb6
    have hs := below_trans hs hb6
    have c0 := k0.c0
    have c1 := k0.c1
    have c2 := k0.c2
    have c3 := k0.c3
    have f0 := k0.f 0
    have f1 := k0.f 1
    have f2 := k0.f 2
    have f3 := k0.f 3
    obtain ⟨WW, hWW⟩ : ∃ WW, (((w6.setCell ⟨w.heap.size, 0, none⟩ (.int .i64 ya)).setCell ⟨w.heap.size, 1, none⟩ (.pointer pa)).setCell ⟨w.heap.size, 2, none⟩ (.int .i64 yb)).setCell ⟨w.heap.size, 3, none⟩ (.pointer pb) = WW := ⟨_, rfl⟩
    obtain ⟨z0, z1, z2, z3, z4⟩ := ret_box4 (r := ((0 : Int) : Rat)) k0 h1 h2 hs (Nat.le_refl _) hWW
    have HZ := Lib.hid z4
    clear hs k0 h1 h2 z4 hb6 HW
    go_wp2_with fail
    exact bodyPost_ret (v := .agg #[.int .i64 ya, .pointer pa, .int .i64 yb, .pointer pb]) (by simp [results, Tryz.results76, go_sem, z0, z1, z2, z3]) rfl (by rw [HN.out]; exact HZ.out)
end Go.Proofs.YtekghemhccfhkaaGreatDoor
namespace Go.Proofs.YtekghemhccfhkaaGreatDoor
open Go.RowKit Go.Big
def RetQ (w : World) (q : Rat) (e : Ending) (w' : World) : Prop := e = .returned (.string (rs q)) ∧ Below w.heap.size w w'
theorem text_at {v : Value} {q : Rat} {w : World} (h : FracV w v q) (hT : TabsA w) (sq : Sz 31 q) : Calls Tryz.prog 68 #[v] w (RetQ w q) := textF_any h hT sq
theorem itext_rs (n : Int) : itext n = rtext (n : Rat) := by unfold rtext; rw [Rat.num_intCast, Rat.den_intCast, if_pos rfl, List.append_nil]
theorem string_rs {v : Value} {n : Int} {w : World} (h : IntV w v n) (hT : TabsA w) (hn : n.natAbs < B64 ^ 31) : Calls Tryz.prog 60 #[v] w (RetQ w (n : Rat)) := by
  have := string_any h hT hn
  rw [itext_rs] at this; exact this
theorem floor_size {q : Rat} {K : Nat} (hK : K ≤ 31) (h : Sz K q) : q.floor.natAbs < B64 ^ 31 := by
  have e : q.floor = q.num / (q.den : Int) := Rat.floor_def q
  rw [e]
  exact Nat.lt_of_le_of_lt (natAbs_div_le _ _) (Nat.lt_of_lt_of_le h.1 (bw_mono hK))
set_option maxRecDepth 100000 in
set_option maxHeartbeats 1000000 in
theorem mulA {s t : ByteArray} {K : Nat} (hs : s.size ≤ 608) (ht : t.size ≤ 608) (hK : K < 100) (s1 : Sz K (qv s)) (s2 : Sz K (qv t)) (sr : Sz 31 (qv s * qv t)) {w : World} (hT : TabsA w) : Calls Tryz.prog 41 #[.string s, .string t] w (RetQ w (qv s * qv t)) := by
  have HL := Lib.hid (And.intro hs ht)
  have HK := Lib.hid hK
  have HZ := Lib.hid (And.intro s1 s2)
  have HR := Lib.hid sr
  have HT := Lib.hid hT
  clear hT hs ht hK s1 s2 sr
  go_enter Tryz.func41, Tryz.ntmps41
  go_wp2_with fail
  refine (value_any s HL.out.1 _ HT.out.1).mono ?_
  rintro e w1 ⟨v1, rfl, hv1, hb1⟩
  have HV1 := Lib.hid hv1
  have HT := Lib.hid (HT.out.below hb1)
  have HB := Lib.hid hb1
  clear hv1 hb1
  go_wp2_with fail
  refine (value_any t HL.out.2 _ HT.out.1).mono ?_
  rintro e w2 ⟨v2, rfl, hv2, hb2⟩
  have HV1 := Lib.hid (HV1.out.below hb2)
  have HV2 := Lib.hid hv2
  have HT := Lib.hid (HT.out.below hb2)
  have HB := Lib.hid (below_trans HB.out hb2)
  clear hv2 hb2
  go_wp2_with fail
  refine (mulF_any HV1.out HV2.out HT.out.1 HK.out HZ.out.1 HZ.out.2).mono ?_
  rintro e w3 ⟨v3, rfl, hv3, hb3⟩
  have HV1 := Lib.hid (HV1.out.below hb3)
  have HV2 := Lib.hid (HV2.out.below hb3)
  have HV3 := Lib.hid hv3
  have HT := Lib.hid (HT.out.below hb3)
  have HB := Lib.hid (below_trans HB.out hb3)
  clear hv3 hb3
  go_wp2_with fail
  refine (text_at HV3.out HT.out HR.out).mono ?_
  rintro e w4 ⟨rfl, hb4⟩
  have HV1 := Lib.hid (HV1.out.below hb4)
  have HV2 := Lib.hid (HV2.out.below hb4)
  have HV3 := Lib.hid (HV3.out.below hb4)
  have HT := Lib.hid (HT.out.below hb4)
  have HB := Lib.hid (below_trans HB.out hb4)
  clear hb4
  go_wp2_with fail
  go_ret
  exact ⟨rfl, HB.out⟩
set_option maxRecDepth 100000 in
set_option maxHeartbeats 1000000 in
theorem addA {s t : ByteArray} {K : Nat} (hs : s.size ≤ 608) (ht : t.size ≤ 608) (hK : K < 100) (s1 : Sz K (qv s)) (s2 : Sz K (qv t)) (sr : Sz 31 (qv s + qv t)) {w : World} (hT : TabsA w) : Calls Tryz.prog 37 #[.string s, .string t] w (RetQ w (qv s + qv t)) := by
  have HL := Lib.hid (And.intro hs ht)
  have HK := Lib.hid hK
  have HZ := Lib.hid (And.intro s1 s2)
  have HR := Lib.hid sr
  have HT := Lib.hid hT
  clear hT hs ht hK s1 s2 sr
  go_enter Tryz.func37, Tryz.ntmps37
  go_wp2_with fail
  refine (value_any s HL.out.1 _ HT.out.1).mono ?_
  rintro e w1 ⟨v1, rfl, hv1, hb1⟩
  have HV1 := Lib.hid hv1
  have HT := Lib.hid (HT.out.below hb1)
  have HB := Lib.hid hb1
  clear hv1 hb1
  go_wp2_with fail
  refine (value_any t HL.out.2 _ HT.out.1).mono ?_
  rintro e w2 ⟨v2, rfl, hv2, hb2⟩
  have HV1 := Lib.hid (HV1.out.below hb2)
  have HV2 := Lib.hid hv2
  have HT := Lib.hid (HT.out.below hb2)
  have HB := Lib.hid (below_trans HB.out hb2)
  clear hv2 hb2
  go_wp2_with fail
  refine (addF_any HV1.out HV2.out HT.out.1 HK.out HZ.out.1 HZ.out.2).mono ?_
  rintro e w3 ⟨v3, rfl, hv3, hb3⟩
  have HV1 := Lib.hid (HV1.out.below hb3)
  have HV2 := Lib.hid (HV2.out.below hb3)
  have HV3 := Lib.hid hv3
  have HT := Lib.hid (HT.out.below hb3)
  have HB := Lib.hid (below_trans HB.out hb3)
  clear hv3 hb3
  go_wp2_with fail
  refine (text_at HV3.out HT.out HR.out).mono ?_
  rintro e w4 ⟨rfl, hb4⟩
  have HV1 := Lib.hid (HV1.out.below hb4)
  have HV2 := Lib.hid (HV2.out.below hb4)
  have HV3 := Lib.hid (HV3.out.below hb4)
  have HT := Lib.hid (HT.out.below hb4)
  have HB := Lib.hid (below_trans HB.out hb4)
  clear hb4
  go_wp2_with fail
  go_ret
  exact ⟨rfl, HB.out⟩
set_option maxRecDepth 100000 in
set_option maxHeartbeats 1000000 in
theorem subA {s t : ByteArray} {K : Nat} (hs : s.size ≤ 608) (ht : t.size ≤ 608) (hK : K < 100) (s1 : Sz K (qv s)) (s2 : Sz K (qv t)) (sr : Sz 31 (qv s + -qv t)) {w : World} (hT : TabsA w) : Calls Tryz.prog 39 #[.string s, .string t] w (RetQ w (qv s + -qv t)) := by
  have HL := Lib.hid (And.intro hs ht)
  have HK := Lib.hid hK
  have HZ := Lib.hid (And.intro s1 s2)
  have HR := Lib.hid sr
  have HT := Lib.hid hT
  clear hT hs ht hK s1 s2 sr
  go_enter Tryz.func39, Tryz.ntmps39
  go_wp2_with fail
  refine (value_any s HL.out.1 _ HT.out.1).mono ?_
  rintro e w1 ⟨v1, rfl, hv1, hb1⟩
  have HV1 := Lib.hid hv1
  have HT := Lib.hid (HT.out.below hb1)
  have HB := Lib.hid hb1
  clear hv1 hb1
  go_wp2_with fail
  refine (value_any t HL.out.2 _ HT.out.1).mono ?_
  rintro e w2 ⟨v2, rfl, hv2, hb2⟩
  have HV1 := Lib.hid (HV1.out.below hb2)
  have HV2 := Lib.hid hv2
  have HT := Lib.hid (HT.out.below hb2)
  have HB := Lib.hid (below_trans HB.out hb2)
  clear hv2 hb2
  go_wp2_with fail
  refine (negF_any HV2.out).mono ?_
  rintro e w3 ⟨v3, rfl, hv3, hb3⟩
  have HV1 := Lib.hid (HV1.out.below hb3)
  have HV2 := Lib.hid (HV2.out.below hb3)
  have HV3 := Lib.hid hv3
  have HT := Lib.hid (HT.out.below hb3)
  have HB := Lib.hid (below_trans HB.out hb3)
  clear hv3 hb3
  go_wp2_with fail
  refine (addF_any HV1.out HV3.out HT.out.1 HK.out HZ.out.1 HZ.out.2.neg).mono ?_
  rintro e w4 ⟨v4, rfl, hv4, hb4⟩
  have HV1 := Lib.hid (HV1.out.below hb4)
  have HV2 := Lib.hid (HV2.out.below hb4)
  have HV3 := Lib.hid (HV3.out.below hb4)
  have HV4 := Lib.hid hv4
  have HT := Lib.hid (HT.out.below hb4)
  have HB := Lib.hid (below_trans HB.out hb4)
  clear hv4 hb4
  go_wp2_with fail
  refine (text_at HV4.out HT.out HR.out).mono ?_
  rintro e w5 ⟨rfl, hb5⟩
  have HV1 := Lib.hid (HV1.out.below hb5)
  have HV2 := Lib.hid (HV2.out.below hb5)
  have HV3 := Lib.hid (HV3.out.below hb5)
  have HV4 := Lib.hid (HV4.out.below hb5)
  have HT := Lib.hid (HT.out.below hb5)
  have HB := Lib.hid (below_trans HB.out hb5)
  clear hb5
  go_wp2_with fail
  go_ret
  exact ⟨rfl, HB.out⟩
set_option maxRecDepth 100000 in
set_option maxHeartbeats 1000000 in
theorem gcdA {s t : ByteArray} {K : Nat} (hs : s.size ≤ 608) (ht : t.size ≤ 608) (hK : K < 100) (s1 : Sz K (qv s)) (s2 : Sz K (qv t)) (sr : Sz 31 (rgcd (qv s) (qv t))) {w : World} (hT : TabsA w) : Calls Tryz.prog 51 #[.string s, .string t] w (RetQ w (rgcd (qv s) (qv t))) := by
  have HL := Lib.hid (And.intro hs ht)
  have HK := Lib.hid hK
  have HZ := Lib.hid (And.intro s1 s2)
  have HR := Lib.hid sr
  have HT := Lib.hid hT
  clear hT hs ht hK s1 s2 sr
  go_enter Tryz.func51, Tryz.ntmps51
  go_wp2_with fail
  refine (value_any s HL.out.1 _ HT.out.1).mono ?_
  rintro e w1 ⟨v1, rfl, hv1, hb1⟩
  have HV1 := Lib.hid hv1
  have HT := Lib.hid (HT.out.below hb1)
  have HB := Lib.hid hb1
  clear hv1 hb1
  go_wp2_with fail
  refine (value_any t HL.out.2 _ HT.out.1).mono ?_
  rintro e w2 ⟨v2, rfl, hv2, hb2⟩
  have HV1 := Lib.hid (HV1.out.below hb2)
  have HV2 := Lib.hid hv2
  have HT := Lib.hid (HT.out.below hb2)
  have HB := Lib.hid (below_trans HB.out hb2)
  clear hv2 hb2
  go_wp2_with fail
  refine (gcdF_any HV1.out HV2.out HT.out.1 HK.out HZ.out.1 HZ.out.2).mono ?_
  rintro e w3 ⟨v3, rfl, hv3, hb3⟩
  have HV1 := Lib.hid (HV1.out.below hb3)
  have HV2 := Lib.hid (HV2.out.below hb3)
  have HV3 := Lib.hid hv3
  have HT := Lib.hid (HT.out.below hb3)
  have HB := Lib.hid (below_trans HB.out hb3)
  clear hv3 hb3
  go_wp2_with fail
  refine (text_at HV3.out HT.out HR.out).mono ?_
  rintro e w4 ⟨rfl, hb4⟩
  have HV1 := Lib.hid (HV1.out.below hb4)
  have HV2 := Lib.hid (HV2.out.below hb4)
  have HV3 := Lib.hid (HV3.out.below hb4)
  have HT := Lib.hid (HT.out.below hb4)
  have HB := Lib.hid (below_trans HB.out hb4)
  clear hb4
  go_wp2_with fail
  go_ret
  exact ⟨rfl, HB.out⟩
set_option maxRecDepth 100000 in
set_option maxHeartbeats 1000000 in
theorem compareA {s t : ByteArray} {K : Nat} (hs : s.size ≤ 608) (ht : t.size ≤ 608) (hK : K < 100) (s1 : Sz K (qv s)) (s2 : Sz K (qv t)) {w : World} (hT : TabsA w) : Calls Tryz.prog 31 #[.string s, .string t] w (RetI w (cmpInt ((qv s).num * (qv t).den) ((qv t).num * (qv s).den))) := by
  have HL := Lib.hid (And.intro hs ht)
  have HK := Lib.hid hK
  have HZ := Lib.hid (And.intro s1 s2)
  have HT := Lib.hid hT
  clear hT hs ht hK s1 s2
  go_enter Tryz.func31, Tryz.ntmps31
  go_wp2_with fail
  refine (value_any s HL.out.1 _ HT.out.1).mono ?_
  rintro e w1 ⟨v1, rfl, hv1, hb1⟩
  have HV1 := Lib.hid hv1
  have HT := Lib.hid (HT.out.below hb1)
  have HB := Lib.hid hb1
  clear hv1 hb1
  go_wp2_with fail
  refine (value_any t HL.out.2 _ HT.out.1).mono ?_
  rintro e w2 ⟨v2, rfl, hv2, hb2⟩
  have HV1 := Lib.hid (HV1.out.below hb2)
  have HV2 := Lib.hid hv2
  have HT := Lib.hid (HT.out.below hb2)
  have HB := Lib.hid (below_trans HB.out hb2)
  clear hv2 hb2
  go_wp2_with fail
  refine (compareF_any HV1.out HV2.out HK.out HZ.out.1 HZ.out.2).mono ?_
  rintro e w3 ⟨rfl, hb3⟩
  have HV1 := Lib.hid (HV1.out.below hb3)
  have HV2 := Lib.hid (HV2.out.below hb3)
  have HT := Lib.hid (HT.out.below hb3)
  have HB := Lib.hid (below_trans HB.out hb3)
  clear hb3
  go_wp2_with fail
  go_ret
  exact ⟨rfl, HB.out⟩
set_option maxRecDepth 100000 in
set_option maxHeartbeats 1000000 in
theorem negA {s : ByteArray} (hs : s.size ≤ 608) (sr : Sz 31 (-qv s)) {w : World} (hT : TabsA w) : Calls Tryz.prog 33 #[.string s] w (RetQ w (-qv s)) := by
  have HL := Lib.hid hs
  have HR := Lib.hid sr
  have HT := Lib.hid hT
  clear hT hs sr
  go_enter Tryz.func33, Tryz.ntmps33
  go_wp2_with fail
  refine (value_any s HL.out _ HT.out.1).mono ?_
  rintro e w1 ⟨v1, rfl, hv1, hb1⟩
  have HV1 := Lib.hid hv1
  have HT := Lib.hid (HT.out.below hb1)
  have HB := Lib.hid hb1
  clear hv1 hb1
  go_wp2_with fail
  refine (negF_any HV1.out).mono ?_
  rintro e w2 ⟨v2, rfl, hv2, hb2⟩
  have HV1 := Lib.hid (HV1.out.below hb2)
  have HV2 := Lib.hid hv2
  have HT := Lib.hid (HT.out.below hb2)
  have HB := Lib.hid (below_trans HB.out hb2)
  clear hv2 hb2
  go_wp2_with fail
  refine (text_at HV2.out HT.out HR.out).mono ?_
  rintro e w3 ⟨rfl, hb3⟩
  have HV1 := Lib.hid (HV1.out.below hb3)
  have HV2 := Lib.hid (HV2.out.below hb3)
  have HT := Lib.hid (HT.out.below hb3)
  have HB := Lib.hid (below_trans HB.out hb3)
  clear hb3
  go_wp2_with fail
  go_ret
  exact ⟨rfl, HB.out⟩
set_option maxRecDepth 100000 in
set_option maxHeartbeats 1000000 in
theorem floorA {s : ByteArray} (hs : s.size ≤ 608) {K : Nat} (hK : K ≤ 31) (s1 : Sz K (qv s)) {w : World} (hT : TabsA w) : Calls Tryz.prog 47 #[.string s] w (RetQ w ((qv s).floor : Rat)) := by
  have HL := Lib.hid hs
  have HK := Lib.hid hK
  have HR := Lib.hid s1
  have HT := Lib.hid hT
  clear hT hs hK s1
  go_enter Tryz.func47, Tryz.ntmps47
  go_wp2_with fail
  refine (value_any s HL.out _ HT.out.1).mono ?_
  rintro e w1 ⟨v1, rfl, hv1, hb1⟩
  have HV1 := Lib.hid hv1
  have HT := Lib.hid (HT.out.below hb1)
  have HB := Lib.hid hb1
  clear hv1 hb1
  go_wp2_with fail
  refine (floorF_any HV1.out (show K < 239 by have := HK.out; omega) HR.out).mono ?_
  rintro e w2 ⟨v2, rfl, hv2, hb2⟩
  have HV1 := Lib.hid (HV1.out.below hb2)
  have HV2 := Lib.hid hv2
  have HT := Lib.hid (HT.out.below hb2)
  have HB := Lib.hid (below_trans HB.out hb2)
  clear hv2 hb2
  go_wp2_with fail
  refine (string_rs HV2.out HT.out (floor_size HK.out HR.out)).mono ?_
  rintro e w3 ⟨rfl, hb3⟩
  have HV1 := Lib.hid (HV1.out.below hb3)
  have HV2 := Lib.hid (HV2.out.below hb3)
  have HT := Lib.hid (HT.out.below hb3)
  have HB := Lib.hid (below_trans HB.out hb3)
  clear hb3
  go_wp2_with fail
  go_ret
  exact ⟨rfl, HB.out⟩
end Go.Proofs.YtekghemhccfhkaaGreatDoor
namespace Go.Big
open Go Go.RowKit
def rabs (q : Rat) : Rat := ⟨(q.num.natAbs : Nat), q.den, q.den_nz, by rw [Int.natAbs_natCast]; exact q.reduced⟩
theorem rabs_num (q : Rat) : (rabs q).num = (q.num.natAbs : Nat) := rfl
theorem rabs_den (q : Rat) : (rabs q).den = q.den := rfl
theorem Sz.rabs {K : Nat} {q : Rat} (h : Sz K q) : Sz K (rabs q) := ⟨by rw [rabs_num, Int.natAbs_natCast]; exact h.1, by rw [rabs_den]; exact h.2⟩
end Go.Big
namespace Go.Proofs.YtekghemhccfhkaaGreatDoor
open Go.RowKit Go.Big
theorem isS_size {n : Int} (h : IsS n) : n.natAbs < B64 ^ 31 := by
  have h1 : n.natAbs ≤ 9223372036854775808 := by unfold IsS at h; omega
  exact Nat.lt_of_le_of_lt h1 (Nat.lt_of_lt_of_le (by decide : 9223372036854775808 < B64 ^ 1) (bw_mono (by decide)))
theorem _root_.Go.Proofs.YtekghemhccfhkaaGreatDoor.TabsA.tabs {w : World} (h : TabsA w) : Tabs w := h.1
theorem FracV.mk4 {w : World} {a b : Int} {p r : Option Addr} {q : Rat} (h1 : IntV w (.agg #[.int .i64 a, .pointer p]) q.num) (h2 : IntV w (.agg #[.int .i64 b, .pointer r]) (q.den : Int)) : FracV w (.agg #[.int .i64 a, .pointer p, .int .i64 b, .pointer r]) q := ⟨_, _, _, _, rfl, h1, h2⟩
theorem FracV.mkAbs {w : World} {a b : Int} {p r : Option Addr} {q : Rat} (h1 : IntV w (.agg #[.int .i64 a, .pointer p]) (q.num.natAbs : Nat)) (h2 : IntV w (.agg #[.int .i64 b, .pointer r]) (q.den : Int)) : FracV w (.agg #[.int .i64 a, .pointer p, .int .i64 b, .pointer r]) (rabs q) := ⟨_, _, _, _, rfl, h1, h2⟩
theorem field65 (a b : Int) (p r : Option Addr) (w : World) : Sem.run Tryz.prog (Instr.field 65 (.agg #[.int .i64 a, .pointer p, .int .i64 b, .pointer r]) 0) w = .ok (.agg #[.int .i64 a, .pointer p]) w := by
  simp [Instr.field, part, asAgg, go_sem, Tryz.runUnderlying65, Tryz.isAgg63, Tryz.sizeOf63]
set_option maxRecDepth 100000 in
set_option maxHeartbeats 4000000 in
theorem signA {s : ByteArray} (hs : s.size ≤ 608) {w : World} (hT : TabsA w) : Calls Tryz.prog 30 #[.string s] w (RetI w (Int.sign (qv s).num)) := by
  have HL := Lib.hid hs
  have HT := Lib.hid hT
  clear hs hT
  go_enter Tryz.func30, Tryz.ntmps30
  go_wp2_with fail
  refine (value_any s HL.out _ HT.out.1).mono ?_
  rintro e w1 ⟨v1, rfl, ⟨a, p, b, r, rfl, h1, h2⟩, hb1⟩
  have HV := Lib.hid h1
  have HB := Lib.hid hb1
  have HFD := field65 a b p r
  clear h1 h2 hb1
  go_wp2_with fail
  refine (sign_any HV.out).mono ?_
  rintro e w2 ⟨rfl, hb2⟩
  have HB := Lib.hid (below_trans HB.out hb2)
  clear hb2
  go_wp2_with fail
  go_ret
  exact ⟨rfl, HB.out⟩
set_option maxRecDepth 100000 in
set_option maxHeartbeats 4000000 in
theorem fromIntA {n : Int} (hn : IsS n) {w : World} (hT : TabsA w) : Calls Tryz.prog 16 #[.int .i64 n] w (RetQ w (n : Rat)) := by
  have HN := Lib.hid hn
  have HT := Lib.hid hT
  clear hn hT
  go_enter Tryz.func16, Tryz.ntmps16
  go_wp2_with fail
  refine (fromInt64_any HN.out _).mono ?_
  rintro e w1 ⟨v1, rfl, hv1, hb1⟩
  have HV := Lib.hid hv1
  have HB := Lib.hid hb1
  have HT := Lib.hid (HT.out.below hb1)
  clear hv1 hb1
  go_wp2_with fail
  refine (string_rs HV.out HT.out (isS_size HN.out)).mono ?_
  rintro e w2 ⟨rfl, hb2⟩
  have HB := Lib.hid (below_trans HB.out hb2)
  clear hb2
  go_wp2_with fail
  go_ret
  exact ⟨rfl, HB.out⟩
def RootQ (w : World) (q : Rat) (e : Ending) (w' : World) : Prop := Below w.heap.size w w' ∧ ((∃ r : Rat, 0 ≤ r ∧ r * r = q ∧ e = .returned (.tuple #[.string (rs r), .bool true])) ∨ (¬ ∃ r : Rat, r * r = q) ∧ e = .returned (.tuple #[.string ⟨#[]⟩, .bool false]))
theorem sq_size {r q : Rat} {K : Nat} (h : r * r = q) (hq : Sz K q) : Sz K r := by
  have h1 := rat_sq r
  rw [h] at h1
  have hd := rat_den_pos r
  refine ⟨Nat.lt_of_le_of_lt ?_ hq.1, Nat.lt_of_le_of_lt ?_ hq.2⟩
  · rw [h1.1, Int.natAbs_mul]
    rcases Nat.eq_zero_or_pos r.num.natAbs with h0 | h0
    · rw [h0]; exact Nat.zero_le _
    · exact Nat.le_mul_of_pos_left _ h0
  · rw [h1.2]; exact Nat.le_mul_of_pos_left _ hd
set_option maxRecDepth 100000 in
set_option maxHeartbeats 4000000 in
theorem rootA {s : ByteArray} {K : Nat} (hs : s.size ≤ 608) (hK : K ≤ 31) (s1 : Sz K (qv s)) {w : World} (hT : TabsA w) : Calls Tryz.prog 45 #[.string s] w (RootQ w (qv s)) := by
  have HL := Lib.hid hs
  have HT := Lib.hid hT
  have HK := Lib.hid (And.intro hK s1)
  clear hs hT hK s1
  go_enter Tryz.func45, Tryz.ntmps45
  go_wp2_with fail
  refine (value_any s HL.out _ HT.out.1).mono ?_
  rintro e w1 ⟨v1, rfl, hv1, hb1⟩
  have HV1 := Lib.hid hv1
  have HB := Lib.hid hb1
  have HT := Lib.hid (HT.out.below hb1)
  clear hv1 hb1
  go_wp2_with fail
  refine (rootF_any HV1.out (K := K) (by have := HK.out.1; omega) HK.out.2).mono ?_
  rintro e w2 ⟨x, p, y, q, b, rfl, hb2, hor⟩
  have HB := Lib.hid (below_trans HB.out hb2)
  have HT := Lib.hid (HT.out.below hb2)
  rcases hor with ⟨rfl, r, hr0, hrr, hf⟩ | ⟨rfl, hno⟩
  · obtain ⟨x', p', y', q', he, h1, h2⟩ := hf
    cases he
    obtain ⟨w3, hw3, hb3, k1, hz3⟩ := box1 w2 #[.int .i64 x, .pointer p, .int .i64 y, .pointer q] 65 (ip4 _ _ _ _)
    have k1 : K4 w2.heap.size x p y q w3 := k1
    have HV2 := Lib.hid (FracV.below ⟨x, p, y, q, rfl, h1, h2⟩ hb3 : FracV w3 _ r)
    have HB := Lib.hid (below_trans HB.out hb3)
    have HT := Lib.hid (HT.out.below hb3)
    have HR := Lib.hid (And.intro hr0 hrr)
    clear hb2 h1 h2 hb3 hz3 hr0 hrr
    have e0 := k1.c0
    have e1 := k1.c1
    have e2 := k1.c2
    have e3 := k1.c3
    clear k1
    go_wp2_with fail
    refine (text_at HV2.out HT.out ((sq_size HR.out.2 HK.out.2).mono HK.out.1)).mono ?_
    rintro e w4 ⟨rfl, hb4⟩
    have HB := Lib.hid (below_trans HB.out hb4)
    clear hb4 e0 e1 e2 e3
    go_wp2_with fail
    exact bodyPost_ret (v := .tuple #[.string (rs r), .bool true]) (by simp [results, Tryz.results45, go_sem]) rfl ⟨HB.out, .inl ⟨r, HR.out.1, HR.out.2, rfl⟩⟩
  · have HN := Lib.hid hno
    have HX := Lib.hid (below_trans HB.out (below_box w2 #[.int .i64 x, .pointer p, .int .i64 y, .pointer q] 65))
    clear hno hb2
    go_wp2_with fail
    exact bodyPost_ret (v := .tuple #[.string ⟨#[]⟩, .bool false]) (by simp [results, Tryz.results45, go_sem]) rfl ⟨HX.out, .inr ⟨HN.out, rfl⟩⟩
set_option maxRecDepth 100000 in
set_option maxHeartbeats 4000000 in
theorem absA {s : ByteArray} (hs : s.size ≤ 608) (s1 : Sz 31 (qv s)) {w : World} (hT : TabsA w) : Calls Tryz.prog 34 #[.string s] w (RetQ w (rabs (qv s))) := by
  have HL := Lib.hid hs
  have HT := Lib.hid hT
  have HZ := Lib.hid s1
  clear hs hT s1
  go_enter Tryz.func34, Tryz.ntmps34
  go_wp2_with fail
  refine (value_any s HL.out _ HT.out.1).mono ?_
  rintro e w1 ⟨v1, rfl, ⟨a, p, b, r, rfl, h1, h2⟩, hb1⟩
  obtain ⟨w0, hw0, hb0, k1, hz0⟩ := box1 w1 #[.int .i64 a, .pointer p, .int .i64 b, .pointer r] 65 (ip4 _ _ _ _)
  have k1 : K4 w1.heap.size a p b r w0 := k1
  have hs := below_trans hb1 hb0
  have HT := Lib.hid (HT.out.below hs)
  have HA := Lib.hid (h1.below hb0)
  have HD := Lib.hid (h2.below hb0)
  clear h1 h2 hb1 hz0
  have ek10 := k1.c0
  have ek11 := k1.c1
  have ek12 := k1.c2
  have ek13 := k1.c3
  go_wp2_with fail
  have HW := Lib.hid hs
  have k1 : K4 (w1.heap.size) a p b r w0.drew := k1
  have hc : Below w0.heap.size w0 w0.drew := (Below.refl _ _).drew
  have hs : Below w.heap.size w w0.drew := hs.drew
  go_region_held3 (fun w' => w'.cell? ⟨w1.heap.size, 0, none⟩ = some (.int .i64 a) ∧ w'.cell? ⟨w1.heap.size, 1, none⟩ = some (.pointer p) ∧ w'.cell? ⟨w1.heap.size, 2, none⟩ = some (.int .i64 b) ∧ w'.cell? ⟨w1.heap.size, 3, none⟩ = some (.pointer r) ∧ Below w.heap.size w w') (first | (with_reducible exact ⟨k1.c0, k1.c1, k1.c2, k1.c3, hs⟩) | fail) (first | (go_at_call 80; (with_reducible refine (absI_any (HA.out.below hc)).mono ?_); rintro e w2 ⟨v2, rfl, hv2, hb2⟩; have k1 := k1.below hb2; have hs := hs.trans (hb2.mono hs.size); have hc := hc.trans (hb2.mono hc.size); obtain ⟨y2, q2, rfl⟩ := hv2.two) | (go_at_call 68; (with_reducible refine (text_at (FracV.mkAbs hv2 (HD.out.below hc)) (HT.out.below hc) (Sz.rabs HZ.out)).mono ?_); rintro e w3 ⟨rfl, hb3⟩; have k1 := k1.below hb3; have hs := hs.trans (hb3.mono hs.size)) | fail)
  have HF := Lib.hid hs
  clear k1 hs hb2 hb3 hv2 hc
  go_wp2_with fail
  go_ret
  exact ⟨rfl, HF.out⟩
def DivPost (w : World) (a b : Rat) (e : Ending) (w' : World) : Prop := Below w.heap.size w w' ∧ (b = 0 ∧ e = .returned (.tuple #[.string ⟨#[]⟩, .bool false]) ∨ b ≠ 0 ∧ e = .returned (.tuple #[.string (rs (a * b⁻¹)), .bool true]))
set_option maxRecDepth 100000 in
set_option maxHeartbeats 4000000 in
theorem divA {s t : ByteArray} {K : Nat} (hs : s.size ≤ 608) (ht : t.size ≤ 608) (hK : K < 100) (s1 : Sz K (qv s)) (s2 : Sz K (qv t)) (sr : Sz 31 (qv s * (qv t)⁻¹)) {w : World} (hT : TabsA w) : Calls Tryz.prog 35 #[.string s, .string t] w (DivPost w (qv s) (qv t)) := by
  have HL := Lib.hid (And.intro hs ht)
  have HT := Lib.hid hT
  have HK := Lib.hid hK
  have HZ := Lib.hid (And.intro s1 (And.intro s2 sr))
  clear hs ht hT hK s1 s2 sr
  go_enter Tryz.func35, Tryz.ntmps35
  go_wp2_with fail
  refine (value_any t HL.out.2 _ HT.out.1).mono ?_
  rintro e w1 ⟨v1, rfl, ⟨a, p, b, r, rfl, h1, h2⟩, hb1⟩
  obtain ⟨w0, hw0, hb0, k1, hz0⟩ := box1 w1 #[.int .i64 a, .pointer p, .int .i64 b, .pointer r] 65 (ip4 _ _ _ _)
  have k1 : K4 w1.heap.size a p b r w0 := k1
  have hs := below_trans hb1 hb0
  have HT := Lib.hid (HT.out.below hs)
  have HA := Lib.hid (h1.below hb0)
  have HD := Lib.hid (h2.below hb0)
  clear h1 h2 hb1 hz0
  have ek10 := k1.c0
  have ek11 := k1.c1
  have ek12 := k1.c2
  have ek13 := k1.c3
  obtain ⟨d, hd⟩ : ∃ d, Int.sign (qv t).num = d := ⟨_, rfl⟩
  have HDD := Lib.hid hd
  clear hd
  go_wp2_with fail
  refine (sign_at HA.out HDD.out).mono ?_
  rintro e w2 ⟨rfl, hb2⟩
  have k1 := k1.below hb2
  have hs := below_trans hs hb2
  have HT := Lib.hid (HT.out.below hb2)
  have HA := Lib.hid (HA.out.below hb2)
  have HD := Lib.hid (HD.out.below hb2)
  clear ek10 ek11 ek12 ek13 hb2
  by_cases h0 : d = 0
  · subst h0
    have HF := Lib.hid hs
    clear hs k1
    go_wp2_with fail
    exact bodyPost_ret (v := .tuple #[.string ⟨#[]⟩, .bool false]) (by simp [results, Tryz.results35, go_sem]) rfl ⟨HF.out, .inl ⟨Rat.num_eq_zero.1 (Int.sign_eq_zero_iff_zero.1 HDD.out), rfl⟩⟩
  · have HQ := Lib.hid (show qv t ≠ 0 from fun h => h0 (by rw [← HDD.out, h]; rfl))
    have hz : (d == 0) = false := by rw [beq_eq_false_iff_ne]; exact h0
    have ek10 := k1.c0
    have ek11 := k1.c1
    have ek12 := k1.c2
    have ek13 := k1.c3
    go_wp2_with fail
    have k1 : K4 (w1.heap.size) a p b r w2.drew := k1
    have hc : Below w2.heap.size w2 w2.drew := (Below.refl _ _).drew
    have hs : Below w.heap.size w w2.drew := hs.drew
    go_region_held3 (fun w' => w'.cell? ⟨w1.heap.size, 0, none⟩ = some (.int .i64 a) ∧ w'.cell? ⟨w1.heap.size, 1, none⟩ = some (.pointer p) ∧ w'.cell? ⟨w1.heap.size, 2, none⟩ = some (.int .i64 b) ∧ w'.cell? ⟨w1.heap.size, 3, none⟩ = some (.pointer r) ∧ Below w.heap.size w w') (first | (with_reducible exact ⟨k1.c0, k1.c1, k1.c2, k1.c3, hs⟩) | fail) (first | (go_at_call 76; (with_reducible refine (value_any s HL.out.1 _ (HT.out.below hc).tabs).mono ?_); rintro e w3 ⟨v3, rfl, hv3, hb3⟩; have k1 := k1.below hb3; have hs := hs.trans (hb3.mono hs.size); have hc := hc.trans (hb3.mono hc.size)) | (go_at_call 82; (with_reducible refine (inverse_any (FracV.mk4 (HA.out.below hc) (HD.out.below hc)) HQ.out).mono ?_); rintro e w4 ⟨v4, rfl, hv4, hb4⟩; have k1 := k1.below hb4; have hs := hs.trans (hb4.mono hs.size); have hc := hc.trans (hb4.mono hc.size); have hv3 := hv3.below hb4) | (go_at_call 81; (with_reducible refine (mulF_any hv3 hv4 (HT.out.below hc).tabs HK.out HZ.out.1 (HZ.out.2.1.inv HQ.out)).mono ?_); rintro e w5 ⟨v5, rfl, hv5, hb5⟩; have k1 := k1.below hb5; have hs := hs.trans (hb5.mono hs.size); have hc := hc.trans (hb5.mono hc.size)) | (go_at_call 68; (with_reducible refine (text_at hv5 (HT.out.below hc) HZ.out.2.2).mono ?_); rintro e w6 ⟨rfl, hb6⟩; have k1 := k1.below hb6; have hs := hs.trans (hb6.mono hs.size); have hc := hc.trans (hb6.mono hc.size)) | fail)
    have HF := Lib.hid hs
    clear k1 hs hb3 hb4 hb5 hb6 hv3 hv4 hv5 hc
    go_wp2_with fail
    exact bodyPost_ret (v := .tuple #[.string (rs (qv s * (qv t)⁻¹)), .bool true]) (by simp [results, Tryz.results35, go_sem]) rfl ⟨HF.out, .inr ⟨HQ.out, rfl⟩⟩
end Go.Proofs.YtekghemhccfhkaaGreatDoor
