/-
  Walks of the program's functions: Awake, Awake2, Short, LawC, RowBase, LawField.
-/
import Derived.Test.YtekghemhccfhkaaGreatDoorB23
import Derived.Test.YtekghemhccfhkaaGreatDoorTie
import Derived.Test.YtekghemhccfhkaaGreatDoorCards
import Derived.ProofKit
import Derived.OpenShut
import Derived.LaidMore
import Derived.Lay
import Derived.SevenTiedAt
import Derived.Stop.Joined
namespace Go.Big
open Go Go.RowKit
theorem rs_rd {s : ByteArray} {q : Rat} (h : rd s.data.toList = some (q.num, q.den)) : rs q = s := by
  obtain ⟨r, h1, h2, h3⟩ := rd_some h
  have e : r = q := Rat.ext h1 h2
  subst e
  exact ByteArray.ext (Array.toList_inj.1 h3.symm)
theorem sz_lit {q : Rat} {K : Nat} (h1 : Nat.blt q.num.natAbs 1000 = true) (h2 : Nat.blt q.den 1000 = true) (hK : 0 < K) : Sz K q := by
  have h1 := Nat.le_of_ble_eq_true h1
  have h2 := Nat.le_of_ble_eq_true h2
  have h3 : 1000 ≤ B64 ^ K := Nat.le_trans (by decide : 1000 ≤ B64 ^ 1) (bw_mono hK)
  exact ⟨Nat.lt_of_lt_of_le h1 h3, Nat.lt_of_lt_of_le h2 h3⟩
theorem q1 : qv ⟨#[49]⟩ = 1 := qv_rd (r := 1) (by kernel_rfl)
theorem q3 : qv ⟨#[51]⟩ = 3 := qv_rd (r := 3) (by kernel_rfl)
theorem q12 : qv ⟨#[49, 47, 50]⟩ = 1 / 2 := qv_rd (r := 1 / 2) (by kernel_rfl)
theorem q13 : qv ⟨#[49, 47, 51]⟩ = 1 / 3 := qv_rd (r := 1 / 3) (by kernel_rfl)
theorem qm23 : qv ⟨#[45, 50, 47, 51]⟩ = -2 / 3 := qv_rd (r := -2 / 3) (by kernel_rfl)
theorem s13 : rs ((1 : Rat) * 3⁻¹) = ⟨#[49, 47, 51]⟩ := rs_rd (by kernel_rfl)
theorem s56 : rs ((1 / 2 : Rat) + 1 / 3) = ⟨#[53, 47, 54]⟩ := rs_rd (by kernel_rfl)
theorem sm2 : rs ((-2 / 3 : Rat) * 3) = ⟨#[45, 50]⟩ := rs_rd (by kernel_rfl)
theorem sm32 {q : Rat} (h : q.num * (4 : Nat) = signed true 6 * q.den) : rs q = ⟨#[45, 51, 47, 50]⟩ := by
  have h0 : q.num * (2 : Nat) = -3 * (q.den : Int) := by
    have : signed true 6 = -6 := rfl
    rw [this] at h; omega
  obtain ⟨h1, h2⟩ := rat_of (q := q) (n := -3) (d := 2) (by decide) (by decide) h0
  exact rs_rd (by rw [h1, h2]; kernel_rfl)
end Go.Big
namespace Go.Proofs.YtekghemhccfhkaaGreatDoor
open Go.RowKit Go.Big
theorem ix_awake : IxOk ⟨#[48, 54, 47, 52]⟩ 2 := by
  intro w
  refine (Proofs.Tryz.strings_IndexAny_short ⟨#[48, 54, 47, 52]⟩ ⟨#[47, 46]⟩ w (by decide) (by decide) ?_).mono ?_
  · intro j b h
    rcases j with _ | _ | _ | _ | j <;> simp at h <;> subst h <;> decide
  · rintro e w' ⟨rfl, pos, rfl⟩
    exact ⟨congrArg (fun x => Ending.returned (.int .i64 x)) (by kernel_rfl), (Below.refl w.heap.size w).alloc' _⟩
def awR : Nat → Nat → Prop := SlashR [48, 54] [52]
theorem pu_awake (w : World) : Calls Tryz.prog 64 #[.string ⟨#[48, 54, 47, 52]⟩] w (PuPost awR w) :=
  parseUnsigned_slash (s := ⟨#[48, 54, 47, 52]⟩) (i := 2) (by decide) (by decide) rfl ix_awake (by
    refine ⟨?_, by decide⟩
    intro b hb
    have hb : b ∈ ([48, 54] : List UInt8) := hb
    simp at hb
    rcases hb with rfl | rfl <;> decide) w
theorem awR_iff {n d : Nat} (h : awR n d) : n = 6 ∧ d = 4 := by
  obtain ⟨_, _, h1, h2⟩ := h
  exact ⟨h1.trans (by decide), h2.trans (by decide)⟩
theorem awR_yes : awR 6 4 := ⟨⟨by intro b hb; simp at hb; rcases hb with rfl | rfl <;> decide, by decide⟩, ⟨by intro b hb; simp at hb; rcases hb with rfl <;> decide, by decide⟩, by decide, by decide⟩
set_option maxRecDepth 100000 in
set_option maxHeartbeats 4000000 in
theorem parse_awake {w : World} (hT : TabsA w) : Calls Tryz.prog 21 #[.string ⟨#[45, 48, 54, 47, 52]⟩] w fun e w' => e = .returned (.tuple #[.string ⟨#[45, 51, 47, 50]⟩, .int .i64 0]) ∧ Below w.heap.size w w' := by
  refine (parse_any (s := ⟨#[45, 48, 54, 47, 52]⟩) (m := ⟨#[48, 54, 47, 52]⟩) (neg := true) (R := awR) (K := 1) (by decide) (by decide) (by decide) pu_awake (fun n d h => by
    obtain ⟨rfl, rfl⟩ := awR_iff h; exact ⟨by decide, by decide⟩) (by decide) hT).mono ?_
  rintro e w' ⟨hb, ⟨n, d, q, h, h0, hq, rfl⟩ | ⟨n, h, _⟩ | ⟨h, _⟩⟩
  · obtain ⟨rfl, rfl⟩ := awR_iff h
    rw [sm32 hq]; exact ⟨rfl, hb⟩
  · exact absurd (awR_iff h).2 (by decide)
  · exact absurd awR_yes (h 6 4)
end Go.Proofs.YtekghemhccfhkaaGreatDoor
namespace Go.Proofs.YtekghemhccfhkaaGreatDoor
open Go.RowKit Go.Big
theorem div13 {w : World} (hT : TabsA w) : Calls Tryz.prog 35 #[.string ⟨#[49]⟩, .string ⟨#[51]⟩] w fun e w' => e = .returned (.tuple #[.string ⟨#[49, 47, 51]⟩, .bool true]) ∧ Below w.heap.size w w' := by
  have h := divA (s := ⟨#[49]⟩) (t := ⟨#[51]⟩) (K := 1) (by decide) (by decide) (by decide) (by rw [q1]; exact sz_lit (by kernel_rfl) (by kernel_rfl) (by decide)) (by rw [q3]; exact sz_lit (by kernel_rfl) (by kernel_rfl) (by decide))
    (by rw [q1, q3]; exact sz_lit (by kernel_rfl) (by kernel_rfl) (by decide)) hT
  refine h.mono ?_
  rintro e w' ⟨hb, ⟨h0, _⟩ | ⟨_, rfl⟩⟩
  · rw [q3] at h0; exact absurd h0 (by decide)
  · rw [q1, q3, s13]; exact ⟨rfl, hb⟩
theorem add1213 {w : World} (hT : TabsA w) : Calls Tryz.prog 37 #[.string ⟨#[49, 47, 50]⟩, .string ⟨#[49, 47, 51]⟩] w fun e w' => e = .returned (.string ⟨#[53, 47, 54]⟩) ∧ Below w.heap.size w w' := by
  have h := addA (s := ⟨#[49, 47, 50]⟩) (t := ⟨#[49, 47, 51]⟩) (K := 1) (by decide) (by decide) (by decide) (by rw [q12]; exact sz_lit (by kernel_rfl) (by kernel_rfl) (by decide)) (by rw [q13]; exact sz_lit (by kernel_rfl) (by kernel_rfl) (by decide))
    (by rw [q12, q13]; exact sz_lit (by kernel_rfl) (by kernel_rfl) (by decide)) hT
  rw [q12, q13] at h
  refine h.mono ?_
  rintro e w' ⟨rfl, hb⟩
  rw [s56]; exact ⟨rfl, hb⟩
theorem mul233 {w : World} (hT : TabsA w) : Calls Tryz.prog 41 #[.string ⟨#[45, 50, 47, 51]⟩, .string ⟨#[51]⟩] w fun e w' => e = .returned (.string ⟨#[45, 50]⟩) ∧ Below w.heap.size w w' := by
  have h := mulA (s := ⟨#[45, 50, 47, 51]⟩) (t := ⟨#[51]⟩) (K := 1) (by decide) (by decide) (by decide) (by rw [qm23]; exact sz_lit (by kernel_rfl) (by kernel_rfl) (by decide)) (by rw [q3]; exact sz_lit (by kernel_rfl) (by kernel_rfl) (by decide))
    (by rw [qm23, q3]; exact sz_lit (by kernel_rfl) (by kernel_rfl) (by decide)) hT
  rw [qm23, q3] at h
  refine h.mono ?_
  rintro e w' ⟨rfl, hb⟩
  rw [sm2]; exact ⟨rfl, hb⟩
theorem cmp1312 {w : World} (hT : TabsA w) : Calls Tryz.prog 31 #[.string ⟨#[49, 47, 51]⟩, .string ⟨#[49, 47, 50]⟩] w fun e w' => e = .returned (.int .i64 (-1)) ∧ Below w.heap.size w w' := by
  have h := compareA (s := ⟨#[49, 47, 51]⟩) (t := ⟨#[49, 47, 50]⟩) (K := 1) (by decide) (by decide) (by decide) (by rw [q13]; exact sz_lit (by kernel_rfl) (by kernel_rfl) (by decide)) (by rw [q12]; exact sz_lit (by kernel_rfl) (by kernel_rfl) (by decide)) hT
  rw [q12, q13, show cmpInt ((1 / 3 : Rat).num * (1 / 2 : Rat).den) ((1 / 2 : Rat).num * (1 / 3 : Rat).den) = -1 by kernel_rfl] at h
  exact h
set_option maxRecDepth 100000 in
set_option maxHeartbeats 4000000 in
theorem awake_any {w : World} (hT : TabsA w) : Calls Tryz.prog 13 #[] w (RetBool w true) := by
  have HT := Lib.hid hT
  have HP := Lib.hid (parse_awake hT)
  clear hT
  go_enter Tryz.func13, Tryz.ntmps13
  go_wp2_with fail
  refine HP.out.mono ?_
  rintro e w1 ⟨rfl, hb1⟩
  have HT := Lib.hid (HT.out.below hb1)
  have HB := Lib.hid hb1
  clear hb1 HP
  go_wp2_with fail
  refine (div13 HT.out).mono ?_
  rintro e w2 ⟨rfl, hb2⟩
  have HT := Lib.hid (HT.out.below hb2)
  have HB := Lib.hid (below_trans HB.out hb2)
  clear hb2
  go_wp2_with fail
  refine (add1213 HT.out).mono ?_
  rintro e w3 ⟨rfl, hb3⟩
  have HT := Lib.hid (HT.out.below hb3)
  have HB := Lib.hid (below_trans HB.out hb3)
  clear hb3
  go_wp2_with fail
  refine (mul233 HT.out).mono ?_
  rintro e w4 ⟨rfl, hb4⟩
  have HT := Lib.hid (HT.out.below hb4)
  have HB := Lib.hid (below_trans HB.out hb4)
  clear hb4
  go_wp2_with fail
  refine (cmp1312 HT.out).mono ?_
  rintro e w5 ⟨rfl, hb5⟩
  have HB := Lib.hid (below_trans HB.out hb5)
  clear hb5
  go_wp2_with fail
  go_ret
  exact ⟨rfl, HB.out⟩
end Go.Proofs.YtekghemhccfhkaaGreatDoor
namespace Go.Proofs.YtekghemhccfhkaaGreatDoor
open Go.RowKit Go.Big
def StrsAt (w : World) (g : Nat) (l : List ByteArray) : Prop := ∀ i (h : i < l.length), w.cell? ⟨g, i, none⟩ = some (.string l[i])
set_option maxRecDepth 100000 in
set_option maxHeartbeats 1000000 in
theorem short_any {l : List ByteArray} {g cap : Nat} {n : Nat} {w : World} (hl : l.length ≤ 1000) (hc : StrsAt w g l) :
    Calls Tryz.prog 24 #[.int .i64 n, .slice (some ⟨g, 0, none⟩) l.length cap] w fun e w' => e = .returned (.bool (decide (∀ x ∈ l, x.size ≤ n))) ∧ w' = w := by
  obtain ⟨L, hL⟩ : ∃ L, l.length = L := ⟨_, rfl⟩
  have HC := Lib.hid (And.intro hc hL)
  rw [hL] at hl ⊢
  clear hc hL
  go_enter Tryz.func24, Tryz.ntmps24
  go_wp2_with fail
  go_loopw [5] (fun y wr => w = wr ∧ ∃ i : Nat, i ≤ L ∧ y = .int .i64 i ∧ Hid (∀ j (h : j < l.length), j < i → l[j].size ≤ n)) (fun y _ => L - (intOf y).toNat)
  case atStart => exact ⟨rfl, 0, by omega, rfl, Lib.hid (fun j h h0 => absurd h0 (by omega))⟩
  case round =>
    obtain ⟨rfl, i, hi, rfl, hall⟩ := hrel
    by_cases h : i < L
    · have hil : i < l.length := by rw [HC.out.2]; exact h
      obtain ⟨s, hs⟩ : ∃ s, l[i]'hil = s := ⟨_, rfl⟩
      have hcell : w.cell? ⟨g, i, none⟩ = some (.string s) := by rw [← hs]; exact HC.out.1 i hil
      have HS := Lib.hid hs
      clear hs
      by_cases hsz : n < s.size
      · have hz : decide ((n : Int) < (s.size : Int)) = true := decide_eq_true (by omega)
        go_wp2_with fail
        go_ret
        refine ⟨?_, rfl⟩
        rw [decide_eq_false ?_]
        · rfl
        intro hx
        have := hx s (by rw [← HS.out]; exact List.getElem_mem _)
        omega
      · have hz : decide ((n : Int) < (s.size : Int)) = false := decide_eq_false (by omega)
        go_wp2_with fail
        go_roundw
        case rel =>
          refine ⟨by first | rfl | trivial, i + 1, by omega, rfl, Lib.hid (fun j hj h0 => ?_)⟩
          by_cases hji : j = i
          · subst hji; rw [HS.out]; omega
          · exact hall.out j hj (by omega)
        case measure => simp [intOf]; omega
    · have he : i = L := by omega
      subst he
      go_wp2_with fail
      go_ret
      refine ⟨?_, rfl⟩
      rw [decide_eq_true ?_]
      · rfl
      intro x hx
      obtain ⟨j, hj, rfl⟩ := List.getElem_of_mem hx
      exact hall.out j hj (by have := HC.out.2; omega)
end Go.Proofs.YtekghemhccfhkaaGreatDoor
namespace Go.Big
open Go Go.RowKit
/-- A text that the functions read, of a number of at most K words. -/
def Nmb (K : Nat) (s : ByteArray) : Prop := s.size ≤ 608 ∧ Sz K (qv s)
theorem Nmb.mono {K L : Nat} {s : ByteArray} (h : Nmb K s) (hl : K ≤ L) : Nmb L s := ⟨h.1, h.2.mono hl⟩
theorem nmb_rs {K : Nat} {q : Rat} (hK : 0 < K) (hl : K ≤ 15) (h : Sz K q) : Nmb K (rs q) := ⟨Nat.le_trans (rs_size hK h) (by omega), by rw [qv_rs]; exact h⟩
theorem nmb_arg {s : ByteArray} (h : s.size ≤ 100) : Nmb 6 s := ⟨by omega, qv_size h⟩
theorem q0 : qv ⟨#[48]⟩ = 0 := qv_rd (r := 0) (by kernel_rfl)
theorem nmb0 : Nmb 6 ⟨#[48]⟩ := nmb_arg (by decide)
theorem nmb1 : Nmb 6 ⟨#[49]⟩ := nmb_arg (by decide)
end Go.Big
namespace Go.Proofs.YtekghemhccfhkaaGreatDoor
open Go.RowKit Go.Big
def RetB (w : World) (b : ByteArray) (e : Ending) (w' : World) : Prop := e = .returned (.string b) ∧ Below w.heap.size w w'
theorem mulC {s t S : ByteArray} {K : Nat} {w : World} (gs : Nmb K s) (gt : Nmb K t) (hK : K ≤ 15) (h : rs (qv s * qv t) = S) (hT : TabsA w) : Calls Tryz.prog 41 #[.string s, .string t] w (RetB w S) := by
  rw [← h]; exact mulA gs.1 gt.1 (by omega) gs.2 gt.2 ((gs.2.mul gt.2).mono (by omega)) hT
theorem addC {s t S : ByteArray} {K : Nat} {w : World} (gs : Nmb K s) (gt : Nmb K t) (hK : K ≤ 15) (h : rs (qv s + qv t) = S) (hT : TabsA w) : Calls Tryz.prog 37 #[.string s, .string t] w (RetB w S) := by
  rw [← h]; exact addA gs.1 gt.1 (by omega) gs.2 gt.2 ((gs.2.add gt.2).mono (by omega)) hT
theorem subC {s t S : ByteArray} {K : Nat} {w : World} (gs : Nmb K s) (gt : Nmb K t) (hK : K ≤ 15) (h : rs (qv s + -qv t) = S) (hT : TabsA w) : Calls Tryz.prog 39 #[.string s, .string t] w (RetB w S) := by
  rw [← h]; exact subA gs.1 gt.1 (by omega) gs.2 gt.2 ((gs.2.add gt.2.neg).mono (by omega)) hT
theorem divC {s t S : ByteArray} {K : Nat} {w : World} (gs : Nmb K s) (gt : Nmb K t) (hK : K ≤ 15) (h0 : qv t ≠ 0) (h : rs (qv s * (qv t)⁻¹) = S) (hT : TabsA w) :
    Calls Tryz.prog 35 #[.string s, .string t] w fun e w' => e = .returned (.tuple #[.string S, .bool true]) ∧ Below w.heap.size w w' := by
  rw [← h]
  refine (divA gs.1 gt.1 (by omega) gs.2 gt.2 ((gs.2.mul (gt.2.inv h0)).mono (by omega)) hT).mono ?_
  rintro e w' ⟨hb, ⟨h1, _⟩ | ⟨_, rfl⟩⟩
  · exact absurd h1 h0
  · exact ⟨rfl, hb⟩
theorem divC0 {s t : ByteArray} {K : Nat} {w : World} (gs : Nmb K s) (gt : Nmb K t) (hK : K ≤ 15) (h0 : qv t = 0) (hT : TabsA w) :
    Calls Tryz.prog 35 #[.string s, .string t] w fun e w' => e = .returned (.tuple #[.string ⟨#[]⟩, .bool false]) ∧ Below w.heap.size w w' := by
  refine (divA gs.1 gt.1 (by omega) gs.2 gt.2 ?_ hT).mono ?_
  · rw [h0, Rat.inv_zero, Rat.mul_zero]
    exact sz_lit (by kernel_rfl) (by kernel_rfl) (by decide)
  · rintro e w' ⟨hb, ⟨_, rfl⟩ | ⟨h1, _⟩⟩
    · exact ⟨rfl, hb⟩
    · exact absurd h0 h1
theorem cmp_pos {a b : Rat} : 0 < cmpInt (a.num * b.den) (b.num * a.den) ↔ b < a := by
  rw [Rat.lt_iff]
  unfold cmpInt
  split
  · omega
  · split <;> omega
theorem cmp_le {a b : Rat} : cmpInt (a.num * b.den) (b.num * a.den) ≤ 0 ↔ a ≤ b := by
  rw [← Rat.not_lt, ← cmp_pos]; omega
theorem compareC {s t : ByteArray} {K : Nat} {c : Int} {w : World} (gs : Nmb K s) (gt : Nmb K t) (hK : K ≤ 15) (h : cmpInt ((qv s).num * (qv t).den) ((qv t).num * (qv s).den) = c) (hT : TabsA w) : Calls Tryz.prog 31 #[.string s, .string t] w (RetI w c) := by
  rw [← h]; exact compareA gs.1 gt.1 (by omega) gs.2 gt.2 hT
end Go.Proofs.YtekghemhccfhkaaGreatDoor
namespace Go.Proofs.YtekghemhccfhkaaGreatDoor
open Go.ChangeShapes Go.WideShapes Go.ChangeAt Go.RowKit Go.Big
theorem own : ownKnob Tryz.prog.godebug = none := by kernel_rfl
def laidList : List (String × DataW Unit) := [("math/bits.deBruijn32tab", Rows.laid_math_bits_deBruijn32tab), ("math/bits.deBruijn64tab", Rows.laid_math_bits_deBruijn64tab), ("internal/strconv.uint64pow10", Rows.laid_internal_strconv_uint64pow10), ("unicode/utf8.acceptRanges", Rows.laid_unicode_utf8_acceptRanges), ("unicode/utf8.first", Rows.laid_unicode_utf8_first)]
theorem deb_data : (Rows.laid_math_bits_deBruijn64tab : DataW Unit) = Lib.tabData .u8 (Lib.deBruijn64tab.map fun (n : Nat) => (n : Int)) := by kernel_rfl
theorem pow_data : (Rows.laid_internal_strconv_uint64pow10 : DataW Unit) = Lib.tabData .u64 Lib.pow10Tab := by kernel_rfl
theorem tabs_of_laid {W : World} (h : laidMetH Tryz.prog laidList W) : TabsA W := by
  rw [MakeChecks.laidMetH_plain _ _ _ (by kernel_rfl)] at h
  obtain ⟨ps, ⟨g0, t0, cs0, f0, p0, q0, hg0, ht0, hv0, hd0, ⟨g1, t1, cs1, f1, p1, q1, hg1, ht1, hv1, hd1, ⟨g2, t2, cs2, f2, p2, q2, hg2, ht2, hv2, hd2, _, _⟩, _⟩, _⟩, _⟩ := h
  obtain rfl := Option.some.inj ((show Tryz.prog.globalNamed "math/bits.deBruijn64tab" = some 1 by kernel_rfl).symm.trans hg1)
  obtain rfl := Option.some.inj ((show Tryz.prog.globalNamed "internal/strconv.uint64pow10" = some 2 by kernel_rfl).symm.trans hg2)
  obtain rfl := Option.some.inj ((show (Tryz.prog.globals[1]?).map (·.type) = some 185 by kernel_rfl).symm.trans ht1)
  obtain rfl := Option.some.inj ((show (Tryz.prog.globals[2]?).map (·.type) = some 190 by kernel_rfl).symm.trans ht2)
  have e1 : Lib.TabIs Tryz.prog W "math/bits.deBruijn64tab" .u8 (Lib.deBruijn64tab.map fun (n : Nat) => (n : Int)) := by
    unfold Lib.TabIs
    rw [hv1, ← Lib.cells_of_tab Tryz.underlying185 Tryz.underlying5 (by kernel_rfl) (by kernel_rfl) (by rw [← deb_data]; exact hd1)]
  have e2 : Lib.TabIs Tryz.prog W "internal/strconv.uint64pow10" .u64 Lib.pow10Tab := by
    unfold Lib.TabIs
    rw [hv2, ← Lib.cells_of_tab Tryz.underlying190 Tryz.underlying71 (by kernel_rfl) (by kernel_rfl) (by rw [← pow_data]; exact hd2)]
  refine ⟨fun j hj => ?_, e2⟩
  have := e1.cell (by kernel_rfl : Tryz.prog.globalNamed "math/bits.deBruijn64tab" = some 1) j (by simpa using hj)
  rw [this]
  simp [nth, List.getD, hj]
theorem isS_of {n : Int} (h : (Lit.int .i64 n).wf = true) : IsS n := by
  simp only [Lit.wf, Bool.and_eq_true, decide_eq_true_eq] at h
  exact ⟨h.1, h.2⟩
end Go.Proofs.YtekghemhccfhkaaGreatDoor
namespace Go.Proofs.YtekghemhccfhkaaGreatDoor
open Go.RowKit Go.Big
def S100 : List ByteArray → Bool := fun l => decide (∀ x ∈ l, x.size ≤ 100)
theorem short3 {a b c : ByteArray} {g cap : Nat} {w : World} (h0 : w.cell? ⟨g, 0, none⟩ = some (.string a)) (h1 : w.cell? ⟨g, 1, none⟩ = some (.string b)) (h2 : w.cell? ⟨g, 2, none⟩ = some (.string c)) {o : Bool} (ho : S100 [a, b, c] = o) :
    Calls Tryz.prog 24 #[.int .i64 100, .slice (some ⟨g, 0, none⟩) 3 cap] w fun e w' => e = .returned (.bool o) ∧ w' = w := by
  rw [← ho]
  exact short_any (l := [a, b, c]) (n := 100) (by simp) (fun i h => by
    rcases i with _ | _ | _ | i
    · exact h0
    · exact h1
    · exact h2
    · simp at h; omega)
theorem short2 {a b : ByteArray} {g cap : Nat} {w : World} (h0 : w.cell? ⟨g, 0, none⟩ = some (.string a)) (h1 : w.cell? ⟨g, 1, none⟩ = some (.string b)) {o : Bool} (ho : S100 [a, b] = o) :
    Calls Tryz.prog 24 #[.int .i64 100, .slice (some ⟨g, 0, none⟩) 2 cap] w fun e w' => e = .returned (.bool o) ∧ w' = w := by
  rw [← ho]
  exact short_any (l := [a, b]) (n := 100) (by simp) (fun i h => by
    rcases i with _ | _ | i
    · exact h0
    · exact h1
    · simp at h; omega)
set_option maxRecDepth 100000 in
set_option maxHeartbeats 4000000 in
theorem rationalField_walk (a b c : ByteArray) {w : World} (hT : TabsA w) : Calls Tryz.prog 10 #[.string a, .string b, .string c] w (RetBool w true) := by
  have HT := Lib.hid hT
  obtain ⟨o, ho⟩ : ∃ o, S100 [a, b, c] = o := ⟨_, rfl⟩
  have HO := Lib.hid ho
  obtain ⟨w0, hw0⟩ : ∃ w0, w.alloc (.cells #[.string a, .string b, .string c] 9) = w0 := ⟨_, rfl⟩
  have hr := heap_alloc_new w (.cells #[.string a, .string b, .string c] 9)
  have hb0 : Below w.heap.size w w0 := by rw [← hw0]; exact (Below.refl _ _).alloc' _
  rw [hw0] at hr
  have HSH := Lib.hid (short3 (cap := 3) (g := w.heap.size) (w := w0) (by rw [cell_rowB hr]; rfl) (by rw [cell_rowB hr]; rfl) (by rw [cell_rowB hr]; rfl) HO.out)
  have HT := Lib.hid (HT.out.below hb0)
  have HB := Lib.hid hb0
  clear hT ho hr hb0
  cases o with
  | false =>
    go_enter Tryz.func10, Tryz.ntmps10
    go_wp2_with fail
    refine HSH.out.mono ?_
    rintro e w1 ⟨rfl, rfl⟩
    go_wp2_with fail
    refine (awake_any HT.out).mono ?_
    rintro e w2 ⟨rfl, hb2⟩
    have HB := Lib.hid (below_trans HB.out hb2)
    clear hb2
    go_wp2_with fail
    go_ret
    exact ⟨rfl, HB.out⟩
  | true =>
    have hsz : ∀ x ∈ [a, b, c], x.size ≤ 100 := of_decide_eq_true HO.out
    obtain ⟨A, hA⟩ : ∃ A, qv a = A := ⟨_, rfl⟩
    obtain ⟨B, hB⟩ : ∃ B, qv b = B := ⟨_, rfl⟩
    obtain ⟨C, hC⟩ : ∃ C, qv c = C := ⟨_, rfl⟩
    have ga : Nmb 6 a := nmb_arg (hsz a (by simp))
    have gb : Nmb 6 b := nmb_arg (hsz b (by simp))
    have gc : Nmb 6 c := nmb_arg (hsz c (by simp))
    have hza : Sz 6 A := by rw [← hA]; exact ga.2
    have hzb : Sz 6 B := by rw [← hB]; exact gb.2
    have hzc : Sz 6 C := by rw [← hC]; exact gc.2
    obtain ⟨S1, hS1⟩ : ∃ s, rs (A * B) = s := ⟨_, rfl⟩
    have qS1 : qv S1 = A * B := by rw [← hS1]; exact qv_rs _
    have gS1 : Nmb 12 S1 := by rw [← hS1]; exact nmb_rs (by decide) (by decide) (hza.mul hzb)
    obtain ⟨S2, hS2⟩ : ∃ s, rs (B * C) = s := ⟨_, rfl⟩
    have qS2 : qv S2 = B * C := by rw [← hS2]; exact qv_rs _
    have gS2 : Nmb 12 S2 := by rw [← hS2]; exact nmb_rs (by decide) (by decide) (hzb.mul hzc)
    obtain ⟨S3, hS3⟩ : ∃ s, rs (A * B * C) = s := ⟨_, rfl⟩
    have qS3 : qv S3 = A * B * C := by rw [← hS3]; exact qv_rs _
    obtain ⟨T1, hT1⟩ : ∃ s, rs (B + C) = s := ⟨_, rfl⟩
    have qT1 : qv T1 = B + C := by rw [← hT1]; exact qv_rs _
    have gT1 : Nmb 13 T1 := by rw [← hT1]; exact nmb_rs (by decide) (by decide) ((hzb.add hzc).mono (by decide))
    obtain ⟨S4, hS4⟩ : ∃ s, rs (A * (B + C)) = s := ⟨_, rfl⟩
    have qS4 : qv S4 = A * (B + C) := by rw [← hS4]; exact qv_rs _
    obtain ⟨T2, hT2⟩ : ∃ s, rs (A * C) = s := ⟨_, rfl⟩
    have qT2 : qv T2 = A * C := by rw [← hT2]; exact qv_rs _
    have gT2 : Nmb 12 T2 := by rw [← hT2]; exact nmb_rs (by decide) (by decide) (hza.mul hzc)
    obtain ⟨T3, hT3⟩ : ∃ s, rs (A + B) = s := ⟨_, rfl⟩
    have qT3 : qv T3 = A + B := by rw [← hT3]; exact qv_rs _
    have gT3 : Nmb 13 T3 := by rw [← hT3]; exact nmb_rs (by decide) (by decide) ((hza.add hzb).mono (by decide))
    obtain ⟨S5, hS5⟩ : ∃ s, rs (A + B + C) = s := ⟨_, rfl⟩
    have qS5 : qv S5 = A + B + C := by rw [← hS5]; exact qv_rs _
    obtain ⟨T4, hT4⟩ : ∃ s, rs (A + -B) = s := ⟨_, rfl⟩
    have qT4 : qv T4 = A + -B := by rw [← hT4]; exact qv_rs _
    have gT4 : Nmb 13 T4 := by rw [← hT4]; exact nmb_rs (by decide) (by decide) ((hza.add hzb.neg).mono (by decide))
    obtain ⟨S6, hS6⟩ : ∃ s, rs (A) = s := ⟨_, rfl⟩
    have qS6 : qv S6 = A := by rw [← hS6]; exact qv_rs _
    obtain ⟨T5, hT5⟩ : ∃ s, rs (A + C) = s := ⟨_, rfl⟩
    have qT5 : qv T5 = A + C := by rw [← hT5]; exact qv_rs _
    have gT5 : Nmb 13 T5 := by rw [← hT5]; exact nmb_rs (by decide) (by decide) ((hza.add hzc).mono (by decide))
    have GG := Lib.hid (show (Nmb 6 a ∧ Nmb 6 b ∧ Nmb 6 c) ∧ Nmb 12 S1 ∧ Nmb 12 S2 ∧ Nmb 13 T1 ∧ Nmb 12 T2 ∧ Nmb 13 T3 ∧ Nmb 13 T4 ∧ Nmb 13 T5 from ⟨⟨ga, gb, gc⟩, gS1, gS2, gT1, gT2, gT3, gT4, gT5⟩)
    have E1 := Lib.hid (show rs (qv a * qv b) = S1 from by rw [← hS1]; exact congrArg rs (by rw [hA, hB]))
    have E2 := Lib.hid (show rs (qv b * qv c) = S2 from by rw [← hS2]; exact congrArg rs (by rw [hB, hC]))
    have E3 := Lib.hid (show rs (qv S1 * qv c) = S3 from by rw [← hS3]; exact congrArg rs (by rw [qS1, hC]))
    have E4 := Lib.hid (show rs (qv a * qv S2) = S3 from by rw [← hS3]; exact congrArg rs (by rw [hA, qS2]; grind))
    have E5 := Lib.hid (show rs (qv b * qv a) = S1 from by rw [← hS1]; exact congrArg rs (by rw [hA, hB]; grind))
    have E6 := Lib.hid (show rs (qv b + qv c) = T1 from by rw [← hT1]; exact congrArg rs (by rw [hB, hC]))
    have E7 := Lib.hid (show rs (qv a * qv T1) = S4 from by rw [← hS4]; exact congrArg rs (by rw [hA, qT1]))
    have E8 := Lib.hid (show rs (qv a * qv c) = T2 from by rw [← hT2]; exact congrArg rs (by rw [hA, hC]))
    have E9 := Lib.hid (show rs (qv S1 + qv T2) = S4 from by rw [← hS4]; exact congrArg rs (by rw [qS1, qT2]; grind))
    have E10 := Lib.hid (show rs (qv a + qv b) = T3 from by rw [← hT3]; exact congrArg rs (by rw [hA, hB]))
    have E11 := Lib.hid (show rs (qv T3 + qv c) = S5 from by rw [← hS5]; exact congrArg rs (by rw [qT3, hC]))
    have E12 := Lib.hid (show rs (qv a + qv T1) = S5 from by rw [← hS5]; exact congrArg rs (by rw [hA, qT1]; grind))
    have E13 := Lib.hid (show rs (qv a + -qv b) = T4 from by rw [← hT4]; exact congrArg rs (by rw [hA, hB]))
    have E14 := Lib.hid (show rs (qv T4 + qv b) = S6 from by rw [← hS6]; exact congrArg rs (by rw [qT4, hB]; grind))
    have E15 := Lib.hid (show rs (qv a + qv ⟨#[48]⟩) = S6 from by rw [← hS6]; exact congrArg rs (by rw [hA, q0]; grind))
    have E16 := Lib.hid (show rs (qv a + qv c) = T5 from by rw [← hT5]; exact congrArg rs (by rw [hA, hC]))
    obtain ⟨x1, hx1⟩ : ∃ x, cmpInt ((qv a).num * (qv b).den) ((qv b).num * (qv a).den) = x := ⟨_, rfl⟩
    obtain ⟨x2, hx2⟩ : ∃ x, cmpInt ((qv T5).num * (qv T1).den) ((qv T1).num * (qv T5).den) = x := ⟨_, rfl⟩
    have HX1 := Lib.hid hx1
    have HX2 := Lib.hid hx2
    have hle : ¬ 0 < x1 → x2 ≤ 0 := by
      rw [← hx1, ← hx2, cmp_pos, cmp_le, hA, hB, qT5, qT1, Rat.not_lt]
      intro h; exact Rat.add_le_add_right.2 h
    have HB0 := Lib.hid hB
    clear hsz hS1 qS1 hS2 qS2 hS3 qS3 hT1 qT1 hS4 qS4 hT2 qT2 hT3 qT3 hS5 qS5 hT4 qT4 hS6 qS6 hT5 qT5 gS1 gS2 gT1 gT2 gT3 gT4 gT5 ga gb gc hza hzb hzc hx1 hx2 hA hB hC
    go_enter Tryz.func10, Tryz.ntmps10
    go_wp2_with fail
    refine HSH.out.mono ?_
    rintro e w1 ⟨rfl, rfl⟩
    clear HSH
    go_wp2_with fail
    refine (mulC (K := 6) GG.out.1.1 GG.out.1.2.1 (by decide) E1.out HT.out).mono ?_
    rintro e w1 ⟨rfl, hb1⟩
    have HT := Lib.hid (HT.out.below hb1)
    have HB := Lib.hid (below_trans HB.out hb1)
    clear hb1
    go_wp2_with fail
    refine (mulC (K := 6) GG.out.1.2.1 GG.out.1.2.2 (by decide) E2.out HT.out).mono ?_
    rintro e w2 ⟨rfl, hb2⟩
    have HT := Lib.hid (HT.out.below hb2)
    have HB := Lib.hid (below_trans HB.out hb2)
    clear hb2
    go_wp2_with fail
    refine (mulC (K := 12) GG.out.2.1 (Nmb.mono GG.out.1.2.2 (by decide)) (by decide) E3.out HT.out).mono ?_
    rintro e w3 ⟨rfl, hb3⟩
    have HT := Lib.hid (HT.out.below hb3)
    have HB := Lib.hid (below_trans HB.out hb3)
    clear hb3
    go_wp2_with fail
    refine (mulC (K := 12) (Nmb.mono GG.out.1.1 (by decide)) GG.out.2.2.1 (by decide) E4.out HT.out).mono ?_
    rintro e w4 ⟨rfl, hb4⟩
    have HT := Lib.hid (HT.out.below hb4)
    have HB := Lib.hid (below_trans HB.out hb4)
    clear hb4
    go_wp2_with fail
    refine (mulC (K := 6) GG.out.1.2.1 GG.out.1.1 (by decide) E5.out HT.out).mono ?_
    rintro e w5 ⟨rfl, hb5⟩
    have HT := Lib.hid (HT.out.below hb5)
    have HB := Lib.hid (below_trans HB.out hb5)
    clear hb5
    go_wp2_with fail
    refine (addC (K := 6) GG.out.1.2.1 GG.out.1.2.2 (by decide) E6.out HT.out).mono ?_
    rintro e w6 ⟨rfl, hb6⟩
    have HT := Lib.hid (HT.out.below hb6)
    have HB := Lib.hid (below_trans HB.out hb6)
    clear hb6
    go_wp2_with fail
    refine (mulC (K := 13) (Nmb.mono GG.out.1.1 (by decide)) GG.out.2.2.2.1 (by decide) E7.out HT.out).mono ?_
    rintro e w7 ⟨rfl, hb7⟩
    have HT := Lib.hid (HT.out.below hb7)
    have HB := Lib.hid (below_trans HB.out hb7)
    clear hb7
    go_wp2_with fail
    refine (mulC (K := 6) GG.out.1.1 GG.out.1.2.2 (by decide) E8.out HT.out).mono ?_
    rintro e w8 ⟨rfl, hb8⟩
    have HT := Lib.hid (HT.out.below hb8)
    have HB := Lib.hid (below_trans HB.out hb8)
    clear hb8
    go_wp2_with fail
    refine (addC (K := 12) GG.out.2.1 GG.out.2.2.2.2.1 (by decide) E9.out HT.out).mono ?_
    rintro e w9 ⟨rfl, hb9⟩
    have HT := Lib.hid (HT.out.below hb9)
    have HB := Lib.hid (below_trans HB.out hb9)
    clear hb9
    go_wp2_with fail
    refine (addC (K := 6) GG.out.1.1 GG.out.1.2.1 (by decide) E10.out HT.out).mono ?_
    rintro e w10 ⟨rfl, hb10⟩
    have HT := Lib.hid (HT.out.below hb10)
    have HB := Lib.hid (below_trans HB.out hb10)
    clear hb10
    go_wp2_with fail
    refine (addC (K := 13) GG.out.2.2.2.2.2.1 (Nmb.mono GG.out.1.2.2 (by decide)) (by decide) E11.out HT.out).mono ?_
    rintro e w11 ⟨rfl, hb11⟩
    have HT := Lib.hid (HT.out.below hb11)
    have HB := Lib.hid (below_trans HB.out hb11)
    clear hb11
    go_wp2_with fail
    refine (addC (K := 6) GG.out.1.2.1 GG.out.1.2.2 (by decide) E6.out HT.out).mono ?_
    rintro e w12 ⟨rfl, hb12⟩
    have HT := Lib.hid (HT.out.below hb12)
    have HB := Lib.hid (below_trans HB.out hb12)
    clear hb12
    go_wp2_with fail
    refine (addC (K := 13) (Nmb.mono GG.out.1.1 (by decide)) GG.out.2.2.2.1 (by decide) E12.out HT.out).mono ?_
    rintro e w13 ⟨rfl, hb13⟩
    have HT := Lib.hid (HT.out.below hb13)
    have HB := Lib.hid (below_trans HB.out hb13)
    clear hb13
    go_wp2_with fail
    refine (subC (K := 6) GG.out.1.1 GG.out.1.2.1 (by decide) E13.out HT.out).mono ?_
    rintro e w14 ⟨rfl, hb14⟩
    have HT := Lib.hid (HT.out.below hb14)
    have HB := Lib.hid (below_trans HB.out hb14)
    clear hb14
    go_wp2_with fail
    refine (addC (K := 13) GG.out.2.2.2.2.2.2.1 (Nmb.mono GG.out.1.2.1 (by decide)) (by decide) E14.out HT.out).mono ?_
    rintro e w15 ⟨rfl, hb15⟩
    have HT := Lib.hid (HT.out.below hb15)
    have HB := Lib.hid (below_trans HB.out hb15)
    clear hb15
    go_wp2_with fail
    refine (addC (K := 6) GG.out.1.1 nmb0 (by decide) E15.out HT.out).mono ?_
    rintro e w16 ⟨rfl, hb16⟩
    have HT := Lib.hid (HT.out.below hb16)
    have HB := Lib.hid (below_trans HB.out hb16)
    clear hb16
    have HLE := Lib.hid hle
    clear hle
    obtain ⟨wd, HDV⟩ : ∃ wd, wd = w16 := ⟨_, rfl⟩
    subst HDV
    by_cases h0 : B = 0
    · have HQ0 := Lib.hid (show qv b = 0 from HB0.out.trans h0)
      clear h0
      go_wp2_with fail
      refine (divC0 (K := 6) GG.out.1.1 GG.out.1.2.1 (by decide) HQ0.out HT.out).mono ?_
      rintro e w17 ⟨rfl, hb17⟩
      have HT := Lib.hid (HT.out.below hb17)
      have HB := Lib.hid (below_trans HB.out hb17)
      clear hb17
      go_wp2_with fail
      refine (compareC (K := 6) GG.out.1.1 GG.out.1.2.1 (by decide) HX1.out HT.out).mono ?_
      rintro e w18 ⟨rfl, hb18⟩
      have HT := Lib.hid (HT.out.below hb18)
      have HB := Lib.hid (below_trans HB.out hb18)
      clear hb18
      by_cases hc : 0 < x1
      · go_wp2_with fail
        refine (awake_any HT.out).mono ?_
        rintro e w19 ⟨rfl, hb19⟩
        have HT := Lib.hid (HT.out.below hb19)
        have HB := Lib.hid (below_trans HB.out hb19)
        clear hb19
        go_wp2_with fail
        go_ret
        exact ⟨rfl, HB.out⟩
      · have h2 : x2 ≤ 0 := HLE.out (by omega)
        go_wp2_with fail
        refine (addC (K := 6) GG.out.1.1 GG.out.1.2.2 (by decide) E16.out HT.out).mono ?_
        rintro e w19 ⟨rfl, hb19⟩
        have HT := Lib.hid (HT.out.below hb19)
        have HB := Lib.hid (below_trans HB.out hb19)
        clear hb19
        go_wp2_with fail
        refine (addC (K := 6) GG.out.1.2.1 GG.out.1.2.2 (by decide) E6.out HT.out).mono ?_
        rintro e w20 ⟨rfl, hb20⟩
        have HT := Lib.hid (HT.out.below hb20)
        have HB := Lib.hid (below_trans HB.out hb20)
        clear hb20
        go_wp2_with fail
        refine (compareC (K := 13) GG.out.2.2.2.2.2.2.2 GG.out.2.2.2.1 (by decide) HX2.out HT.out).mono ?_
        rintro e w21 ⟨rfl, hb21⟩
        have HT := Lib.hid (HT.out.below hb21)
        have HB := Lib.hid (below_trans HB.out hb21)
        clear hb21
        go_wp2_with fail
        refine (awake_any HT.out).mono ?_
        rintro e w22 ⟨rfl, hb22⟩
        have HT := Lib.hid (HT.out.below hb22)
        have HB := Lib.hid (below_trans HB.out hb22)
        clear hb22
        go_wp2_with fail
        go_ret
        exact ⟨rfl, HB.out⟩
    · have HQ0 := Lib.hid (show qv b ≠ 0 from fun h => h0 (HB0.out.symm.trans h))
      obtain ⟨Q, hQ⟩ : ∃ s, rs (qv a * (qv b)⁻¹) = s := ⟨_, rfl⟩
      have HQ := Lib.hid hQ
      have GQ := Lib.hid (show Nmb 12 Q from by rw [← hQ]; exact nmb_rs (by decide) (by decide) (GG.out.1.1.2.mul (GG.out.1.2.1.2.inv HQ0.out)))
      have E17 := Lib.hid (show rs (qv Q * qv b) = S6 from by rw [← hQ, qv_rs, ← E15.out, q0]; exact congrArg rs (by have := HQ0.out; grind))
      clear hQ h0
      go_wp2_with fail
      refine (divC (K := 6) GG.out.1.1 GG.out.1.2.1 (by decide) HQ0.out HQ.out HT.out).mono ?_
      rintro e w17 ⟨rfl, hb17⟩
      have HT := Lib.hid (HT.out.below hb17)
      have HB := Lib.hid (below_trans HB.out hb17)
      clear hb17
      go_wp2_with fail
      refine (mulC (K := 12) GQ.out (Nmb.mono GG.out.1.2.1 (by decide)) (by decide) E17.out HT.out).mono ?_
      rintro e w18 ⟨rfl, hb18⟩
      have HT := Lib.hid (HT.out.below hb18)
      have HB := Lib.hid (below_trans HB.out hb18)
      clear hb18
      go_wp2_with fail
      refine (addC (K := 6) GG.out.1.1 nmb0 (by decide) E15.out HT.out).mono ?_
      rintro e w19 ⟨rfl, hb19⟩
      have HT := Lib.hid (HT.out.below hb19)
      have HB := Lib.hid (below_trans HB.out hb19)
      clear hb19
      go_wp2_with fail
      refine (compareC (K := 6) GG.out.1.1 GG.out.1.2.1 (by decide) HX1.out HT.out).mono ?_
      rintro e w20 ⟨rfl, hb20⟩
      have HT := Lib.hid (HT.out.below hb20)
      have HB := Lib.hid (below_trans HB.out hb20)
      clear hb20
      by_cases hc : 0 < x1
      · go_wp2_with fail
        refine (awake_any HT.out).mono ?_
        rintro e w21 ⟨rfl, hb21⟩
        have HT := Lib.hid (HT.out.below hb21)
        have HB := Lib.hid (below_trans HB.out hb21)
        clear hb21
        go_wp2_with fail
        go_ret
        exact ⟨rfl, HB.out⟩
      · have h2 : x2 ≤ 0 := HLE.out (by omega)
        go_wp2_with fail
        refine (addC (K := 6) GG.out.1.1 GG.out.1.2.2 (by decide) E16.out HT.out).mono ?_
        rintro e w21 ⟨rfl, hb21⟩
        have HT := Lib.hid (HT.out.below hb21)
        have HB := Lib.hid (below_trans HB.out hb21)
        clear hb21
        go_wp2_with fail
        refine (addC (K := 6) GG.out.1.2.1 GG.out.1.2.2 (by decide) E6.out HT.out).mono ?_
        rintro e w22 ⟨rfl, hb22⟩
        have HT := Lib.hid (HT.out.below hb22)
        have HB := Lib.hid (below_trans HB.out hb22)
        clear hb22
        go_wp2_with fail
        refine (compareC (K := 13) GG.out.2.2.2.2.2.2.2 GG.out.2.2.2.1 (by decide) HX2.out HT.out).mono ?_
        rintro e w23 ⟨rfl, hb23⟩
        have HT := Lib.hid (HT.out.below hb23)
        have HB := Lib.hid (below_trans HB.out hb23)
        clear hb23
        go_wp2_with fail
        refine (awake_any HT.out).mono ?_
        rintro e w24 ⟨rfl, hb24⟩
        have HT := Lib.hid (HT.out.below hb24)
        have HB := Lib.hid (below_trans HB.out hb24)
        clear hb24
        go_wp2_with fail
        go_ret
        exact ⟨rfl, HB.out⟩
end Go.Proofs.YtekghemhccfhkaaGreatDoor
