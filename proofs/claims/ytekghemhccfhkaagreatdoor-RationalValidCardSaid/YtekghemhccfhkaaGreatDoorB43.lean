/-
  Walks of the program's functions: NReadM, NRead, NNum, LawN, LawArith, NParts, LawParts.
-/
import Derived.Test.YtekghemhccfhkaaGreatDoorB40
import Derived.Test.YtekghemhccfhkaaGreatDoorB42
import Derived.Test.YtekghemhccfhkaaGreatDoorB33
namespace Go.Big
open Go Go.RowKit
theorem rat_cross {p q : Rat} (h : p.num * q.den = q.num * p.den) : p = q := by
  have h1 := p.den_nz
  have h2 := q.den_nz
  have e := (Rat.divInt_eq_divInt_iff (n₁ := p.num) (d₁ := p.den) (n₂ := q.num) (d₂ := q.den) (by omega) (by omega)).2 h
  rwa [Rat.num_divInt_den, Rat.num_divInt_den] at e
theorem divInt_cross {n d : Int} (hd : d ≠ 0) : (Rat.divInt n d).num * d = n * (Rat.divInt n d).den := by
  have h2 := (Rat.divInt n d).den_nz
  have e := Rat.num_divInt_den (Rat.divInt n d)
  rwa [Rat.divInt_eq_divInt_iff (by omega) hd] at e
theorem nr_none {s T : List UInt8} {b : Bool} {q : Rat} (h : s = rtext q) (hu : unsign s = (T, b)) (hs : slash T = none) : q.den = 1 ∧ q.num = signed b (dec T) ∧ Dig T ∧ T ≠ [] := by
  subst h
  unfold rtext at hu
  rw [unsign_itext] at hu
  simp only [Prod.mk.injEq] at hu
  obtain ⟨h1, h2⟩ := hu
  by_cases hd : q.den = 1
  · rw [if_pos hd, List.append_nil] at h1
    rw [← h1, ← h2]
    refine ⟨hd, ?_, dd_dig _, dd_ne _⟩
    rw [dd_dec, signed_abs]
  · rw [if_neg hd] at h1
    rw [← h1, slash_some (dd_noslash _)] at hs
    cases hs
theorem nr_sl {s T a c : List UInt8} {b : Bool} {q : Rat} (h : s = rtext q) (hu : unsign s = (T, b)) (hs : slash T = some (a, c)) : q.num = signed b (dec a) ∧ q.den = dec c ∧ Dig a ∧ a ≠ [] ∧ Dig c ∧ c ≠ [] := by
  subst h
  unfold rtext at hu
  rw [unsign_itext] at hu
  simp only [Prod.mk.injEq] at hu
  obtain ⟨h1, h2⟩ := hu
  by_cases hd : q.den = 1
  · rw [if_pos hd, List.append_nil] at h1
    rw [← h1, slash_none (dd_noslash _)] at hs
    cases hs
  · rw [if_neg hd] at h1
    rw [← h1, slash_some (dd_noslash _)] at hs
    simp only [Option.some.injEq, Prod.mk.injEq] at hs
    rw [← hs.1, ← hs.2, ← h2, dd_dec, dd_dec, signed_abs]
    exact ⟨rfl, rfl, dd_dig _, dd_ne _, dd_dig _, dd_ne _⟩
theorem rs_iff {s : ByteArray} {q : Rat} : s = rs q ↔ s.data.toList = rtext q := by
  constructor
  · rintro rfl; rfl
  · intro h; exact ByteArray.ext (Array.toList_inj.1 h)
/-- What Read says. -/
def NrdPost (s : ByteArray) (w : World) (e : Ending) (w' : World) (R : World → Value → Rat → Prop) : Prop :=
  ∃ (v : Value) (b : Bool) (q : Rat), e = .returned (.tuple #[v, .bool b]) ∧ R w' v q ∧ (b = true → s = rs q) ∧ (b = false → ∀ p, s ≠ rs p) ∧ Below w.heap.size w w'
theorem nrd_fin {s t : ByteArray} {q : Rat} (ht : t = rs q) (hall : ∀ p, s = rs p → p = q) : ((t.toList == s.toList) = true → s = rs q) ∧ ((t.toList == s.toList) = false → ∀ p, s ≠ rs p) := by
  subst ht
  constructor
  · intro h
    rw [beq_iff_eq, Lib.toList_data, Lib.toList_data] at h
    exact rs_iff.2 h.symm
  · rintro h p hp
    have e := hall p hp
    subst e
    subst hp
    rw [beq_self_eq_true] at h; cases h
theorem ext_list (T : ByteArray) (i j : Nat) : (T.extract i j).data.toList = (T.data.toList.take j).drop i := by
  rw [ByteArray.data_extract]; simp [List.extract_eq_take_drop, List.drop_take]
theorem ext_size (T : ByteArray) (i : Nat) : (T.extract 0 i).size = min i T.size := by
  rw [ByteArray.size_extract]; omega
theorem ext_size' (T : ByteArray) (i : Nat) : (T.extract i T.size).size = T.size - i := by
  rw [ByteArray.size_extract]; omega
theorem sl_at {L : List UInt8} {i : Nat} (h : ∀ b ∈ L.take i, b ≠ 47) (hi : i < L.length) (hb : L[i] = 47) : slash L = some (L.take i, L.drop (i + 1)) := by
  have e : L = L.take i ++ 47 :: L.drop (i + 1) := by
    rw [← hb, List.getElem_cons_drop, List.take_append_drop]
  conv => lhs; rw [e]
  exact slash_some h
theorem un_yes {s : ByteArray} (h0 : 0 < s.size) (hb : s[0].toNat = 45) : unsign s.data.toList = ((s.extract 1 s.size).data.toList, true) := by
  have hsz : s.data.toList.length = s.size := (Lib.size_eq s).symm
  have e : s[0] = s.data.toList[0]'(by omega) := by simp [ByteArray.getElem_eq_getElem_data]
  rw [ext_list, List.take_of_length_le (by omega)]
  cases hL : s.data.toList with
  | nil => rw [hL] at hsz; simp at hsz; omega
  | cons x m =>
    have hx : x = 45 := by
      have : s[0] = x := by rw [e]; simp [hL]
      rw [this] at hb; exact UInt8.toNat_inj.1 hb
    subst hx
    rfl
theorem un_no {s : ByteArray} (h0 : 0 < s.size) (hb : s[0].toNat ≠ 45) : unsign s.data.toList = (s.data.toList, false) := by
  have hsz : s.data.toList.length = s.size := (Lib.size_eq s).symm
  have e : s[0] = s.data.toList[0]'(by omega) := by simp [ByteArray.getElem_eq_getElem_data]
  cases hL : s.data.toList with
  | nil => rfl
  | cons x m =>
    have hx : x ≠ 45 := by
      have : s[0] = x := by rw [e]; simp [hL]
      rintro rfl
      rw [this] at hb; exact hb rfl
    unfold unsign
    split
    · next h => cases h; exact absurd rfl hx
    · rfl
theorem un_nil {s : ByteArray} (h0 : ¬ 0 < s.size) : unsign s.data.toList = (s.data.toList, false) := by
  have hsz : s.data.toList.length = s.size := (Lib.size_eq s).symm
  rw [List.eq_nil_of_length_eq_zero (l := s.data.toList) (by omega)]; rfl
theorem rd_badN {s T : ByteArray} {b : Bool} {p : Rat} (hu : unsign s.data.toList = (T.data.toList, b)) (hs : slash T.data.toList = none) (hp : s = rs p) (h : ¬ (Dig T.data.toList ∧ 0 < T.size)) : False := by
  obtain ⟨_, _, h3, h4⟩ := nr_none (rs_iff.1 hp) hu hs
  have hsz : T.data.toList.length = T.size := (Lib.size_eq T).symm
  apply h
  have := List.length_pos_iff.2 h4
  exact ⟨h3, by omega⟩
theorem rd_badS {s T : ByteArray} {b : Bool} {p : Rat} {i : Nat} (hu : unsign s.data.toList = (T.data.toList, b)) (hs : slash T.data.toList = some (T.data.toList.take i, T.data.toList.drop (i + 1))) (hp : s = rs p) (h : ¬ (Dig (T.extract 0 i).data.toList ∧ 0 < (T.extract 0 i).size)) : False := by
  obtain ⟨_, _, h3, h4, _⟩ := nr_sl (rs_iff.1 hp) hu hs
  have hsz : T.data.toList.length = T.size := (Lib.size_eq T).symm
  apply h
  rw [ext_list, List.drop_zero, ext_size]
  have := List.length_pos_iff.2 h4
  rw [List.length_take] at this
  exact ⟨h3, by omega⟩
theorem rd_badT {s T : ByteArray} {b : Bool} {p : Rat} {i : Nat} (hu : unsign s.data.toList = (T.data.toList, b)) (hs : slash T.data.toList = some (T.data.toList.take i, T.data.toList.drop (i + 1))) (hp : s = rs p) (h : ¬ (Dig (T.extract (i + 1) T.size).data.toList ∧ 0 < (T.extract (i + 1) T.size).size ∧ dec (T.extract (i + 1) T.size).data.toList ≠ 0)) : False := by
  obtain ⟨_, h2, _, _, h3, h4⟩ := nr_sl (rs_iff.1 hp) hu hs
  have hsz : T.data.toList.length = T.size := (Lib.size_eq T).symm
  apply h
  have hd := p.den_nz
  rw [ext_list, List.take_of_length_le (by omega), ext_size']
  have := List.length_pos_iff.2 h4
  rw [List.length_drop] at this
  exact ⟨h3, by omega, by omega⟩
end Go.Big
namespace Go.Proofs.YtekghemhccfhkaaGreatDoor
open Go.RowKit Go.Big
theorem nrat_cells {w : World} {b : Bool} {ao ao' : Option Addr} {k cap k' cap' : Nat} {q : Rat} (h : NRat w (.agg #[.bool b, .slice ao k cap, .bool false, .slice ao' k' cap']) q) : b = decide (q.num < 0) ∧ NatV w .u32 B32 (.slice ao k cap) q.num.natAbs ∧ NatV w .u32 B32 (.slice ao' k' cap') (dn q.den) := by
  obtain ⟨_, _, _, _, _, _, _, e, h0, h1, h2⟩ := h.op
  cases e
  exact ⟨h0, h1, h2⟩
/-- Lowest terms are the smallest ones. -/
theorem low_le {q : Rat} {n d : Int} (hd : 0 < d) (h : q.num * d = n * q.den) : q.num.natAbs ≤ n.natAbs ∧ (q.den : Int) ≤ d := by
  obtain ⟨h1, h2⟩ := frac_parts hd h
  constructor
  · rw [h1, Int.natAbs_tdiv]; exact Nat.div_le_self _ _
  · have : q.den ≤ d.natAbs := by
      have e : ((q.den : Nat) : Int).natAbs = q.den := Int.natAbs_natCast _
      rw [← e, h2, Int.natAbs_tdiv]; exact Nat.div_le_self _ _
    omega
theorem nrat_int {w : World} {b : Bool} {ao : Option Addr} {k cap : Nat} {n : Int} (hb : b = decide (n < 0)) (h : NatV w .u32 B32 (.slice ao k cap) n.natAbs) : NRat w (.agg #[.bool b, .slice ao k cap, .bool false, .slice none 0 0]) (n : Rat) :=
  ⟨ao, k, cap, none, 0, 0, by rw [Rat.num_intCast, hb], by rw [Rat.num_intCast]; exact h, by rw [Rat.den_intCast]; exact mag_nil _⟩
theorem rd_allN {s T : ByteArray} {b : Bool} {n : Int} {Q : Rat} (hu : unsign s.data.toList = (T.data.toList, b)) (hs : slash T.data.toList = none) (hn : n = (dec T.data.toList : Nat)) (hQ : ((signed b n.natAbs : Int) : Rat) = Q) : ∀ p, s = rs p → p = Q := by
  intro p hp
  obtain ⟨h1, h2, _, _⟩ := nr_none (rs_iff.1 hp) hu hs
  rw [hn, Int.natAbs_natCast] at hQ
  rw [← hQ, ← h2]
  exact Rat.ext (by rw [Rat.num_intCast]) (by rw [Rat.den_intCast, h1])
theorem rd_sizeN {T : ByteArray} {b : Bool} {n : Int} {Q : Rat} (hd : Dig T.data.toList) (hn : n = (dec T.data.toList : Nat)) (hQ : ((signed b n.natAbs : Int) : Rat) = Q) (hsz : T.data.toList.length ≤ T.size) : Q.num.natAbs < B32 ^ (T.size + 1) ∧ Q.den < B32 ^ (T.size + 1) := by
  have h := dec_b32 hd (n := T.size + 1) (by omega)
  have h1 := one_b32 T.size
  rw [hn, Int.natAbs_natCast] at hQ
  rw [← hQ, Rat.num_intCast, Rat.den_intCast, Go.Big.signed_natAbs]
  exact ⟨h, by omega⟩
theorem rd_allS {s T : ByteArray} {b : Bool} {i : Nat} {n d : Int} {Q : Rat} (hu : unsign s.data.toList = (T.data.toList, b)) (hs : slash T.data.toList = some (T.data.toList.take i, T.data.toList.drop (i + 1))) (hn : n = (dec (T.extract 0 i).data.toList : Nat)) (hd : d = (dec (T.extract (i + 1) T.size).data.toList : Nat)) (hQ : Rat.divInt (signed b n.natAbs) d = Q) : ∀ p, s = rs p → p = Q := by
  intro p hp
  obtain ⟨h1, h2, _, _⟩ := nr_sl (rs_iff.1 hp) hu hs
  have hsz : T.data.toList.length = T.size := (Lib.size_eq T).symm
  rw [ext_list, List.drop_zero] at hn
  rw [ext_list, List.take_of_length_le (by omega)] at hd
  rw [hn, Int.natAbs_natCast, ← h1, hd, ← h2, Rat.num_divInt_den] at hQ
  exact hQ
theorem rd_sizeS {T : ByteArray} {b : Bool} {i : Nat} {n d : Int} {Q : Rat} (h1 : Dig (T.extract 0 i).data.toList) (hn : n = (dec (T.extract 0 i).data.toList : Nat)) (h2 : Dig (T.extract (i + 1) T.size).data.toList) (hd : d = (dec (T.extract (i + 1) T.size).data.toList : Nat)) (hz : d ≠ 0) (hQ : Rat.divInt (signed b n.natAbs) d = Q) (hl : T.size ≤ 10000) (hsz : T.data.toList.length = T.size) :
    (T.size + 1 < 100000 ∧ (signed b n.natAbs).natAbs < B32 ^ (T.size + 1) ∧ d.natAbs < B32 ^ (T.size + 1)) ∧ Q.num.natAbs < B32 ^ (T.size + 1) ∧ Q.den < B32 ^ (T.size + 1) := by
  have g1 := dec_b32 h1 (n := T.size + 1) (by rw [ext_list, List.drop_zero, List.length_take]; omega)
  have g2 := dec_b32 h2 (n := T.size + 1) (by rw [ext_list, List.length_drop, List.length_take]; omega)
  have a1 : (signed b n.natAbs).natAbs < B32 ^ (T.size + 1) := by rw [Go.Big.signed_natAbs, hn, Int.natAbs_natCast]; exact g1
  have a2 : d.natAbs < B32 ^ (T.size + 1) := by rw [hd, Int.natAbs_natCast]; exact g2
  have hx := divInt_cross (n := signed b n.natAbs) hz
  rw [hQ] at hx
  obtain ⟨l1, l2⟩ := low_le (by omega) hx
  exact ⟨⟨by omega, a1, a2⟩, Nat.lt_of_le_of_lt l1 a1, by omega⟩
end Go.Proofs.YtekghemhccfhkaaGreatDoor
namespace Go.Proofs.YtekghemhccfhkaaGreatDoor
open Go.RowKit Go.Big
set_option maxRecDepth 100000 in
set_option maxHeartbeats 4000000 in
/-- Read -/
theorem nread_any (s : ByteArray) (hl : s.size ≤ 10000) (w : World) : Calls Tryz.prog 58 #[.string s] w (fun e w' => NrdPost s w e w' NRat) := by
  obtain ⟨w0, hw0, hb0, k0, hz0⟩ := nbox1 w #[.bool false, .slice none 0 0, .bool false, .slice none 0 0] 32 (cb4 false cb_nil false cb_nil)
  have k0 : N4 w.heap.size false (.slice none 0 0) false (.slice none 0 0) w0 := k0
  have HZ0 := Lib.hid hz0
  have HK := Lib.hid (And.intro k0 hb0)
  have HL := Lib.hid hl
  clear k0 hb0 hz0 hl
  by_cases h0 : 0 < s.size
  · obtain ⟨c, hc⟩ : ∃ c, s[0].toNat = c := ⟨_, rfl⟩
    by_cases h45 : c = 45
    · have HU := Lib.hid (un_yes h0 (hc.trans h45))
      obtain ⟨T, hT⟩ : ∃ T, s.extract 1 s.size = T := ⟨_, rfl⟩
      have HT := Lib.hid hT
      rw [hT] at HU
      subst h45
      have HS : Hid (T.size ≤ 10000 ∧ T.data.toList.length = T.size) := Lib.hid ⟨by first | exact HL.out | (rw [← HT.out, ext_size']; have := HL.out; omega), (Lib.size_eq T).symm⟩
      have hTs := HS.out.1
      go_enter Tryz.func58, Tryz.ntmps58
      go_wp2_with fail
      go_loopw [6, 7] (fun x y wr => w0 = wr ∧ x = .int .i64 T.size ∧ ∃ i : Nat, i ≤ T.size ∧ y = .int .i64 i ∧ Hid (∀ b ∈ T.data.toList.take i, b ≠ 47)) (fun _ y _ => T.size - (intOf y).toNat)
      case atStart => exact ⟨rfl, rfl, 0, by omega, rfl, Lib.hid (fun b hb => by simp at hb)⟩
      case round =>
        obtain ⟨rfl, rfl, i, hi, rfl, HNS⟩ := hrel
        by_cases h : i < T.size
        · have hmem : T[i] = T.data.toList[i]'(by have := HS.out.2; omega) := by simp [ByteArray.getElem_eq_getElem_data]
          have HMEM := Lib.hid hmem
          clear hmem
          by_cases hc : T[i].toNat = 47
          · have HC : Hid (slash T.data.toList = some (T.data.toList.take i, T.data.toList.drop (i + 1)) ∧ i < T.size) := Lib.hid ⟨sl_at HNS.out (by have := HS.out.2; omega) (by rw [← HMEM.out]; exact UInt8.toNat_inj.1 hc), h⟩
            have HFD := Lib.hid (nfromDigits_any (T.extract 0 i) (by have := HS.out.1; rw [ext_size]; omega))
            go_wp2_with fail
            refine (HFD.out _).mono ?_
            rintro e w1 ⟨v1, b1, n1, rfl, hd1, hv1, hn1, hb1⟩
            obtain ⟨nb, na, nk, nc, rfl, e1, h1⟩ := hv1.op
            obtain ⟨w2, hw2, hb2, kN, hz2⟩ := nbox1 w1 #[.bool nb, .slice na nk nc] 30 (cb2 nb (Cb.sl na nk nc))
            have kN : N2 w1.heap.size nb (.slice na nk nc) w2 := kN
            have hb12 := hb1.trans (hb2.mono hb1.size)
            have HKX := Lib.hid (And.intro (HK.out.1.below hb12) (HK.out.2.trans (hb12.mono HK.out.2.size)))
            have HZ2 := Lib.hid hz2
            have HLT := Lib.hid (show w.heap.size < w1.heap.size by have := hb1.size; have := HK.out.2.size; have := HZ0.out; omega)
            have HN1 := Lib.hid (And.intro hd1 (And.intro hn1 (h1.below hb2)))
            clear hv1 e1 h1 hb1 hb2 hb12 hz2 hd1 hn1 HFD
            cases b1 with
            | false =>
              clear kN
              obtain ⟨WW, hWW⟩ : ∃ WW, (((w2.setCell ⟨w.heap.size, 0, none⟩ (.bool false)).setCell ⟨w.heap.size, 1, none⟩ (.slice none 0 0)).setCell ⟨w.heap.size, 2, none⟩ (.bool false)).setCell ⟨w.heap.size, 3, none⟩ (.slice none 0 0) = WW := ⟨_, rfl⟩
              obtain ⟨z0, z1, z2, z3, z4⟩ := ret_rat (w := w) (q := (0 : Rat)) HKX.out.1 rfl (mag_nil _) (mag_nil _) HKX.out.2 (Nat.le_refl _) hWW
              have HZ := Lib.hid z4
              have d0 := HKX.out.1.c0
              have d1 := HKX.out.1.c1
              have d2 := HKX.out.1.c2
              have d3 := HKX.out.1.c3
              have f0 := HKX.out.1.f 0
              have f1 := HKX.out.1.f 1
              have f2 := HKX.out.1.f 2
              have f3 := HKX.out.1.f 3
              clear z4
              go_wp2_with fail
              obtain ⟨v9, e9, n9, b9⟩ := HZ.out
              cases e9
              exact bodyPost_ret (v := .tuple #[.agg #[.bool false, .slice none 0 0, .bool false, .slice none 0 0], .bool false]) (by simp [results, Tryz.results58, go_sem, z0, z1, z2, z3]) rfl ⟨_, _, _, rfl, n9, fun h => (by cases h), fun _ p hp => rd_badS HU.out HC.out.1 hp (fun h => by have := HN1.out.1.2 h; cases this), b9⟩
            | true =>
              have m1 := kN.c1
              have HMK := Lib.hid (make1_any true HN1.out.2.2)
              clear kN
              go_wp2_with fail
              refine HMK.out.mono ?_
              rintro e w3 ⟨v3, rfl, hv3, hb3⟩
              obtain ⟨rb, ra, rk, rc, rfl, e3, h3⟩ := hv3.op
              obtain ⟨wz, hwz, hbz, kZ, hz4⟩ := nbox1 w3 #[.bool rb, .slice ra rk rc, .bool false, .slice none 0 0] 32 (cb4 rb (Cb.sl ra rk rc) false cb_nil)
              have kZ : N4 w3.heap.size rb (.slice ra rk rc) false (.slice none 0 0) wz := kZ
              obtain ⟨w4, hw4⟩ : ∃ W, (wz.setCell ⟨w3.heap.size, 2, none⟩ (.bool false)).setCell ⟨w3.heap.size, 3, none⟩ (.slice none 0 0) = W := ⟨_, rfl⟩
              have kR : N4 w3.heap.size rb (.slice ra rk rc) false (.slice none 0 0) w4 := by rw [← hw4]; exact Bb.set (Bb.set kZ 2 (Cb.bool false)) 3 cb_nil
              have hb4 : Below w3.heap.size w3 w4 := by rw [← hw4]; exact (hbz.setCell (Nat.le_refl _) _).setCell (Nat.le_refl _) _
              have g2 := kZ.c2
              have g3 := kZ.c3
              have q2 := kZ.f 2
              have q3 := kZ.f 3
              have hb34 := hb3.trans (hb4.mono hb3.size)
              have HNE : Hid (w3.heap.size ≠ w.heap.size) := Lib.hid (by have := hb3.size; have := HLT.out; have := HZ2.out; omega)
              have HGE : Hid (w.heap.size ≤ w3.heap.size) := Lib.hid (by have := hb3.size; have := HLT.out; have := HZ2.out; omega)
              have HKX := Lib.hid (And.intro (HKX.out.1.below hb34) (HKX.out.2.trans (hb34.mono HKX.out.2.size)))
              have HKR := Lib.hid kR
              have HE3 := Lib.hid (And.intro e3 (h3.below hb4))
              clear hv3 e3 h3 hb3 hb4 hb34 hz4 kR HMK m1 hbz kZ
              have HFD := Lib.hid (nfromDigits_any (T.extract (i + 1) T.size) (by have := HS.out.1; rw [ext_size']; omega))
              go_wp2_with fail
              refine (HFD.out _).mono ?_
              rintro e w5 ⟨v5, b5, n5, rfl, hd5, hv5, hn5, hb5⟩
              obtain ⟨db, da, dk, dc, rfl, e5, h5⟩ := hv5.op
              obtain ⟨w6, hw6, hb6, kD, hz6⟩ := nbox1 w5 #[.bool db, .slice da dk dc] 30 (cb2 db (Cb.sl da dk dc))
              have kD : N2 w5.heap.size db (.slice da dk dc) w6 := kD
              have hb56 := hb5.trans (hb6.mono hb5.size)
              have HKX := Lib.hid (And.intro (HKX.out.1.below hb56) (HKX.out.2.trans (hb56.mono HKX.out.2.size)))
              have HKR := Lib.hid (HKR.out.below hb56)
              have HE3 := Lib.hid (And.intro HE3.out.1 (HE3.out.2.below hb56))
              have HND := Lib.hid (And.intro hd5 (And.intro hn5 (And.intro e5 (h5.below hb6))))
              have HV5 := Lib.hid (hv5.below hb6)
              have HKD := Lib.hid kD
              clear hv5 e5 h5 hb5 hb6 hb56 hz6 hd5 hn5 HFD
              cases b5 with
              | false =>
                clear kD
                obtain ⟨WW, hWW⟩ : ∃ WW, (((w6.setCell ⟨w.heap.size, 0, none⟩ (.bool false)).setCell ⟨w.heap.size, 1, none⟩ (.slice none 0 0)).setCell ⟨w.heap.size, 2, none⟩ (.bool false)).setCell ⟨w.heap.size, 3, none⟩ (.slice none 0 0) = WW := ⟨_, rfl⟩
                obtain ⟨z0, z1, z2, z3, z4⟩ := ret_rat (w := w) (q := (0 : Rat)) HKX.out.1 rfl (mag_nil _) (mag_nil _) HKX.out.2 (Nat.le_refl _) hWW
                have HZ := Lib.hid z4
                have d0 := HKX.out.1.c0
                have d1 := HKX.out.1.c1
                have d2 := HKX.out.1.c2
                have d3 := HKX.out.1.c3
                have f0 := HKX.out.1.f 0
                have f1 := HKX.out.1.f 1
                have f2 := HKX.out.1.f 2
                have f3 := HKX.out.1.f 3
                clear z4
                go_wp2_with fail
                obtain ⟨v9, e9, n9, b9⟩ := HZ.out
                cases e9
                exact bodyPost_ret (v := .tuple #[.agg #[.bool false, .slice none 0 0, .bool false, .slice none 0 0], .bool false]) (by simp [results, Tryz.results58, go_sem, z0, z1, z2, z3]) rfl ⟨_, _, _, rfl, n9, fun h => (by cases h), fun _ p hp => rd_badT HU.out HC.out.1 hp (fun h => by have := HND.out.1.2 ⟨h.1, h.2.1⟩; cases this), b9⟩
              | true =>
                have m0 := kD.c0
                have m1 := kD.c1
                have HSG := Lib.hid (nsign_any HV5.out)
                by_cases hz : n5 = 0
                · have hsg : n5.sign = 0 := by rw [hz]; rfl
                  have HZN := Lib.hid hz
                  clear kD hz
                  go_wp2_with fail
                  refine HSG.out.mono ?_
                  rintro e w7 ⟨rfl, hb7⟩
                  rw [hsg]
                  have HKX := Lib.hid (And.intro (HKX.out.1.below hb7) (HKX.out.2.trans (hb7.mono HKX.out.2.size)))
                  clear hb7 m0 m1 hsg
                  obtain ⟨WW, hWW⟩ : ∃ WW, (((w7.setCell ⟨w.heap.size, 0, none⟩ (.bool false)).setCell ⟨w.heap.size, 1, none⟩ (.slice none 0 0)).setCell ⟨w.heap.size, 2, none⟩ (.bool false)).setCell ⟨w.heap.size, 3, none⟩ (.slice none 0 0) = WW := ⟨_, rfl⟩
                  obtain ⟨z0, z1, z2, z3, z4⟩ := ret_rat (w := w) (q := (0 : Rat)) HKX.out.1 rfl (mag_nil _) (mag_nil _) HKX.out.2 (Nat.le_refl _) hWW
                  have HZ := Lib.hid z4
                  have d0 := HKX.out.1.c0
                  have d1 := HKX.out.1.c1
                  have d2 := HKX.out.1.c2
                  have d3 := HKX.out.1.c3
                  have f0 := HKX.out.1.f 0
                  have f1 := HKX.out.1.f 1
                  have f2 := HKX.out.1.f 2
                  have f3 := HKX.out.1.f 3
                  clear z4
                  go_wp2_with fail
                  obtain ⟨v9, e9, n9, b9⟩ := HZ.out
                  cases e9
                  exact bodyPost_ret (v := .tuple #[.agg #[.bool false, .slice none 0 0, .bool false, .slice none 0 0], .bool false]) (by simp [results, Tryz.results58, go_sem, z0, z1, z2, z3]) rfl ⟨_, _, _, rfl, n9, fun h => (by cases h), fun _ p hp => rd_badT HU.out HC.out.1 hp (fun h => h.2.2 (by have := HND.out.2.1 (by trivial); have := HZN.out; omega)), b9⟩
                · have hsg : (n5.sign == 0) = false := by rw [beq_eq_false_iff_ne]; exact fun e => hz (Int.sign_eq_zero_iff_zero.1 e)
                  have HZN := Lib.hid hz
                  clear kD hz
                  go_wp2_with fail
                  refine HSG.out.mono ?_
                  rintro e w7 ⟨rfl, hb7⟩
                  generalize n5.sign = sg at hsg
                  have HKX := Lib.hid (And.intro (HKX.out.1.below hb7) (HKX.out.2.trans (hb7.mono HKX.out.2.size)))
                  have HKR := Lib.hid (HKR.out.below hb7)
                  have HKD := Lib.hid (HKD.out.below hb7)
                  have HE3 := Lib.hid (And.intro HE3.out.1 (HE3.out.2.below hb7))
                  have HV5 := Lib.hid (HV5.out.below hb7)
                  clear hb7 m0 m1 HSG
                  obtain ⟨Q, hQ⟩ : ∃ Q : Rat, Rat.divInt (signed true n1.natAbs) n5 = Q := ⟨_, rfl⟩
                  have HALL : Hid (∀ p, s = rs p → p = Q) := Lib.hid (rd_allS HU.out HC.out.1 (HN1.out.2.1 (by trivial)) (HND.out.2.1 (by trivial)) hQ)
                  have HSZ : Hid ((T.size + 1 < 100000 ∧ (signed true n1.natAbs).natAbs < B32 ^ (T.size + 1) ∧ n5.natAbs < B32 ^ (T.size + 1)) ∧ Q.num.natAbs < B32 ^ (T.size + 1) ∧ Q.den < B32 ^ (T.size + 1)) := Lib.hid (rd_sizeS (HN1.out.1.1 (by trivial)).1 (HN1.out.2.1 (by trivial)) (HND.out.1.1 (by trivial)).1 (HND.out.2.1 (by trivial)) HZN.out hQ HS.out.1 HS.out.2)
                  have HFR := Lib.hid (frac_any (K := T.size + 1) (q := Q) (num_of HE3.out.1 HE3.out.2) HV5.out HZN.out HSZ.out.1.1 HSZ.out.1.2.1 HSZ.out.1.2.2 (by rw [← hQ]; exact divInt_cross HZN.out))
                  have y0 := HKR.out.c0
                  have y1 := HKR.out.c1
                  have m0 := HKD.out.c0
                  have m1 := HKD.out.c1
                  clear hQ HE3
                  go_wp2_with fail
                  refine HFR.out.mono ?_
                  rintro e w8 ⟨v8, rfl, hv8, hb8⟩
                  obtain ⟨qb, qa, qk, qc, pa, pk, pc, rfl, e8, h8, i8⟩ := hv8.op
                  have k0 := HKX.out.1.below hb8
                  have kR := HKR.out.below hb8
                  have hs := HKX.out.2.trans (hb8.mono HKX.out.2.size)
                  obtain ⟨WW, hWW⟩ : ∃ WW, (((w8.setCell ⟨w3.heap.size, 0, none⟩ (.bool qb)).setCell ⟨w3.heap.size, 1, none⟩ (.slice qa qk qc)).setCell ⟨w3.heap.size, 2, none⟩ (.bool false)).setCell ⟨w3.heap.size, 3, none⟩ (.slice pa pk pc) = WW := ⟨_, rfl⟩
                  obtain ⟨_, _, _, _, v0, hv0, n9, hbW⟩ := ret_rat (w := w) (q := Q) kR e8 h8 i8 hs HGE.out hWW
                  cases hv0
                  have HKX := Lib.hid (show N4 w.heap.size false (.slice none 0 0) false (.slice none 0 0) WW ∧ Below w.heap.size w WW from ⟨by rw [← hWW]; exact k0.o4 HNE.out.symm _ _ _ _, hbW⟩)
                  have HKR : Hid (N4 w3.heap.size qb (.slice qa qk qc) false (.slice pa pk pc) WW) := Lib.hid (by rw [← hWW]; exact kR.st qb (Cb.sl qa qk qc) false (Cb.sl pa pk pc))
                  have HR := Lib.hid (And.intro n9 (And.intro HSZ.out.1.1 HSZ.out.2))
                  have d0 := kR.c0
                  have d1 := kR.c1
                  have d2 := kR.c2
                  have d3 := kR.c3
                  have f0 := kR.f 0
                  have f1 := kR.f 1
                  have f2 := kR.f 2
                  have f3 := kR.f 3
                  clear k0 kR hs n9 hbW e8 h8 i8 hv8 hb8 m0 m1 y0 y1 HFR
                  have kR : N4 w3.heap.size qb (.slice qa qk qc) false (.slice pa pk pc) WW.drew := HKR.out
                  have k0 : N4 w.heap.size false (.slice none 0 0) false (.slice none 0 0) WW.drew := HKX.out.1
                  have hc : Below WW.heap.size WW WW.drew := (Below.refl _ _).drew
                  have hs : Below w.heap.size w WW.drew := HKX.out.2.drew
                  have y0 := HKR.out.c0
                  have y1 := HKR.out.c1
                  have y2 := HKR.out.c2
                  have y3 := HKR.out.c3
                  go_wp2_with fail
                  go_region_held3 (fun w' => w'.cell? ⟨w3.heap.size, 0, none⟩ = some (.bool qb) ∧ w'.cell? ⟨w3.heap.size, 1, none⟩ = some (.slice qa qk qc) ∧ w'.cell? ⟨w3.heap.size, 2, none⟩ = some (.bool false) ∧ w'.cell? ⟨w3.heap.size, 3, none⟩ = some (.slice pa pk pc) ∧ Below w.heap.size w w') (first | (with_reducible exact ⟨kR.c0, kR.c1, kR.c2, kR.c3, hs⟩) | (with_reducible exact ⟨(kR.o4 HNE.out _ _ _ _).c0, (kR.o4 HNE.out _ _ _ _).c1, (kR.o4 HNE.out _ _ _ _).c2, (kR.o4 HNE.out _ _ _ _).c3, hs.sn4 (Nat.le_refl _) _ _ _ _⟩) | fail) (first | (go_at_call 19; (with_reducible refine (ntext_any (HR.out.1.below hc) HR.out.2.1 HR.out.2.2.1 HR.out.2.2.2).mono ?_); rintro e wT ⟨rfl, hbT⟩; have kR := kR.below hbT; have k0 := k0.below hbT; have hs := hs.trans (hbT.mono hs.size); have hc := hc.trans (hbT.mono hc.size); have d0 := k0.c0; have f0 := k0.f 0; have d1 := k0.c1; have f1 := k0.f 1; have d2 := k0.c2; have f2 := k0.f 2; have d3 := k0.c3; have f3 := k0.f 3) | fail)
                  obtain ⟨WW, hWW⟩ : ∃ WW, (((wT.setCell ⟨w.heap.size, 0, none⟩ (.bool qb)).setCell ⟨w.heap.size, 1, none⟩ (.slice qa qk qc)).setCell ⟨w.heap.size, 2, none⟩ (.bool false)).setCell ⟨w.heap.size, 3, none⟩ (.slice pa pk pc) = WW := ⟨_, rfl⟩
                  rw [hWW]
                  obtain ⟨hx0, hx1, hx2⟩ := nrat_cells (HR.out.1.below hc)
                  obtain ⟨z0, z1, z2, z3, z4⟩ := ret_rat (q := Q) k0 hx0 hx1 hx2 hs (Nat.le_refl _) hWW
                  have HZ := Lib.hid z4
                  clear hs hc hWW z4 k0 kR d0 d1 d2 d3 f0 f1 f2 f3
                  go_wp2_with fail
                  obtain ⟨v9, e9, n9, b9⟩ := HZ.out
                  cases e9
                  obtain ⟨p1, p2⟩ := nrd_fin (s := s) (q := Q) rfl HALL.out
                  exact bodyPost_ret (v := .tuple #[.agg #[.bool qb, .slice qa qk qc, .bool false, .slice pa pk pc], .bool ((rs Q).toList == s.toList)]) (by simp [results, Tryz.results58, go_sem, z0, z1, z2, z3]) rfl ⟨_, _, _, rfl, n9, p1, p2, b9⟩
          · go_wp2_with fail
            go_roundw
            case rel => exact ⟨by first | rfl | trivial, by first | rfl | trivial, i + 1, by omega, by go_num, Lib.hid (by
              intro b hb
              rw [List.take_succ_eq_append_getElem (by have := HS.out.2; omega), ← HMEM.out] at hb
              rcases List.mem_append.1 hb with h1 | h1
              · exact HNS.out b h1
              · rw [List.mem_singleton.1 h1]; exact fun e => hc (by rw [e]; rfl))⟩
            case measure => simp [intOf]; omega
        · have he : i = T.size := by omega
          have HC : Hid (slash T.data.toList = none ∧ True) := Lib.hid ⟨slash_none (by have := HNS.out; rwa [List.take_of_length_le (by have := HS.out.2; omega)] at this), trivial⟩
          subst he
          have HFD := Lib.hid (nfromDigits_any T (by have := HS.out.1; omega))
          go_wp2_with fail
          refine (HFD.out _).mono ?_
          rintro e w1 ⟨v1, b1, n1, rfl, hd1, hv1, hn1, hb1⟩
          obtain ⟨nb, na, nk, nc, rfl, e1, h1⟩ := hv1.op
          obtain ⟨w2, hw2, hb2, kN, hz2⟩ := nbox1 w1 #[.bool nb, .slice na nk nc] 30 (cb2 nb (Cb.sl na nk nc))
          have kN : N2 w1.heap.size nb (.slice na nk nc) w2 := kN
          have hb12 := hb1.trans (hb2.mono hb1.size)
          have HKX := Lib.hid (And.intro (HK.out.1.below hb12) (HK.out.2.trans (hb12.mono HK.out.2.size)))
          have HZ2 := Lib.hid hz2
          have HLT := Lib.hid (show w.heap.size < w1.heap.size by have := hb1.size; have := HK.out.2.size; have := HZ0.out; omega)
          have HN1 := Lib.hid (And.intro hd1 (And.intro hn1 (h1.below hb2)))
          clear hv1 e1 h1 hb1 hb2 hb12 hz2 hd1 hn1 HFD
          cases b1 with
          | false =>
            clear kN
            obtain ⟨WW, hWW⟩ : ∃ WW, (((w2.setCell ⟨w.heap.size, 0, none⟩ (.bool false)).setCell ⟨w.heap.size, 1, none⟩ (.slice none 0 0)).setCell ⟨w.heap.size, 2, none⟩ (.bool false)).setCell ⟨w.heap.size, 3, none⟩ (.slice none 0 0) = WW := ⟨_, rfl⟩
            obtain ⟨z0, z1, z2, z3, z4⟩ := ret_rat (w := w) (q := (0 : Rat)) HKX.out.1 rfl (mag_nil _) (mag_nil _) HKX.out.2 (Nat.le_refl _) hWW
            have HZ := Lib.hid z4
            have d0 := HKX.out.1.c0
            have d1 := HKX.out.1.c1
            have d2 := HKX.out.1.c2
            have d3 := HKX.out.1.c3
            have f0 := HKX.out.1.f 0
            have f1 := HKX.out.1.f 1
            have f2 := HKX.out.1.f 2
            have f3 := HKX.out.1.f 3
            clear z4
            go_wp2_with fail
            obtain ⟨v9, e9, n9, b9⟩ := HZ.out
            cases e9
            exact bodyPost_ret (v := .tuple #[.agg #[.bool false, .slice none 0 0, .bool false, .slice none 0 0], .bool false]) (by simp [results, Tryz.results58, go_sem, z0, z1, z2, z3]) rfl ⟨_, _, _, rfl, n9, fun h => (by cases h), fun _ p hp => rd_badN HU.out HC.out.1 hp (fun h => by have := HN1.out.1.2 h; cases this), b9⟩
          | true =>
            have m1 := kN.c1
            have HMK := Lib.hid (make1_any true HN1.out.2.2)
            clear kN
            go_wp2_with fail
            refine HMK.out.mono ?_
            rintro e w3 ⟨v3, rfl, hv3, hb3⟩
            obtain ⟨rb, ra, rk, rc, rfl, e3, h3⟩ := hv3.op
            obtain ⟨wz, hwz, hbz, kZ, hz4⟩ := nbox1 w3 #[.bool rb, .slice ra rk rc, .bool false, .slice none 0 0] 32 (cb4 rb (Cb.sl ra rk rc) false cb_nil)
            have kZ : N4 w3.heap.size rb (.slice ra rk rc) false (.slice none 0 0) wz := kZ
            obtain ⟨w4, hw4⟩ : ∃ W, (wz.setCell ⟨w3.heap.size, 2, none⟩ (.bool false)).setCell ⟨w3.heap.size, 3, none⟩ (.slice none 0 0) = W := ⟨_, rfl⟩
            have kR : N4 w3.heap.size rb (.slice ra rk rc) false (.slice none 0 0) w4 := by rw [← hw4]; exact Bb.set (Bb.set kZ 2 (Cb.bool false)) 3 cb_nil
            have hb4 : Below w3.heap.size w3 w4 := by rw [← hw4]; exact (hbz.setCell (Nat.le_refl _) _).setCell (Nat.le_refl _) _
            have g2 := kZ.c2
            have g3 := kZ.c3
            have q2 := kZ.f 2
            have q3 := kZ.f 3
            have hb34 := hb3.trans (hb4.mono hb3.size)
            have HNE : Hid (w3.heap.size ≠ w.heap.size) := Lib.hid (by have := hb3.size; have := HLT.out; have := HZ2.out; omega)
            have HGE : Hid (w.heap.size ≤ w3.heap.size) := Lib.hid (by have := hb3.size; have := HLT.out; have := HZ2.out; omega)
            have HKX := Lib.hid (And.intro (HKX.out.1.below hb34) (HKX.out.2.trans (hb34.mono HKX.out.2.size)))
            have HKR := Lib.hid kR
            have HE3 := Lib.hid (And.intro e3 (h3.below hb4))
            clear hv3 e3 h3 hb3 hb4 hb34 hz4 kR HMK m1 hbz kZ
            obtain ⟨Q, hQ⟩ : ∃ Q : Rat, ((signed true n1.natAbs : Int) : Rat) = Q := ⟨_, rfl⟩
            have HALL : Hid (∀ p, s = rs p → p = Q) := Lib.hid (rd_allN HU.out HC.out.1 (HN1.out.2.1 (by trivial)) hQ)
            have HR : Hid (NRat w4 (.agg #[.bool rb, .slice ra rk rc, .bool false, .slice none 0 0]) Q ∧ T.size + 1 < 100000 ∧ Q.num.natAbs < B32 ^ (T.size + 1) ∧ Q.den < B32 ^ (T.size + 1)) := Lib.hid (by
              have hs := rd_sizeN (HN1.out.1.1 (by trivial)).1 (HN1.out.2.1 (by trivial)) hQ (by have := HS.out.2; omega)
              exact ⟨by rw [← hQ]; exact nrat_int HE3.out.1 HE3.out.2, by have := HS.out.1; omega, hs.1, hs.2⟩)
            clear hQ HE3 HN1
            have kR : N4 w3.heap.size rb (.slice ra rk rc) false (.slice none 0 0) w4.drew := HKR.out
            have k0 : N4 w.heap.size false (.slice none 0 0) false (.slice none 0 0) w4.drew := HKX.out.1
            have hc : Below w4.heap.size w4 w4.drew := (Below.refl _ _).drew
            have hs : Below w.heap.size w w4.drew := HKX.out.2.drew
            have y0 := HKR.out.c0
            have y1 := HKR.out.c1
            have y2 := HKR.out.c2
            have y3 := HKR.out.c3
            go_wp2_with fail
            go_region_held3 (fun w' => w'.cell? ⟨w3.heap.size, 0, none⟩ = some (.bool rb) ∧ w'.cell? ⟨w3.heap.size, 1, none⟩ = some (.slice ra rk rc) ∧ w'.cell? ⟨w3.heap.size, 2, none⟩ = some (.bool false) ∧ w'.cell? ⟨w3.heap.size, 3, none⟩ = some (.slice none 0 0) ∧ Below w.heap.size w w') (first | (with_reducible exact ⟨kR.c0, kR.c1, kR.c2, kR.c3, hs⟩) | (with_reducible exact ⟨(kR.o4 HNE.out _ _ _ _).c0, (kR.o4 HNE.out _ _ _ _).c1, (kR.o4 HNE.out _ _ _ _).c2, (kR.o4 HNE.out _ _ _ _).c3, hs.sn4 (Nat.le_refl _) _ _ _ _⟩) | fail) (first | (go_at_call 19; (with_reducible refine (ntext_any (HR.out.1.below hc) HR.out.2.1 HR.out.2.2.1 HR.out.2.2.2).mono ?_); rintro e wT ⟨rfl, hbT⟩; have kR := kR.below hbT; have k0 := k0.below hbT; have hs := hs.trans (hbT.mono hs.size); have hc := hc.trans (hbT.mono hc.size); have d0 := k0.c0; have f0 := k0.f 0; have d1 := k0.c1; have f1 := k0.f 1; have d2 := k0.c2; have f2 := k0.f 2; have d3 := k0.c3; have f3 := k0.f 3) | fail)
            obtain ⟨WW, hWW⟩ : ∃ WW, (((wT.setCell ⟨w.heap.size, 0, none⟩ (.bool rb)).setCell ⟨w.heap.size, 1, none⟩ (.slice ra rk rc)).setCell ⟨w.heap.size, 2, none⟩ (.bool false)).setCell ⟨w.heap.size, 3, none⟩ (.slice none 0 0) = WW := ⟨_, rfl⟩
            rw [hWW]
            obtain ⟨hx0, hx1, hx2⟩ := nrat_cells (HR.out.1.below hc)
            obtain ⟨z0, z1, z2, z3, z4⟩ := ret_rat (q := Q) k0 hx0 hx1 hx2 hs (Nat.le_refl _) hWW
            have HZ := Lib.hid z4
            clear hs hc hWW z4 k0 kR d0 d1 d2 d3 f0 f1 f2 f3
            go_wp2_with fail
            obtain ⟨v9, e9, n9, b9⟩ := HZ.out
            cases e9
            obtain ⟨p1, p2⟩ := nrd_fin (s := s) (q := Q) rfl HALL.out
            exact bodyPost_ret (v := .tuple #[.agg #[.bool rb, .slice ra rk rc, .bool false, .slice none 0 0], .bool ((rs Q).toList == s.toList)]) (by simp [results, Tryz.results58, go_sem, z0, z1, z2, z3]) rfl ⟨_, _, _, rfl, n9, p1, p2, b9⟩
    · have HU := Lib.hid (un_no h0 (fun e => h45 (hc.symm.trans e)))
      have HS : Hid (s.size ≤ 10000 ∧ s.data.toList.length = s.size) := Lib.hid ⟨by first | exact HL.out | (rw [← HT.out, ext_size']; have := HL.out; omega), (Lib.size_eq s).symm⟩
      have hTs := HS.out.1
      go_enter Tryz.func58, Tryz.ntmps58
      go_wp2_with fail
      go_loopw [6, 7] (fun x y wr => w0 = wr ∧ x = .int .i64 s.size ∧ ∃ i : Nat, i ≤ s.size ∧ y = .int .i64 i ∧ Hid (∀ b ∈ s.data.toList.take i, b ≠ 47)) (fun _ y _ => s.size - (intOf y).toNat)
      case atStart => exact ⟨rfl, rfl, 0, by omega, rfl, Lib.hid (fun b hb => by simp at hb)⟩
      case round =>
        obtain ⟨rfl, rfl, i, hi, rfl, HNS⟩ := hrel
        by_cases h : i < s.size
        · have hmem : s[i] = s.data.toList[i]'(by have := HS.out.2; omega) := by simp [ByteArray.getElem_eq_getElem_data]
          have HMEM := Lib.hid hmem
          clear hmem
          by_cases hc : s[i].toNat = 47
          · have HC : Hid (slash s.data.toList = some (s.data.toList.take i, s.data.toList.drop (i + 1)) ∧ i < s.size) := Lib.hid ⟨sl_at HNS.out (by have := HS.out.2; omega) (by rw [← HMEM.out]; exact UInt8.toNat_inj.1 hc), h⟩
            have HFD := Lib.hid (nfromDigits_any (s.extract 0 i) (by have := HS.out.1; rw [ext_size]; omega))
            go_wp2_with fail
            refine (HFD.out _).mono ?_
            rintro e w1 ⟨v1, b1, n1, rfl, hd1, hv1, hn1, hb1⟩
            obtain ⟨nb, na, nk, nc, rfl, e1, h1⟩ := hv1.op
            obtain ⟨w2, hw2, hb2, kN, hz2⟩ := nbox1 w1 #[.bool nb, .slice na nk nc] 30 (cb2 nb (Cb.sl na nk nc))
            have kN : N2 w1.heap.size nb (.slice na nk nc) w2 := kN
            have hb12 := hb1.trans (hb2.mono hb1.size)
            have HKX := Lib.hid (And.intro (HK.out.1.below hb12) (HK.out.2.trans (hb12.mono HK.out.2.size)))
            have HZ2 := Lib.hid hz2
            have HLT := Lib.hid (show w.heap.size < w1.heap.size by have := hb1.size; have := HK.out.2.size; have := HZ0.out; omega)
            have HN1 := Lib.hid (And.intro hd1 (And.intro hn1 (h1.below hb2)))
            clear hv1 e1 h1 hb1 hb2 hb12 hz2 hd1 hn1 HFD
            cases b1 with
            | false =>
              clear kN
              obtain ⟨WW, hWW⟩ : ∃ WW, (((w2.setCell ⟨w.heap.size, 0, none⟩ (.bool false)).setCell ⟨w.heap.size, 1, none⟩ (.slice none 0 0)).setCell ⟨w.heap.size, 2, none⟩ (.bool false)).setCell ⟨w.heap.size, 3, none⟩ (.slice none 0 0) = WW := ⟨_, rfl⟩
              obtain ⟨z0, z1, z2, z3, z4⟩ := ret_rat (w := w) (q := (0 : Rat)) HKX.out.1 rfl (mag_nil _) (mag_nil _) HKX.out.2 (Nat.le_refl _) hWW
              have HZ := Lib.hid z4
              have d0 := HKX.out.1.c0
              have d1 := HKX.out.1.c1
              have d2 := HKX.out.1.c2
              have d3 := HKX.out.1.c3
              have f0 := HKX.out.1.f 0
              have f1 := HKX.out.1.f 1
              have f2 := HKX.out.1.f 2
              have f3 := HKX.out.1.f 3
              clear z4
              go_wp2_with fail
              obtain ⟨v9, e9, n9, b9⟩ := HZ.out
              cases e9
              exact bodyPost_ret (v := .tuple #[.agg #[.bool false, .slice none 0 0, .bool false, .slice none 0 0], .bool false]) (by simp [results, Tryz.results58, go_sem, z0, z1, z2, z3]) rfl ⟨_, _, _, rfl, n9, fun h => (by cases h), fun _ p hp => rd_badS HU.out HC.out.1 hp (fun h => by have := HN1.out.1.2 h; cases this), b9⟩
            | true =>
              have m1 := kN.c1
              have HMK := Lib.hid (make1_any false HN1.out.2.2)
              clear kN
              go_wp2_with fail
              refine HMK.out.mono ?_
              rintro e w3 ⟨v3, rfl, hv3, hb3⟩
              obtain ⟨rb, ra, rk, rc, rfl, e3, h3⟩ := hv3.op
              obtain ⟨wz, hwz, hbz, kZ, hz4⟩ := nbox1 w3 #[.bool rb, .slice ra rk rc, .bool false, .slice none 0 0] 32 (cb4 rb (Cb.sl ra rk rc) false cb_nil)
              have kZ : N4 w3.heap.size rb (.slice ra rk rc) false (.slice none 0 0) wz := kZ
              obtain ⟨w4, hw4⟩ : ∃ W, (wz.setCell ⟨w3.heap.size, 2, none⟩ (.bool false)).setCell ⟨w3.heap.size, 3, none⟩ (.slice none 0 0) = W := ⟨_, rfl⟩
              have kR : N4 w3.heap.size rb (.slice ra rk rc) false (.slice none 0 0) w4 := by rw [← hw4]; exact Bb.set (Bb.set kZ 2 (Cb.bool false)) 3 cb_nil
              have hb4 : Below w3.heap.size w3 w4 := by rw [← hw4]; exact (hbz.setCell (Nat.le_refl _) _).setCell (Nat.le_refl _) _
              have g2 := kZ.c2
              have g3 := kZ.c3
              have q2 := kZ.f 2
              have q3 := kZ.f 3
              have hb34 := hb3.trans (hb4.mono hb3.size)
              have HNE : Hid (w3.heap.size ≠ w.heap.size) := Lib.hid (by have := hb3.size; have := HLT.out; have := HZ2.out; omega)
              have HGE : Hid (w.heap.size ≤ w3.heap.size) := Lib.hid (by have := hb3.size; have := HLT.out; have := HZ2.out; omega)
              have HKX := Lib.hid (And.intro (HKX.out.1.below hb34) (HKX.out.2.trans (hb34.mono HKX.out.2.size)))
              have HKR := Lib.hid kR
              have HE3 := Lib.hid (And.intro e3 (h3.below hb4))
              clear hv3 e3 h3 hb3 hb4 hb34 hz4 kR HMK m1 hbz kZ
              have HFD := Lib.hid (nfromDigits_any (s.extract (i + 1) s.size) (by have := HS.out.1; rw [ext_size']; omega))
              go_wp2_with fail
              refine (HFD.out _).mono ?_
              rintro e w5 ⟨v5, b5, n5, rfl, hd5, hv5, hn5, hb5⟩
              obtain ⟨db, da, dk, dc, rfl, e5, h5⟩ := hv5.op
              obtain ⟨w6, hw6, hb6, kD, hz6⟩ := nbox1 w5 #[.bool db, .slice da dk dc] 30 (cb2 db (Cb.sl da dk dc))
              have kD : N2 w5.heap.size db (.slice da dk dc) w6 := kD
              have hb56 := hb5.trans (hb6.mono hb5.size)
              have HKX := Lib.hid (And.intro (HKX.out.1.below hb56) (HKX.out.2.trans (hb56.mono HKX.out.2.size)))
              have HKR := Lib.hid (HKR.out.below hb56)
              have HE3 := Lib.hid (And.intro HE3.out.1 (HE3.out.2.below hb56))
              have HND := Lib.hid (And.intro hd5 (And.intro hn5 (And.intro e5 (h5.below hb6))))
              have HV5 := Lib.hid (hv5.below hb6)
              have HKD := Lib.hid kD
              clear hv5 e5 h5 hb5 hb6 hb56 hz6 hd5 hn5 HFD
              cases b5 with
              | false =>
                clear kD
                obtain ⟨WW, hWW⟩ : ∃ WW, (((w6.setCell ⟨w.heap.size, 0, none⟩ (.bool false)).setCell ⟨w.heap.size, 1, none⟩ (.slice none 0 0)).setCell ⟨w.heap.size, 2, none⟩ (.bool false)).setCell ⟨w.heap.size, 3, none⟩ (.slice none 0 0) = WW := ⟨_, rfl⟩
                obtain ⟨z0, z1, z2, z3, z4⟩ := ret_rat (w := w) (q := (0 : Rat)) HKX.out.1 rfl (mag_nil _) (mag_nil _) HKX.out.2 (Nat.le_refl _) hWW
                have HZ := Lib.hid z4
                have d0 := HKX.out.1.c0
                have d1 := HKX.out.1.c1
                have d2 := HKX.out.1.c2
                have d3 := HKX.out.1.c3
                have f0 := HKX.out.1.f 0
                have f1 := HKX.out.1.f 1
                have f2 := HKX.out.1.f 2
                have f3 := HKX.out.1.f 3
                clear z4
                go_wp2_with fail
                obtain ⟨v9, e9, n9, b9⟩ := HZ.out
                cases e9
                exact bodyPost_ret (v := .tuple #[.agg #[.bool false, .slice none 0 0, .bool false, .slice none 0 0], .bool false]) (by simp [results, Tryz.results58, go_sem, z0, z1, z2, z3]) rfl ⟨_, _, _, rfl, n9, fun h => (by cases h), fun _ p hp => rd_badT HU.out HC.out.1 hp (fun h => by have := HND.out.1.2 ⟨h.1, h.2.1⟩; cases this), b9⟩
              | true =>
                have m0 := kD.c0
                have m1 := kD.c1
                have HSG := Lib.hid (nsign_any HV5.out)
                by_cases hz : n5 = 0
                · have hsg : n5.sign = 0 := by rw [hz]; rfl
                  have HZN := Lib.hid hz
                  clear kD hz
                  go_wp2_with fail
                  refine HSG.out.mono ?_
                  rintro e w7 ⟨rfl, hb7⟩
                  rw [hsg]
                  have HKX := Lib.hid (And.intro (HKX.out.1.below hb7) (HKX.out.2.trans (hb7.mono HKX.out.2.size)))
                  clear hb7 m0 m1 hsg
                  obtain ⟨WW, hWW⟩ : ∃ WW, (((w7.setCell ⟨w.heap.size, 0, none⟩ (.bool false)).setCell ⟨w.heap.size, 1, none⟩ (.slice none 0 0)).setCell ⟨w.heap.size, 2, none⟩ (.bool false)).setCell ⟨w.heap.size, 3, none⟩ (.slice none 0 0) = WW := ⟨_, rfl⟩
                  obtain ⟨z0, z1, z2, z3, z4⟩ := ret_rat (w := w) (q := (0 : Rat)) HKX.out.1 rfl (mag_nil _) (mag_nil _) HKX.out.2 (Nat.le_refl _) hWW
                  have HZ := Lib.hid z4
                  have d0 := HKX.out.1.c0
                  have d1 := HKX.out.1.c1
                  have d2 := HKX.out.1.c2
                  have d3 := HKX.out.1.c3
                  have f0 := HKX.out.1.f 0
                  have f1 := HKX.out.1.f 1
                  have f2 := HKX.out.1.f 2
                  have f3 := HKX.out.1.f 3
                  clear z4
                  go_wp2_with fail
                  obtain ⟨v9, e9, n9, b9⟩ := HZ.out
                  cases e9
                  exact bodyPost_ret (v := .tuple #[.agg #[.bool false, .slice none 0 0, .bool false, .slice none 0 0], .bool false]) (by simp [results, Tryz.results58, go_sem, z0, z1, z2, z3]) rfl ⟨_, _, _, rfl, n9, fun h => (by cases h), fun _ p hp => rd_badT HU.out HC.out.1 hp (fun h => h.2.2 (by have := HND.out.2.1 (by trivial); have := HZN.out; omega)), b9⟩
                · have hsg : (n5.sign == 0) = false := by rw [beq_eq_false_iff_ne]; exact fun e => hz (Int.sign_eq_zero_iff_zero.1 e)
                  have HZN := Lib.hid hz
                  clear kD hz
                  go_wp2_with fail
                  refine HSG.out.mono ?_
                  rintro e w7 ⟨rfl, hb7⟩
                  generalize n5.sign = sg at hsg
                  have HKX := Lib.hid (And.intro (HKX.out.1.below hb7) (HKX.out.2.trans (hb7.mono HKX.out.2.size)))
                  have HKR := Lib.hid (HKR.out.below hb7)
                  have HKD := Lib.hid (HKD.out.below hb7)
                  have HE3 := Lib.hid (And.intro HE3.out.1 (HE3.out.2.below hb7))
                  have HV5 := Lib.hid (HV5.out.below hb7)
                  clear hb7 m0 m1 HSG
                  obtain ⟨Q, hQ⟩ : ∃ Q : Rat, Rat.divInt (signed false n1.natAbs) n5 = Q := ⟨_, rfl⟩
                  have HALL : Hid (∀ p, s = rs p → p = Q) := Lib.hid (rd_allS HU.out HC.out.1 (HN1.out.2.1 (by trivial)) (HND.out.2.1 (by trivial)) hQ)
                  have HSZ : Hid ((s.size + 1 < 100000 ∧ (signed false n1.natAbs).natAbs < B32 ^ (s.size + 1) ∧ n5.natAbs < B32 ^ (s.size + 1)) ∧ Q.num.natAbs < B32 ^ (s.size + 1) ∧ Q.den < B32 ^ (s.size + 1)) := Lib.hid (rd_sizeS (HN1.out.1.1 (by trivial)).1 (HN1.out.2.1 (by trivial)) (HND.out.1.1 (by trivial)).1 (HND.out.2.1 (by trivial)) HZN.out hQ HS.out.1 HS.out.2)
                  have HFR := Lib.hid (frac_any (K := s.size + 1) (q := Q) (num_of HE3.out.1 HE3.out.2) HV5.out HZN.out HSZ.out.1.1 HSZ.out.1.2.1 HSZ.out.1.2.2 (by rw [← hQ]; exact divInt_cross HZN.out))
                  have y0 := HKR.out.c0
                  have y1 := HKR.out.c1
                  have m0 := HKD.out.c0
                  have m1 := HKD.out.c1
                  clear hQ HE3
                  go_wp2_with fail
                  refine HFR.out.mono ?_
                  rintro e w8 ⟨v8, rfl, hv8, hb8⟩
                  obtain ⟨qb, qa, qk, qc, pa, pk, pc, rfl, e8, h8, i8⟩ := hv8.op
                  have k0 := HKX.out.1.below hb8
                  have kR := HKR.out.below hb8
                  have hs := HKX.out.2.trans (hb8.mono HKX.out.2.size)
                  obtain ⟨WW, hWW⟩ : ∃ WW, (((w8.setCell ⟨w3.heap.size, 0, none⟩ (.bool qb)).setCell ⟨w3.heap.size, 1, none⟩ (.slice qa qk qc)).setCell ⟨w3.heap.size, 2, none⟩ (.bool false)).setCell ⟨w3.heap.size, 3, none⟩ (.slice pa pk pc) = WW := ⟨_, rfl⟩
                  obtain ⟨_, _, _, _, v0, hv0, n9, hbW⟩ := ret_rat (w := w) (q := Q) kR e8 h8 i8 hs HGE.out hWW
                  cases hv0
                  have HKX := Lib.hid (show N4 w.heap.size false (.slice none 0 0) false (.slice none 0 0) WW ∧ Below w.heap.size w WW from ⟨by rw [← hWW]; exact k0.o4 HNE.out.symm _ _ _ _, hbW⟩)
                  have HKR : Hid (N4 w3.heap.size qb (.slice qa qk qc) false (.slice pa pk pc) WW) := Lib.hid (by rw [← hWW]; exact kR.st qb (Cb.sl qa qk qc) false (Cb.sl pa pk pc))
                  have HR := Lib.hid (And.intro n9 (And.intro HSZ.out.1.1 HSZ.out.2))
                  have d0 := kR.c0
                  have d1 := kR.c1
                  have d2 := kR.c2
                  have d3 := kR.c3
                  have f0 := kR.f 0
                  have f1 := kR.f 1
                  have f2 := kR.f 2
                  have f3 := kR.f 3
                  clear k0 kR hs n9 hbW e8 h8 i8 hv8 hb8 m0 m1 y0 y1 HFR
                  have kR : N4 w3.heap.size qb (.slice qa qk qc) false (.slice pa pk pc) WW.drew := HKR.out
                  have k0 : N4 w.heap.size false (.slice none 0 0) false (.slice none 0 0) WW.drew := HKX.out.1
                  have hc : Below WW.heap.size WW WW.drew := (Below.refl _ _).drew
                  have hs : Below w.heap.size w WW.drew := HKX.out.2.drew
                  have y0 := HKR.out.c0
                  have y1 := HKR.out.c1
                  have y2 := HKR.out.c2
                  have y3 := HKR.out.c3
                  go_wp2_with fail
                  go_region_held3 (fun w' => w'.cell? ⟨w3.heap.size, 0, none⟩ = some (.bool qb) ∧ w'.cell? ⟨w3.heap.size, 1, none⟩ = some (.slice qa qk qc) ∧ w'.cell? ⟨w3.heap.size, 2, none⟩ = some (.bool false) ∧ w'.cell? ⟨w3.heap.size, 3, none⟩ = some (.slice pa pk pc) ∧ Below w.heap.size w w') (first | (with_reducible exact ⟨kR.c0, kR.c1, kR.c2, kR.c3, hs⟩) | (with_reducible exact ⟨(kR.o4 HNE.out _ _ _ _).c0, (kR.o4 HNE.out _ _ _ _).c1, (kR.o4 HNE.out _ _ _ _).c2, (kR.o4 HNE.out _ _ _ _).c3, hs.sn4 (Nat.le_refl _) _ _ _ _⟩) | fail) (first | (go_at_call 19; (with_reducible refine (ntext_any (HR.out.1.below hc) HR.out.2.1 HR.out.2.2.1 HR.out.2.2.2).mono ?_); rintro e wT ⟨rfl, hbT⟩; have kR := kR.below hbT; have k0 := k0.below hbT; have hs := hs.trans (hbT.mono hs.size); have hc := hc.trans (hbT.mono hc.size); have d0 := k0.c0; have f0 := k0.f 0; have d1 := k0.c1; have f1 := k0.f 1; have d2 := k0.c2; have f2 := k0.f 2; have d3 := k0.c3; have f3 := k0.f 3) | fail)
                  obtain ⟨WW, hWW⟩ : ∃ WW, (((wT.setCell ⟨w.heap.size, 0, none⟩ (.bool qb)).setCell ⟨w.heap.size, 1, none⟩ (.slice qa qk qc)).setCell ⟨w.heap.size, 2, none⟩ (.bool false)).setCell ⟨w.heap.size, 3, none⟩ (.slice pa pk pc) = WW := ⟨_, rfl⟩
                  rw [hWW]
                  obtain ⟨hx0, hx1, hx2⟩ := nrat_cells (HR.out.1.below hc)
                  obtain ⟨z0, z1, z2, z3, z4⟩ := ret_rat (q := Q) k0 hx0 hx1 hx2 hs (Nat.le_refl _) hWW
                  have HZ := Lib.hid z4
                  clear hs hc hWW z4 k0 kR d0 d1 d2 d3 f0 f1 f2 f3
                  go_wp2_with fail
                  obtain ⟨v9, e9, n9, b9⟩ := HZ.out
                  cases e9
                  obtain ⟨p1, p2⟩ := nrd_fin (s := s) (q := Q) rfl HALL.out
                  exact bodyPost_ret (v := .tuple #[.agg #[.bool qb, .slice qa qk qc, .bool false, .slice pa pk pc], .bool ((rs Q).toList == s.toList)]) (by simp [results, Tryz.results58, go_sem, z0, z1, z2, z3]) rfl ⟨_, _, _, rfl, n9, p1, p2, b9⟩
          · go_wp2_with fail
            go_roundw
            case rel => exact ⟨by first | rfl | trivial, by first | rfl | trivial, i + 1, by omega, by go_num, Lib.hid (by
              intro b hb
              rw [List.take_succ_eq_append_getElem (by have := HS.out.2; omega), ← HMEM.out] at hb
              rcases List.mem_append.1 hb with h1 | h1
              · exact HNS.out b h1
              · rw [List.mem_singleton.1 h1]; exact fun e => hc (by rw [e]; rfl))⟩
            case measure => simp [intOf]; omega
        · have he : i = s.size := by omega
          have HC : Hid (slash s.data.toList = none ∧ True) := Lib.hid ⟨slash_none (by have := HNS.out; rwa [List.take_of_length_le (by have := HS.out.2; omega)] at this), trivial⟩
          subst he
          have HFD := Lib.hid (nfromDigits_any s (by have := HS.out.1; omega))
          go_wp2_with fail
          refine (HFD.out _).mono ?_
          rintro e w1 ⟨v1, b1, n1, rfl, hd1, hv1, hn1, hb1⟩
          obtain ⟨nb, na, nk, nc, rfl, e1, h1⟩ := hv1.op
          obtain ⟨w2, hw2, hb2, kN, hz2⟩ := nbox1 w1 #[.bool nb, .slice na nk nc] 30 (cb2 nb (Cb.sl na nk nc))
          have kN : N2 w1.heap.size nb (.slice na nk nc) w2 := kN
          have hb12 := hb1.trans (hb2.mono hb1.size)
          have HKX := Lib.hid (And.intro (HK.out.1.below hb12) (HK.out.2.trans (hb12.mono HK.out.2.size)))
          have HZ2 := Lib.hid hz2
          have HLT := Lib.hid (show w.heap.size < w1.heap.size by have := hb1.size; have := HK.out.2.size; have := HZ0.out; omega)
          have HN1 := Lib.hid (And.intro hd1 (And.intro hn1 (h1.below hb2)))
          clear hv1 e1 h1 hb1 hb2 hb12 hz2 hd1 hn1 HFD
          cases b1 with
          | false =>
            clear kN
            obtain ⟨WW, hWW⟩ : ∃ WW, (((w2.setCell ⟨w.heap.size, 0, none⟩ (.bool false)).setCell ⟨w.heap.size, 1, none⟩ (.slice none 0 0)).setCell ⟨w.heap.size, 2, none⟩ (.bool false)).setCell ⟨w.heap.size, 3, none⟩ (.slice none 0 0) = WW := ⟨_, rfl⟩
            obtain ⟨z0, z1, z2, z3, z4⟩ := ret_rat (w := w) (q := (0 : Rat)) HKX.out.1 rfl (mag_nil _) (mag_nil _) HKX.out.2 (Nat.le_refl _) hWW
            have HZ := Lib.hid z4
            have d0 := HKX.out.1.c0
            have d1 := HKX.out.1.c1
            have d2 := HKX.out.1.c2
            have d3 := HKX.out.1.c3
            have f0 := HKX.out.1.f 0
            have f1 := HKX.out.1.f 1
            have f2 := HKX.out.1.f 2
            have f3 := HKX.out.1.f 3
            clear z4
            go_wp2_with fail
            obtain ⟨v9, e9, n9, b9⟩ := HZ.out
            cases e9
            exact bodyPost_ret (v := .tuple #[.agg #[.bool false, .slice none 0 0, .bool false, .slice none 0 0], .bool false]) (by simp [results, Tryz.results58, go_sem, z0, z1, z2, z3]) rfl ⟨_, _, _, rfl, n9, fun h => (by cases h), fun _ p hp => rd_badN HU.out HC.out.1 hp (fun h => by have := HN1.out.1.2 h; cases this), b9⟩
          | true =>
            have m1 := kN.c1
            have HMK := Lib.hid (make1_any false HN1.out.2.2)
            clear kN
            go_wp2_with fail
            refine HMK.out.mono ?_
            rintro e w3 ⟨v3, rfl, hv3, hb3⟩
            obtain ⟨rb, ra, rk, rc, rfl, e3, h3⟩ := hv3.op
            obtain ⟨wz, hwz, hbz, kZ, hz4⟩ := nbox1 w3 #[.bool rb, .slice ra rk rc, .bool false, .slice none 0 0] 32 (cb4 rb (Cb.sl ra rk rc) false cb_nil)
            have kZ : N4 w3.heap.size rb (.slice ra rk rc) false (.slice none 0 0) wz := kZ
            obtain ⟨w4, hw4⟩ : ∃ W, (wz.setCell ⟨w3.heap.size, 2, none⟩ (.bool false)).setCell ⟨w3.heap.size, 3, none⟩ (.slice none 0 0) = W := ⟨_, rfl⟩
            have kR : N4 w3.heap.size rb (.slice ra rk rc) false (.slice none 0 0) w4 := by rw [← hw4]; exact Bb.set (Bb.set kZ 2 (Cb.bool false)) 3 cb_nil
            have hb4 : Below w3.heap.size w3 w4 := by rw [← hw4]; exact (hbz.setCell (Nat.le_refl _) _).setCell (Nat.le_refl _) _
            have g2 := kZ.c2
            have g3 := kZ.c3
            have q2 := kZ.f 2
            have q3 := kZ.f 3
            have hb34 := hb3.trans (hb4.mono hb3.size)
            have HNE : Hid (w3.heap.size ≠ w.heap.size) := Lib.hid (by have := hb3.size; have := HLT.out; have := HZ2.out; omega)
            have HGE : Hid (w.heap.size ≤ w3.heap.size) := Lib.hid (by have := hb3.size; have := HLT.out; have := HZ2.out; omega)
            have HKX := Lib.hid (And.intro (HKX.out.1.below hb34) (HKX.out.2.trans (hb34.mono HKX.out.2.size)))
            have HKR := Lib.hid kR
            have HE3 := Lib.hid (And.intro e3 (h3.below hb4))
            clear hv3 e3 h3 hb3 hb4 hb34 hz4 kR HMK m1 hbz kZ
            obtain ⟨Q, hQ⟩ : ∃ Q : Rat, ((signed false n1.natAbs : Int) : Rat) = Q := ⟨_, rfl⟩
            have HALL : Hid (∀ p, s = rs p → p = Q) := Lib.hid (rd_allN HU.out HC.out.1 (HN1.out.2.1 (by trivial)) hQ)
            have HR : Hid (NRat w4 (.agg #[.bool rb, .slice ra rk rc, .bool false, .slice none 0 0]) Q ∧ s.size + 1 < 100000 ∧ Q.num.natAbs < B32 ^ (s.size + 1) ∧ Q.den < B32 ^ (s.size + 1)) := Lib.hid (by
              have hs := rd_sizeN (HN1.out.1.1 (by trivial)).1 (HN1.out.2.1 (by trivial)) hQ (by have := HS.out.2; omega)
              exact ⟨by rw [← hQ]; exact nrat_int HE3.out.1 HE3.out.2, by have := HS.out.1; omega, hs.1, hs.2⟩)
            clear hQ HE3 HN1
            have kR : N4 w3.heap.size rb (.slice ra rk rc) false (.slice none 0 0) w4.drew := HKR.out
            have k0 : N4 w.heap.size false (.slice none 0 0) false (.slice none 0 0) w4.drew := HKX.out.1
            have hc : Below w4.heap.size w4 w4.drew := (Below.refl _ _).drew
            have hs : Below w.heap.size w w4.drew := HKX.out.2.drew
            have y0 := HKR.out.c0
            have y1 := HKR.out.c1
            have y2 := HKR.out.c2
            have y3 := HKR.out.c3
            go_wp2_with fail
            go_region_held3 (fun w' => w'.cell? ⟨w3.heap.size, 0, none⟩ = some (.bool rb) ∧ w'.cell? ⟨w3.heap.size, 1, none⟩ = some (.slice ra rk rc) ∧ w'.cell? ⟨w3.heap.size, 2, none⟩ = some (.bool false) ∧ w'.cell? ⟨w3.heap.size, 3, none⟩ = some (.slice none 0 0) ∧ Below w.heap.size w w') (first | (with_reducible exact ⟨kR.c0, kR.c1, kR.c2, kR.c3, hs⟩) | (with_reducible exact ⟨(kR.o4 HNE.out _ _ _ _).c0, (kR.o4 HNE.out _ _ _ _).c1, (kR.o4 HNE.out _ _ _ _).c2, (kR.o4 HNE.out _ _ _ _).c3, hs.sn4 (Nat.le_refl _) _ _ _ _⟩) | fail) (first | (go_at_call 19; (with_reducible refine (ntext_any (HR.out.1.below hc) HR.out.2.1 HR.out.2.2.1 HR.out.2.2.2).mono ?_); rintro e wT ⟨rfl, hbT⟩; have kR := kR.below hbT; have k0 := k0.below hbT; have hs := hs.trans (hbT.mono hs.size); have hc := hc.trans (hbT.mono hc.size); have d0 := k0.c0; have f0 := k0.f 0; have d1 := k0.c1; have f1 := k0.f 1; have d2 := k0.c2; have f2 := k0.f 2; have d3 := k0.c3; have f3 := k0.f 3) | fail)
            obtain ⟨WW, hWW⟩ : ∃ WW, (((wT.setCell ⟨w.heap.size, 0, none⟩ (.bool rb)).setCell ⟨w.heap.size, 1, none⟩ (.slice ra rk rc)).setCell ⟨w.heap.size, 2, none⟩ (.bool false)).setCell ⟨w.heap.size, 3, none⟩ (.slice none 0 0) = WW := ⟨_, rfl⟩
            rw [hWW]
            obtain ⟨hx0, hx1, hx2⟩ := nrat_cells (HR.out.1.below hc)
            obtain ⟨z0, z1, z2, z3, z4⟩ := ret_rat (q := Q) k0 hx0 hx1 hx2 hs (Nat.le_refl _) hWW
            have HZ := Lib.hid z4
            clear hs hc hWW z4 k0 kR d0 d1 d2 d3 f0 f1 f2 f3
            go_wp2_with fail
            obtain ⟨v9, e9, n9, b9⟩ := HZ.out
            cases e9
            obtain ⟨p1, p2⟩ := nrd_fin (s := s) (q := Q) rfl HALL.out
            exact bodyPost_ret (v := .tuple #[.agg #[.bool rb, .slice ra rk rc, .bool false, .slice none 0 0], .bool ((rs Q).toList == s.toList)]) (by simp [results, Tryz.results58, go_sem, z0, z1, z2, z3]) rfl ⟨_, _, _, rfl, n9, p1, p2, b9⟩
  · have HU := Lib.hid (un_nil h0)
    have HS : Hid (s.size ≤ 10000 ∧ s.data.toList.length = s.size) := Lib.hid ⟨by first | exact HL.out | (rw [← HT.out, ext_size']; have := HL.out; omega), (Lib.size_eq s).symm⟩
    have hTs := HS.out.1
    go_enter Tryz.func58, Tryz.ntmps58
    go_wp2_with fail
    go_loopw [6, 7] (fun x y wr => w0 = wr ∧ x = .int .i64 s.size ∧ ∃ i : Nat, i ≤ s.size ∧ y = .int .i64 i ∧ Hid (∀ b ∈ s.data.toList.take i, b ≠ 47)) (fun _ y _ => s.size - (intOf y).toNat)
    case atStart => exact ⟨rfl, rfl, 0, by omega, rfl, Lib.hid (fun b hb => by simp at hb)⟩
    case round =>
      obtain ⟨rfl, rfl, i, hi, rfl, HNS⟩ := hrel
      by_cases h : i < s.size
      · exact absurd h (by omega)
      · have he : i = s.size := by omega
        have HC : Hid (slash s.data.toList = none ∧ True) := Lib.hid ⟨slash_none (by have := HNS.out; rwa [List.take_of_length_le (by have := HS.out.2; omega)] at this), trivial⟩
        subst he
        clear h0 h
        have HFD := Lib.hid (nfromDigits_any s (by have := HS.out.1; omega))
        go_wp2_with fail
        refine (HFD.out _).mono ?_
        rintro e w1 ⟨v1, b1, n1, rfl, hd1, hv1, hn1, hb1⟩
        obtain ⟨nb, na, nk, nc, rfl, e1, h1⟩ := hv1.op
        obtain ⟨w2, hw2, hb2, kN, hz2⟩ := nbox1 w1 #[.bool nb, .slice na nk nc] 30 (cb2 nb (Cb.sl na nk nc))
        have kN : N2 w1.heap.size nb (.slice na nk nc) w2 := kN
        have hb12 := hb1.trans (hb2.mono hb1.size)
        have HKX := Lib.hid (And.intro (HK.out.1.below hb12) (HK.out.2.trans (hb12.mono HK.out.2.size)))
        have HZ2 := Lib.hid hz2
        have HLT := Lib.hid (show w.heap.size < w1.heap.size by have := hb1.size; have := HK.out.2.size; have := HZ0.out; omega)
        have HN1 := Lib.hid (And.intro hd1 (And.intro hn1 (h1.below hb2)))
        clear hv1 e1 h1 hb1 hb2 hb12 hz2 hd1 hn1 HFD
        cases b1 with
        | false =>
          clear kN
          obtain ⟨WW, hWW⟩ : ∃ WW, (((w2.setCell ⟨w.heap.size, 0, none⟩ (.bool false)).setCell ⟨w.heap.size, 1, none⟩ (.slice none 0 0)).setCell ⟨w.heap.size, 2, none⟩ (.bool false)).setCell ⟨w.heap.size, 3, none⟩ (.slice none 0 0) = WW := ⟨_, rfl⟩
          obtain ⟨z0, z1, z2, z3, z4⟩ := ret_rat (w := w) (q := (0 : Rat)) HKX.out.1 rfl (mag_nil _) (mag_nil _) HKX.out.2 (Nat.le_refl _) hWW
          have HZ := Lib.hid z4
          have d0 := HKX.out.1.c0
          have d1 := HKX.out.1.c1
          have d2 := HKX.out.1.c2
          have d3 := HKX.out.1.c3
          have f0 := HKX.out.1.f 0
          have f1 := HKX.out.1.f 1
          have f2 := HKX.out.1.f 2
          have f3 := HKX.out.1.f 3
          clear z4
          go_wp2_with fail
          obtain ⟨v9, e9, n9, b9⟩ := HZ.out
          cases e9
          exact bodyPost_ret (v := .tuple #[.agg #[.bool false, .slice none 0 0, .bool false, .slice none 0 0], .bool false]) (by simp [results, Tryz.results58, go_sem, z0, z1, z2, z3]) rfl ⟨_, _, _, rfl, n9, fun h => (by cases h), fun _ p hp => rd_badN HU.out HC.out.1 hp (fun h => by have := HN1.out.1.2 h; cases this), b9⟩
        | true =>
          have m1 := kN.c1
          have HMK := Lib.hid (make1_any false HN1.out.2.2)
          clear kN
          go_wp2_with fail
          refine HMK.out.mono ?_
          rintro e w3 ⟨v3, rfl, hv3, hb3⟩
          obtain ⟨rb, ra, rk, rc, rfl, e3, h3⟩ := hv3.op
          obtain ⟨wz, hwz, hbz, kZ, hz4⟩ := nbox1 w3 #[.bool rb, .slice ra rk rc, .bool false, .slice none 0 0] 32 (cb4 rb (Cb.sl ra rk rc) false cb_nil)
          have kZ : N4 w3.heap.size rb (.slice ra rk rc) false (.slice none 0 0) wz := kZ
          obtain ⟨w4, hw4⟩ : ∃ W, (wz.setCell ⟨w3.heap.size, 2, none⟩ (.bool false)).setCell ⟨w3.heap.size, 3, none⟩ (.slice none 0 0) = W := ⟨_, rfl⟩
          have kR : N4 w3.heap.size rb (.slice ra rk rc) false (.slice none 0 0) w4 := by rw [← hw4]; exact Bb.set (Bb.set kZ 2 (Cb.bool false)) 3 cb_nil
          have hb4 : Below w3.heap.size w3 w4 := by rw [← hw4]; exact (hbz.setCell (Nat.le_refl _) _).setCell (Nat.le_refl _) _
          have g2 := kZ.c2
          have g3 := kZ.c3
          have q2 := kZ.f 2
          have q3 := kZ.f 3
          have hb34 := hb3.trans (hb4.mono hb3.size)
          have HNE : Hid (w3.heap.size ≠ w.heap.size) := Lib.hid (by have := hb3.size; have := HLT.out; have := HZ2.out; omega)
          have HGE : Hid (w.heap.size ≤ w3.heap.size) := Lib.hid (by have := hb3.size; have := HLT.out; have := HZ2.out; omega)
          have HKX := Lib.hid (And.intro (HKX.out.1.below hb34) (HKX.out.2.trans (hb34.mono HKX.out.2.size)))
          have HKR := Lib.hid kR
          have HE3 := Lib.hid (And.intro e3 (h3.below hb4))
          clear hv3 e3 h3 hb3 hb4 hb34 hz4 kR HMK m1 hbz kZ
          obtain ⟨Q, hQ⟩ : ∃ Q : Rat, ((signed false n1.natAbs : Int) : Rat) = Q := ⟨_, rfl⟩
          have HALL : Hid (∀ p, s = rs p → p = Q) := Lib.hid (rd_allN HU.out HC.out.1 (HN1.out.2.1 (by trivial)) hQ)
          have HR : Hid (NRat w4 (.agg #[.bool rb, .slice ra rk rc, .bool false, .slice none 0 0]) Q ∧ s.size + 1 < 100000 ∧ Q.num.natAbs < B32 ^ (s.size + 1) ∧ Q.den < B32 ^ (s.size + 1)) := Lib.hid (by
            have hs := rd_sizeN (HN1.out.1.1 (by trivial)).1 (HN1.out.2.1 (by trivial)) hQ (by have := HS.out.2; omega)
            exact ⟨by rw [← hQ]; exact nrat_int HE3.out.1 HE3.out.2, by have := HS.out.1; omega, hs.1, hs.2⟩)
          clear hQ HE3 HN1
          have kR : N4 w3.heap.size rb (.slice ra rk rc) false (.slice none 0 0) w4.drew := HKR.out
          have k0 : N4 w.heap.size false (.slice none 0 0) false (.slice none 0 0) w4.drew := HKX.out.1
          have hc : Below w4.heap.size w4 w4.drew := (Below.refl _ _).drew
          have hs : Below w.heap.size w w4.drew := HKX.out.2.drew
          have y0 := HKR.out.c0
          have y1 := HKR.out.c1
          have y2 := HKR.out.c2
          have y3 := HKR.out.c3
          go_wp2_with fail
          go_region_held3 (fun w' => w'.cell? ⟨w3.heap.size, 0, none⟩ = some (.bool rb) ∧ w'.cell? ⟨w3.heap.size, 1, none⟩ = some (.slice ra rk rc) ∧ w'.cell? ⟨w3.heap.size, 2, none⟩ = some (.bool false) ∧ w'.cell? ⟨w3.heap.size, 3, none⟩ = some (.slice none 0 0) ∧ Below w.heap.size w w') (first | (with_reducible exact ⟨kR.c0, kR.c1, kR.c2, kR.c3, hs⟩) | (with_reducible exact ⟨(kR.o4 HNE.out _ _ _ _).c0, (kR.o4 HNE.out _ _ _ _).c1, (kR.o4 HNE.out _ _ _ _).c2, (kR.o4 HNE.out _ _ _ _).c3, hs.sn4 (Nat.le_refl _) _ _ _ _⟩) | fail) (first | (go_at_call 19; (with_reducible refine (ntext_any (HR.out.1.below hc) HR.out.2.1 HR.out.2.2.1 HR.out.2.2.2).mono ?_); rintro e wT ⟨rfl, hbT⟩; have kR := kR.below hbT; have k0 := k0.below hbT; have hs := hs.trans (hbT.mono hs.size); have hc := hc.trans (hbT.mono hc.size); have d0 := k0.c0; have f0 := k0.f 0; have d1 := k0.c1; have f1 := k0.f 1; have d2 := k0.c2; have f2 := k0.f 2; have d3 := k0.c3; have f3 := k0.f 3) | fail)
          obtain ⟨WW, hWW⟩ : ∃ WW, (((wT.setCell ⟨w.heap.size, 0, none⟩ (.bool rb)).setCell ⟨w.heap.size, 1, none⟩ (.slice ra rk rc)).setCell ⟨w.heap.size, 2, none⟩ (.bool false)).setCell ⟨w.heap.size, 3, none⟩ (.slice none 0 0) = WW := ⟨_, rfl⟩
          rw [hWW]
          obtain ⟨hx0, hx1, hx2⟩ := nrat_cells (HR.out.1.below hc)
          obtain ⟨z0, z1, z2, z3, z4⟩ := ret_rat (q := Q) k0 hx0 hx1 hx2 hs (Nat.le_refl _) hWW
          have HZ := Lib.hid z4
          clear hs hc hWW z4 k0 kR d0 d1 d2 d3 f0 f1 f2 f3
          go_wp2_with fail
          obtain ⟨v9, e9, n9, b9⟩ := HZ.out
          cases e9
          obtain ⟨p1, p2⟩ := nrd_fin (s := s) (q := Q) rfl HALL.out
          exact bodyPost_ret (v := .tuple #[.agg #[.bool rb, .slice ra rk rc, .bool false, .slice none 0 0], .bool ((rs Q).toList == s.toList)]) (by simp [results, Tryz.results58, go_sem, z0, z1, z2, z3]) rfl ⟨_, _, _, rfl, n9, p1, p2, b9⟩
end Go.Proofs.YtekghemhccfhkaaGreatDoor
namespace Go.Big
open Go Go.RowKit
theorem qv_bad {s : ByteArray} (h : ∀ p, s ≠ rs p) : qv s = 0 := by
  unfold qv qval
  rw [dif_neg]
  rintro ⟨q, hq⟩
  exact h q (rs_iff.2 hq)
end Go.Big
namespace Go.Proofs.YtekghemhccfhkaaGreatDoor
open Go.RowKit Go.Big
set_option maxRecDepth 100000 in
set_option maxHeartbeats 4000000 in
/-- Num -/
theorem num_any (s : ByteArray) (hl : s.size ≤ 10000) (w : World) : Calls Tryz.prog 25 #[.string s] w (RetRat w (qv s)) := by
  obtain ⟨w0, hw0, hb0, k0, hz0⟩ := nbox1 w #[.bool false, .slice none 0 0, .bool false, .slice none 0 0] 32 (cb4 false cb_nil false cb_nil)
  have k0 : N4 w.heap.size false (.slice none 0 0) false (.slice none 0 0) w0 := k0
  have HRD := Lib.hid (nread_any s hl)
  have HK := Lib.hid (And.intro k0 hb0)
  clear k0 hb0 hz0 hl
  go_enter Tryz.func25, Tryz.ntmps25
  go_wp2_with fail
  refine (HRD.out _).mono ?_
  rintro e w1 ⟨v1, b1, q, rfl, hv1, p1, p2, hb1⟩
  obtain ⟨xb, xa, xk, xc, ya, yk, yc, rfl, e1, h1, h2⟩ := hv1.op
  obtain ⟨w2, hw2, hb2, kR, hz2⟩ := nbox1 w1 #[.bool xb, .slice xa xk xc, .bool false, .slice ya yk yc] 32 (cb4 xb (Cb.sl xa xk xc) false (Cb.sl ya yk yc))
  have kR : N4 w1.heap.size xb (.slice xa xk xc) false (.slice ya yk yc) w2 := kR
  have hb12 := hb1.trans (hb2.mono hb1.size)
  have k0 := HK.out.1.below hb12
  have hs := HK.out.2.trans (hb12.mono HK.out.2.size)
  have d0 := k0.c0
  have d1 := k0.c1
  have d2 := k0.c2
  have d3 := k0.c3
  have f0 := k0.f 0
  have f1 := k0.f 1
  have f2 := k0.f 2
  have f3 := k0.f 3
  cases b1 with
  | false =>
    have hq := qv_bad (p2 rfl)
    obtain ⟨WW, hWW⟩ : ∃ WW, (((w2.setCell ⟨w.heap.size, 0, none⟩ (.bool false)).setCell ⟨w.heap.size, 1, none⟩ (.slice none 0 0)).setCell ⟨w.heap.size, 2, none⟩ (.bool false)).setCell ⟨w.heap.size, 3, none⟩ (.slice none 0 0) = WW := ⟨_, rfl⟩
    obtain ⟨z0, z1, z2, z3, z4⟩ := ret_rat (w := w) (q := (0 : Rat)) k0 rfl (mag_nil _) (mag_nil _) hs (Nat.le_refl _) hWW
    have HZ := Lib.hid (And.intro z4 hq)
    clear z4 hs k0 kR hq p1 p2 hv1 e1 h1 h2 hb1 hb2 hb12 hz2 HRD
    go_wp2_with fail
    exact bodyPost_ret (v := .agg #[.bool false, .slice none 0 0, .bool false, .slice none 0 0]) (by simp [results, Tryz.results25, go_sem, z0, z1, z2, z3]) rfl (by rw [HZ.out.2]; exact HZ.out.1)
  | true =>
    have hq : qv s = q := by rw [p1 rfl, qv_rs]
    obtain ⟨WW, hWW⟩ : ∃ WW, (((w2.setCell ⟨w.heap.size, 0, none⟩ (.bool xb)).setCell ⟨w.heap.size, 1, none⟩ (.slice xa xk xc)).setCell ⟨w.heap.size, 2, none⟩ (.bool false)).setCell ⟨w.heap.size, 3, none⟩ (.slice ya yk yc) = WW := ⟨_, rfl⟩
    obtain ⟨z0, z1, z2, z3, z4⟩ := ret_rat (w := w) (q := q) k0 e1 (h1.below hb2) (h2.below hb2) hs (Nat.le_refl _) hWW
    have HZ := Lib.hid (And.intro z4 hq)
    have y0 := kR.c0
    have y1 := kR.c1
    have y2 := kR.c2
    have y3 := kR.c3
    clear z4 hs k0 kR hq p1 p2 hv1 e1 h1 h2 hb1 hb2 hb12 hz2 HRD
    go_wp2_with fail
    exact bodyPost_ret (v := .agg #[.bool xb, .slice xa xk xc, .bool false, .slice ya yk yc]) (by simp [results, Tryz.results25, go_sem, z0, z1, z2, z3]) rfl (by rw [HZ.out.2]; exact HZ.out.1)
end Go.Proofs.YtekghemhccfhkaaGreatDoor
namespace Go.Big
open Go Go.RowKit
theorem b64_32 (K : Nat) : B64 ^ K = B32 ^ (2 * K) := by
  rw [Nat.pow_mul]; exact congrArg (· ^ K) (by decide)
theorem sn_of_sz {K : Nat} {q : Rat} (h : Sz K q) : Sn (2 * K) q := by
  have e : Bw ^ K = B32 ^ (2 * K) := b64_32 K
  unfold Sz at h
  unfold Sn
  rw [← e]
  exact h
theorem b11 : 10 ^ 200 ≤ B64 ^ 11 := Nat.le_of_ble_eq_true (by kernel_rfl)
theorem qv_size2 {s : ByteArray} (h : s.size ≤ 200) : Sz 11 (qv s) := by
  have hsz : s.data.toList.length = s.size := (Lib.size_eq s).symm
  cases hr : rd s.data.toList with
  | none =>
    rw [qv_none hr]
    exact ⟨Nat.lt_of_lt_of_le (Nat.lt_of_lt_of_le (by decide : (0 : Nat) < 10 ^ 1) (Nat.pow_le_pow_right (by decide) (by decide))) b11, Nat.lt_of_lt_of_le (Nat.lt_of_lt_of_le (by decide : (1 : Nat) < 10 ^ 1) (Nat.pow_le_pow_right (by decide) (by decide))) b11⟩
  | some p =>
    obtain ⟨n, d⟩ := p
    obtain ⟨q, h1, h2, h3⟩ := rd_some hr
    have e : qv s = q := qv_rd (by rw [hr, h1, h2])
    rw [e]
    have hlen : (rtext q).length ≤ 200 := by rw [← h3]; omega
    unfold rtext at hlen
    rw [List.length_append] at hlen
    have hn : (Lib.decDigits q.num.natAbs).length ≤ (itext q.num).length := by unfold itext; split <;> simp
    refine ⟨Nat.lt_of_lt_of_le (dd_big_len (by omega)) b11, ?_⟩
    split at hlen
    · next h => rw [h]; exact Nat.lt_of_lt_of_le (Nat.lt_of_lt_of_le (by decide : (1 : Nat) < 10 ^ 1) (Nat.pow_le_pow_right (by decide) (by decide))) b11
    · next h => simp at hlen; exact Nat.lt_of_lt_of_le (dd_big_len (by omega)) b11
theorem nmb_arg2 {s : ByteArray} (h : s.size ≤ 200) : Nmb 11 s := ⟨by omega, qv_size2 h⟩
end Go.Big
namespace Go.Proofs.YtekghemhccfhkaaGreatDoor
open Go.RowKit Go.Big
def S200 : List ByteArray → Bool := fun l => decide (∀ x ∈ l, x.size ≤ 200)
theorem short22 {a b : ByteArray} {g cap : Nat} {w : World} (h0 : w.cell? ⟨g, 0, none⟩ = some (.string a)) (h1 : w.cell? ⟨g, 1, none⟩ = some (.string b)) {o : Bool} (ho : S200 [a, b] = o) :
    Calls Tryz.prog 24 #[.int .i64 200, .slice (some ⟨g, 0, none⟩) 2 cap] w fun e w' => e = .returned (.bool o) ∧ w' = w := by
  rw [← ho]
  exact short_any (l := [a, b]) (n := 200) (by simp) (fun i h => by
    rcases i with _ | _ | i
    · exact h0
    · exact h1
    · simp at h; omega)
/-- Text and the operations of the references, with the text as a name. -/
theorem textC {v : Value} {q : Rat} {K : Nat} {S : ByteArray} {w : World} (h : NRat w v q) (hK : K < 10000) (hm : Sn K q) (hS : rs q = S) : Calls Tryz.prog 19 #[v] w (RetB w S) := by
  rw [← hS]; exact ntext_any h (by omega) hm.1 hm.2
end Go.Proofs.YtekghemhccfhkaaGreatDoor
namespace Go.Proofs.YtekghemhccfhkaaGreatDoor
open Go.RowKit Go.Big
set_option maxRecDepth 100000 in
set_option maxHeartbeats 4000000 in
theorem rationalArithmetic_walk (a b : ByteArray) {w : World} (hT : TabsA w) : Calls Tryz.prog 7 #[.string a, .string b] w (RetBool w true) := by
  have HT := Lib.hid hT
  obtain ⟨o, ho⟩ : ∃ o, S200 [a, b] = o := ⟨_, rfl⟩
  have HO := Lib.hid ho
  obtain ⟨w0, hw0⟩ : ∃ w0, w.alloc (.cells #[.string a, .string b] 9) = w0 := ⟨_, rfl⟩
  have hr := heap_alloc_new w (.cells #[.string a, .string b] 9)
  have hb0 : Below w.heap.size w w0 := by rw [← hw0]; exact (Below.refl _ _).alloc' _
  rw [hw0] at hr
  have HSH := Lib.hid (short22 (cap := 2) (g := w.heap.size) (w := w0) (by rw [cell_rowB hr]; rfl) (by rw [cell_rowB hr]; rfl) HO.out)
  have HT := Lib.hid (HT.out.below hb0)
  have HB := Lib.hid hb0
  clear hT ho hr hb0
  cases o with
  | false =>
    go_enter Tryz.func7, Tryz.ntmps7
    go_wp2_with fail
    refine HSH.out.mono ?_
    rintro e w1 ⟨rfl, rfl⟩
    go_wp2_with fail
    refine (awake_any HT.out).mono ?_
    rintro e w2 ⟨rfl, hb2⟩
    have HB := Lib.hid (below_trans HB.out hb2)
    clear hb2
    go_wp2_with fail
    go_ret
    exact ⟨rfl, HB.out⟩
  | true =>
    have hsz : ∀ x ∈ [a, b], x.size ≤ 200 := of_decide_eq_true HO.out
    obtain ⟨A, hA⟩ : ∃ A, qv a = A := ⟨_, rfl⟩
    obtain ⟨B, hB⟩ : ∃ B, qv b = B := ⟨_, rfl⟩
    have ha := hsz a (by simp)
    have hb := hsz b (by simp)
    have ga : Nmb 11 a := nmb_arg2 ha
    have gb : Nmb 11 b := nmb_arg2 hb
    have hza : Sz 11 A := by rw [← hA]; exact ga.2
    have hzb : Sz 11 B := by rw [← hB]; exact gb.2
    obtain ⟨P, hP⟩ : ∃ s, rs (A + B) = s := ⟨_, rfl⟩
    obtain ⟨M, hM⟩ : ∃ s, rs (A + -B) = s := ⟨_, rfl⟩
    obtain ⟨X, hX⟩ : ∃ s, rs (A * B) = s := ⟨_, rfl⟩
    have GG := Lib.hid (And.intro ga gb)
    have GL := Lib.hid (show a.size ≤ 10000 ∧ b.size ≤ 10000 by omega)
    have SN : Hid (Sn 22 A ∧ Sn 22 B) := Lib.hid ⟨sn_of_sz hza, sn_of_sz hzb⟩
    have ZZ : Hid (Sn 62 (A + B) ∧ Sn 62 (A + -B) ∧ Sn 62 (A * B)) := Lib.hid ⟨sn_of_sz (K := 31) ((hza.add hzb).mono (by decide)), sn_of_sz (K := 31) ((hza.add hzb.neg).mono (by decide)), sn_of_sz (K := 31) ((hza.mul hzb).mono (by decide))⟩
    have E1 := Lib.hid (show rs (qv a + qv b) = P from by rw [hA, hB, hP])
    have E2 := Lib.hid (show rs (qv a + -qv b) = M from by rw [hA, hB, hM])
    have E3 := Lib.hid (show rs (qv a * qv b) = X from by rw [hA, hB, hX])
    have F1 := Lib.hid hP
    have F2 := Lib.hid hM
    have F3 := Lib.hid hX
    have HAB := Lib.hid (And.intro hA hB)
    have HZZ := Lib.hid (And.intro hza hzb)
    clear hsz ha hb ga gb hza hzb hP hM hX hA hB
    by_cases h0 : B = 0
    · have HQ0 := Lib.hid (show qv b = 0 from HAB.out.2.trans h0)
      have HSG := Lib.hid (show B.num.sign = 0 from by rw [h0]; rfl)
      clear h0
      go_enter Tryz.func7, Tryz.ntmps7
      go_wp2_with fail
      refine HSH.out.mono ?_
      rintro e w1 ⟨rfl, rfl⟩
      clear HSH
      go_wp2_with fail
      refine (num_any a GL.out.1 _).mono ?_
      rintro e w2 ⟨v2, rfl, hv2, hb2⟩
      rw [HAB.out.1] at hv2
      have HT := Lib.hid (HT.out.below hb2)
      have HB := Lib.hid (below_trans HB.out hb2)
      have HX := Lib.hid hv2
      clear hv2 hb2
      go_wp2_with fail
      refine (num_any b GL.out.2 _).mono ?_
      rintro e w3 ⟨v3, rfl, hv3, hb3⟩
      rw [HAB.out.2] at hv3
      have hv2 := HX.out.below hb3
      have HT := Lib.hid (HT.out.below hb3)
      have HB := Lib.hid (below_trans HB.out hb3)
      obtain ⟨b1, a1, l1, p1, c1, m1, r1, rfl, e1, h1, i1⟩ := hv2.op
      obtain ⟨b2, a2, l2, p2, c2, m2, r2, rfl, e2, h2, i2⟩ := hv3.op
      obtain ⟨w4, hw4, hb4, k5, k6, hz4⟩ := nboxes2 w3 #[.bool b1, .slice a1 l1 p1, .bool false, .slice c1 m1 r1] 32 #[.bool b2, .slice a2 l2 p2, .bool false, .slice c2 m2 r2] 32 (cb4 b1 h1.cb false i1.cb) (cb4 b2 h2.cb false i2.cb)
      have HK : Hid (N4 w3.heap.size b1 (.slice a1 l1 p1) false (.slice c1 m1 r1) w4 ∧ N4 (w3.heap.size + 1) b2 (.slice a2 l2 p2) false (.slice c2 m2 r2) w4) := Lib.hid ⟨k5, k6⟩
      have HX := Lib.hid (hv2.below hb4)
      have HY := Lib.hid (hv3.below hb4)
      have HT := Lib.hid (HT.out.below hb4)
      have HB := Lib.hid (below_trans HB.out hb4)
      clear hv2 hv3 hb3 hb4 e1 e2 h1 h2 i1 i2 k5 k6 hz4
      go_wp2_with fail
      refine (divC0 (K := 11) GG.out.1 GG.out.2 (by decide) HQ0.out HT.out).mono ?_
      rintro e w5 ⟨rfl, hb5⟩
      have HK := Lib.hid (And.intro (HK.out.1.below hb5) (HK.out.2.below hb5))
      have HX := Lib.hid (HX.out.below hb5)
      have HY := Lib.hid (HY.out.below hb5)
      have HT := Lib.hid (HT.out.below hb5)
      have HB := Lib.hid (below_trans HB.out hb5)
      clear hb5
      have y10 := HK.out.1.c0
      have y20 := HK.out.2.c0
      have y11 := HK.out.1.c1
      have y21 := HK.out.2.c1
      have y12 := HK.out.1.c2
      have y22 := HK.out.2.c2
      have y13 := HK.out.1.c3
      have y23 := HK.out.2.c3
      go_wp2_with fail
      refine (rsign_any HY.out).mono ?_
      rintro e w6 ⟨rfl, hb6⟩
      rw [HSG.out]
      have HK := Lib.hid (And.intro (HK.out.1.below hb6) (HK.out.2.below hb6))
      have HX := Lib.hid (HX.out.below hb6)
      have HY := Lib.hid (HY.out.below hb6)
      have HT := Lib.hid (HT.out.below hb6)
      have HB := Lib.hid (below_trans HB.out hb6)
      clear hb6
      clear y10 y20 y11 y21 y12 y22 y13 y23
      have y10 := HK.out.1.c0
      have y20 := HK.out.2.c0
      have y11 := HK.out.1.c1
      have y21 := HK.out.2.c1
      have y12 := HK.out.1.c2
      have y22 := HK.out.2.c2
      have y13 := HK.out.1.c3
      have y23 := HK.out.2.c3
      go_wp2_with fail
      have hc : Below w6.heap.size w6 w6.drew := (Below.refl _ _).drew
      go_region_held3 (fun w' => w'.cell? ⟨w3.heap.size, 0, none⟩ = some (.bool b1) ∧ w'.cell? ⟨w3.heap.size, 1, none⟩ = some (.slice a1 l1 p1) ∧ w'.cell? ⟨w3.heap.size, 2, none⟩ = some (.bool false) ∧ w'.cell? ⟨w3.heap.size, 3, none⟩ = some (.slice c1 m1 r1) ∧ w'.cell? ⟨(w3.heap.size + 1), 0, none⟩ = some (.bool b2) ∧ w'.cell? ⟨(w3.heap.size + 1), 1, none⟩ = some (.slice a2 l2 p2) ∧ w'.cell? ⟨(w3.heap.size + 1), 2, none⟩ = some (.bool false) ∧ w'.cell? ⟨(w3.heap.size + 1), 3, none⟩ = some (.slice c2 m2 r2) ∧ Below w6.heap.size w6 w') (first | (with_reducible exact ⟨(HK.out.1.below hc).c0, (HK.out.1.below hc).c1, (HK.out.1.below hc).c2, (HK.out.1.below hc).c3, (HK.out.2.below hc).c0, (HK.out.2.below hc).c1, (HK.out.2.below hc).c2, (HK.out.2.below hc).c3, hc⟩) | fail) (first | (go_at_call 37; (with_reducible refine (addC (K := 11) GG.out.1 GG.out.2 (by decide) E1.out (HT.out.below hc)).mono ?_); rintro e whbA ⟨rfl, hbA⟩; have hc := hc.trans (hbA.mono hc.size)) | (go_at_call 38; (with_reducible refine (radd_any (K := 22) (HX.out.below hc) (HY.out.below hc) (by decide) SN.out.1 SN.out.2).mono ?_); rintro e whbP ⟨vP, rfl, hvP, hbP⟩; have hc := hc.trans (hbP.mono hc.size)) | (go_at_call 39; (with_reducible refine (subC (K := 11) GG.out.1 GG.out.2 (by decide) E2.out (HT.out.below hc)).mono ?_); rintro e whbS ⟨rfl, hbS⟩; have hc := hc.trans (hbS.mono hc.size)) | (go_at_call 40; (with_reducible refine (rsub_any (K := 22) (HX.out.below hc) (HY.out.below hc) (by decide) SN.out.1 SN.out.2).mono ?_); rintro e whbM ⟨vM, rfl, hvM, hbM⟩; have hc := hc.trans (hbM.mono hc.size)) | (go_at_call 41; (with_reducible refine (mulC (K := 11) GG.out.1 GG.out.2 (by decide) E3.out (HT.out.below hc)).mono ?_); rintro e whbX ⟨rfl, hbX⟩; have hc := hc.trans (hbX.mono hc.size)) | (go_at_call 42; (with_reducible refine (rmul_any (K := 22) (HX.out.below hc) (HY.out.below hc) (by decide) SN.out.1 SN.out.2).mono ?_); rintro e whbZ ⟨vX, rfl, hvX, hbZ⟩; have hc := hc.trans (hbZ.mono hc.size)) | (go_at_call 19; (with_reducible refine (textC (K := 62) hvX (by decide) ZZ.out.2.2 F3.out).mono ?_); rintro e whbU ⟨rfl, hbU⟩; have hc := hc.trans (hbU.mono hc.size)) | (go_at_call 19; (with_reducible refine (textC (K := 62) hvM (by decide) ZZ.out.2.1 F2.out).mono ?_); rintro e whbV ⟨rfl, hbV⟩; have hc := hc.trans (hbV.mono hc.size)) | (go_at_call 19; (with_reducible refine (textC (K := 62) hvP (by decide) ZZ.out.1 F1.out).mono ?_); rintro e whbW ⟨rfl, hbW⟩; have hc := hc.trans (hbW.mono hc.size)) | (go_at_call 13; (with_reducible refine (awake_any (HT.out.below hc)).mono ?_); rintro e whbE ⟨rfl, hbE⟩; have hc := hc.trans (hbE.mono hc.size)) | fail)
      have HB := Lib.hid (below_trans HB.out hc)
      clear hc
      go_wp2_with fail
      go_ret
      exact ⟨rfl, HB.out⟩
    · have HQ0 := Lib.hid (show qv b ≠ 0 from fun e => h0 (HAB.out.2.symm.trans e))
      have hsg : (B.num.sign == 0) = false := by rw [beq_eq_false_iff_ne]; exact fun e => h0 (Rat.num_eq_zero.1 (Int.sign_eq_zero_iff_zero.1 e))
      have HSG := Lib.hid hsg
      obtain ⟨Q, hQ⟩ : ∃ s, rs (A / B) = s := ⟨_, rfl⟩
      have E4 := Lib.hid (show rs (qv a * (qv b)⁻¹) = Q from by rw [HAB.out.1, HAB.out.2, ← hQ, Rat.div_def])
      have F4 := Lib.hid hQ
      have Z4 : Hid (Sn 62 (A / B)) := Lib.hid (by rw [Rat.div_def]; exact sn_of_sz (K := 31) ((HZZ.out.1.mul (HZZ.out.2.inv h0)).mono (by decide)))
      clear h0 hQ hsg
      go_enter Tryz.func7, Tryz.ntmps7
      go_wp2_with fail
      refine HSH.out.mono ?_
      rintro e w1 ⟨rfl, rfl⟩
      clear HSH
      go_wp2_with fail
      refine (num_any a GL.out.1 _).mono ?_
      rintro e w2 ⟨v2, rfl, hv2, hb2⟩
      rw [HAB.out.1] at hv2
      have HT := Lib.hid (HT.out.below hb2)
      have HB := Lib.hid (below_trans HB.out hb2)
      have HX := Lib.hid hv2
      clear hv2 hb2
      go_wp2_with fail
      refine (num_any b GL.out.2 _).mono ?_
      rintro e w3 ⟨v3, rfl, hv3, hb3⟩
      rw [HAB.out.2] at hv3
      have hv2 := HX.out.below hb3
      have HT := Lib.hid (HT.out.below hb3)
      have HB := Lib.hid (below_trans HB.out hb3)
      obtain ⟨b1, a1, l1, p1, c1, m1, r1, rfl, e1, h1, i1⟩ := hv2.op
      obtain ⟨b2, a2, l2, p2, c2, m2, r2, rfl, e2, h2, i2⟩ := hv3.op
      obtain ⟨w4, hw4, hb4, k5, k6, hz4⟩ := nboxes2 w3 #[.bool b1, .slice a1 l1 p1, .bool false, .slice c1 m1 r1] 32 #[.bool b2, .slice a2 l2 p2, .bool false, .slice c2 m2 r2] 32 (cb4 b1 h1.cb false i1.cb) (cb4 b2 h2.cb false i2.cb)
      have HK : Hid (N4 w3.heap.size b1 (.slice a1 l1 p1) false (.slice c1 m1 r1) w4 ∧ N4 (w3.heap.size + 1) b2 (.slice a2 l2 p2) false (.slice c2 m2 r2) w4) := Lib.hid ⟨k5, k6⟩
      have HX := Lib.hid (hv2.below hb4)
      have HY := Lib.hid (hv3.below hb4)
      have HT := Lib.hid (HT.out.below hb4)
      have HB := Lib.hid (below_trans HB.out hb4)
      clear hv2 hv3 hb3 hb4 e1 e2 h1 h2 i1 i2 k5 k6 hz4
      go_wp2_with fail
      refine (divC (K := 11) GG.out.1 GG.out.2 (by decide) HQ0.out E4.out HT.out).mono ?_
      rintro e w5 ⟨rfl, hb5⟩
      have HK := Lib.hid (And.intro (HK.out.1.below hb5) (HK.out.2.below hb5))
      have HX := Lib.hid (HX.out.below hb5)
      have HY := Lib.hid (HY.out.below hb5)
      have HT := Lib.hid (HT.out.below hb5)
      have HB := Lib.hid (below_trans HB.out hb5)
      clear hb5
      have y10 := HK.out.1.c0
      have y20 := HK.out.2.c0
      have y11 := HK.out.1.c1
      have y21 := HK.out.2.c1
      have y12 := HK.out.1.c2
      have y22 := HK.out.2.c2
      have y13 := HK.out.1.c3
      have y23 := HK.out.2.c3
      go_wp2_with fail
      refine (rsign_any HY.out).mono ?_
      rintro e w6 ⟨rfl, hb6⟩
      have hsg := HSG.out
      generalize B.num.sign = sg at hsg
      have hs2 : (sg != 0) = true := by simp [bne, hsg]
      have hs3 : ¬ sg = 0 := by intro e; rw [e] at hsg; cases hsg
      have HK := Lib.hid (And.intro (HK.out.1.below hb6) (HK.out.2.below hb6))
      have HX := Lib.hid (HX.out.below hb6)
      have HY := Lib.hid (HY.out.below hb6)
      have HT := Lib.hid (HT.out.below hb6)
      have HB := Lib.hid (below_trans HB.out hb6)
      clear hb6
      clear y10 y20 y11 y21 y12 y22 y13 y23
      have y10 := HK.out.1.c0
      have y20 := HK.out.2.c0
      have y11 := HK.out.1.c1
      have y21 := HK.out.2.c1
      have y12 := HK.out.1.c2
      have y22 := HK.out.2.c2
      have y13 := HK.out.1.c3
      have y23 := HK.out.2.c3
      go_wp2_with fail
      refine (rdiv_any (K := 22) HX.out HY.out (by decide) SN.out.1 SN.out.2).mono ?_
      rintro e w7 ⟨v7, rfl, hv7, hb7⟩
      have HV := Lib.hid hv7
      clear hv7
      have HK := Lib.hid (And.intro (HK.out.1.below hb7) (HK.out.2.below hb7))
      have HX := Lib.hid (HX.out.below hb7)
      have HY := Lib.hid (HY.out.below hb7)
      have HT := Lib.hid (HT.out.below hb7)
      have HB := Lib.hid (below_trans HB.out hb7)
      clear hb7
      clear y10 y20 y11 y21 y12 y22 y13 y23
      have y10 := HK.out.1.c0
      have y20 := HK.out.2.c0
      have y11 := HK.out.1.c1
      have y21 := HK.out.2.c1
      have y12 := HK.out.1.c2
      have y22 := HK.out.2.c2
      have y13 := HK.out.1.c3
      have y23 := HK.out.2.c3
      go_wp2_with fail
      refine (textC (K := 62) HV.out (by decide) Z4.out F4.out).mono ?_
      rintro e w8 ⟨rfl, hb8⟩
      have HK := Lib.hid (And.intro (HK.out.1.below hb8) (HK.out.2.below hb8))
      have HX := Lib.hid (HX.out.below hb8)
      have HY := Lib.hid (HY.out.below hb8)
      have HT := Lib.hid (HT.out.below hb8)
      have HB := Lib.hid (below_trans HB.out hb8)
      clear hb8
      clear y10 y20 y11 y21 y12 y22 y13 y23
      have y10 := HK.out.1.c0
      have y20 := HK.out.2.c0
      have y11 := HK.out.1.c1
      have y21 := HK.out.2.c1
      have y12 := HK.out.1.c2
      have y22 := HK.out.2.c2
      have y13 := HK.out.1.c3
      have y23 := HK.out.2.c3
      go_wp2_with fail
      have hc : Below w8.heap.size w8 w8.drew := (Below.refl _ _).drew
      go_region_held3 (fun w' => w'.cell? ⟨w3.heap.size, 0, none⟩ = some (.bool b1) ∧ w'.cell? ⟨w3.heap.size, 1, none⟩ = some (.slice a1 l1 p1) ∧ w'.cell? ⟨w3.heap.size, 2, none⟩ = some (.bool false) ∧ w'.cell? ⟨w3.heap.size, 3, none⟩ = some (.slice c1 m1 r1) ∧ w'.cell? ⟨(w3.heap.size + 1), 0, none⟩ = some (.bool b2) ∧ w'.cell? ⟨(w3.heap.size + 1), 1, none⟩ = some (.slice a2 l2 p2) ∧ w'.cell? ⟨(w3.heap.size + 1), 2, none⟩ = some (.bool false) ∧ w'.cell? ⟨(w3.heap.size + 1), 3, none⟩ = some (.slice c2 m2 r2) ∧ Below w8.heap.size w8 w') (first | (with_reducible exact ⟨(HK.out.1.below hc).c0, (HK.out.1.below hc).c1, (HK.out.1.below hc).c2, (HK.out.1.below hc).c3, (HK.out.2.below hc).c0, (HK.out.2.below hc).c1, (HK.out.2.below hc).c2, (HK.out.2.below hc).c3, hc⟩) | fail) (first | (go_at_call 37; (with_reducible refine (addC (K := 11) GG.out.1 GG.out.2 (by decide) E1.out (HT.out.below hc)).mono ?_); rintro e whbA ⟨rfl, hbA⟩; have hc := hc.trans (hbA.mono hc.size)) | (go_at_call 38; (with_reducible refine (radd_any (K := 22) (HX.out.below hc) (HY.out.below hc) (by decide) SN.out.1 SN.out.2).mono ?_); rintro e whbP ⟨vP, rfl, hvP, hbP⟩; have hc := hc.trans (hbP.mono hc.size)) | (go_at_call 39; (with_reducible refine (subC (K := 11) GG.out.1 GG.out.2 (by decide) E2.out (HT.out.below hc)).mono ?_); rintro e whbS ⟨rfl, hbS⟩; have hc := hc.trans (hbS.mono hc.size)) | (go_at_call 40; (with_reducible refine (rsub_any (K := 22) (HX.out.below hc) (HY.out.below hc) (by decide) SN.out.1 SN.out.2).mono ?_); rintro e whbM ⟨vM, rfl, hvM, hbM⟩; have hc := hc.trans (hbM.mono hc.size)) | (go_at_call 41; (with_reducible refine (mulC (K := 11) GG.out.1 GG.out.2 (by decide) E3.out (HT.out.below hc)).mono ?_); rintro e whbX ⟨rfl, hbX⟩; have hc := hc.trans (hbX.mono hc.size)) | (go_at_call 42; (with_reducible refine (rmul_any (K := 22) (HX.out.below hc) (HY.out.below hc) (by decide) SN.out.1 SN.out.2).mono ?_); rintro e whbZ ⟨vX, rfl, hvX, hbZ⟩; have hc := hc.trans (hbZ.mono hc.size)) | (go_at_call 19; (with_reducible refine (textC (K := 62) hvX (by decide) ZZ.out.2.2 F3.out).mono ?_); rintro e whbU ⟨rfl, hbU⟩; have hc := hc.trans (hbU.mono hc.size)) | (go_at_call 19; (with_reducible refine (textC (K := 62) hvM (by decide) ZZ.out.2.1 F2.out).mono ?_); rintro e whbV ⟨rfl, hbV⟩; have hc := hc.trans (hbV.mono hc.size)) | (go_at_call 19; (with_reducible refine (textC (K := 62) hvP (by decide) ZZ.out.1 F1.out).mono ?_); rintro e whbW ⟨rfl, hbW⟩; have hc := hc.trans (hbW.mono hc.size)) | (go_at_call 13; (with_reducible refine (awake_any (HT.out.below hc)).mono ?_); rintro e whbE ⟨rfl, hbE⟩; have hc := hc.trans (hbE.mono hc.size)) | fail)
      have HB := Lib.hid (below_trans HB.out hc)
      clear hc
      go_wp2_with fail
      go_ret
      exact ⟨rfl, HB.out⟩
end Go.Proofs.YtekghemhccfhkaaGreatDoor
namespace Go.Big
open Go Go.RowKit
theorem rabs_neg {q : Rat} (h : q.num < 0) : rabs q = -q := Rat.ext (by rw [rabs_num, Rat.neg_num]; omega) (by rw [rabs_den, Rat.neg_den])
theorem rabs_pos {q : Rat} (h : ¬ q.num < 0) : rabs q = q := Rat.ext (by rw [rabs_num]; omega) (by rw [rabs_den])
theorem rsub_num_sign (a b : Rat) : Int.sign (a + -b).num = cmpInt (a.num * b.den) (b.num * a.den) := by
  by_cases h : a < b
  · have h1 : a + -b < 0 := by rw [← Rat.sub_eq_add_neg]; grind
    have h2 : (a + -b).num < 0 := by
      rcases Int.lt_or_le (a + -b).num 0 with g | g
      · exact g
      · exact absurd (Rat.num_nonneg.1 g) (Rat.not_le.2 h1)
    have h3 : cmpInt (a.num * b.den) (b.num * a.den) = -1 := by
      have h4 := Rat.lt_iff a b |>.1 h
      unfold cmpInt
      rw [if_pos h4]
    rw [h3, Int.sign_eq_neg_one_of_neg h2]
  · by_cases g : b < a
    · have h1 : 0 < a + -b := by grind
      have h2 : 0 < (a + -b).num := num_pos_of h1
      have h3 : cmpInt (a.num * b.den) (b.num * a.den) = 1 := by
        have h4 := Rat.lt_iff b a |>.1 g
        unfold cmpInt
        rw [if_neg (by omega), if_pos h4]
      rw [h3, Int.sign_eq_one_of_pos h2]
    · have e : a = b := Rat.le_antisymm (Rat.not_lt.1 g) (Rat.not_lt.1 h)
      subst e
      have h1 : a + -a = 0 := by grind
      rw [h1]
      unfold cmpInt
      simp
end Go.Big
namespace Go.Proofs.YtekghemhccfhkaaGreatDoor
open Go.RowKit Go.Big
theorem rsignC {v : Value} {q : Rat} {c : Int} {w : World} (h : NRat w v q) (hc : Int.sign q.num = c) : Calls Tryz.prog 28 #[v] w (RetI w c) := by rw [← hc]; exact rsign_any h
theorem rcmpC {v v' : Value} {q1 q2 : Rat} {K : Nat} {c : Int} {w : World} (h : NRat w v q1) (h' : NRat w v' q2) (hK : K < 10000) (s1 : Sn K q1) (s2 : Sn K q2) (hc : cmpInt (q1.num * q2.den) (q2.num * q1.den) = c) : Calls Tryz.prog 32 #[v, v'] w (RetI w c) := by
  rw [← hc, ← rsub_num_sign]; exact rcmp_any h h' hK s1 s2
theorem compareD {s t : ByteArray} {K : Nat} {c : Int} {p q : Rat} {w : World} (gs : Nmb K s) (gt : Nmb K t) (hK : K ≤ 15) (hp : qv s = p) (hq : qv t = q) (h : cmpInt (p.num * q.den) (q.num * p.den) = c) (hT : TabsA w) : Calls Tryz.prog 31 #[.string s, .string t] w (RetI w c) := by
  subst hp; subst hq; exact compareC gs gt hK h hT
theorem negC {s S : ByteArray} {K : Nat} {w : World} (gs : Nmb K s) (hK : K ≤ 31) (h : rs (-qv s) = S) (hT : TabsA w) : Calls Tryz.prog 33 #[.string s] w (RetB w S) := by
  rw [← h]; exact negA gs.1 (gs.2.neg.mono hK) hT
def RetB2 (w : World) (s t : ByteArray) (e : Ending) (w' : World) : Prop := e = .returned (.tuple #[.string s, .string t]) ∧ Below w.heap.size w w'
theorem stringC {v : Value} {n : Int} {S : ByteArray} {w : World} (h : IntV w v n) (hT : TabsA w) (hn : n.natAbs < B64 ^ 31) (hS : rs (n : Rat) = S) : Calls Tryz.prog 60 #[v] w (RetB w S) := by
  rw [← hS]; exact string_rs h hT hn
set_option maxRecDepth 100000 in
set_option maxHeartbeats 4000000 in
/-- rational.Parts -/
theorem partsC {s N D : ByteArray} {q : Rat} (hs : s.size ≤ 608) (hq : qv s = q) (sq : Sz 31 q) (hN : rs (q.num : Rat) = N) (hD : rs ((q.den : Nat) : Int) = D) {w : World} (hT : TabsA w) : Calls Tryz.prog 26 #[.string s] w (RetB2 w N D) := by
  have HL := Lib.hid hs
  have HT := Lib.hid hT
  have HQ := Lib.hid (And.intro hN hD)
  have HZ := Lib.hid (And.intro hq (show q.num.natAbs < B64 ^ 31 ∧ ((q.den : Nat) : Int).natAbs < B64 ^ 31 by rw [Int.natAbs_natCast]; exact sq))
  clear hT hs hN hD sq hq
  go_enter Tryz.func26, Tryz.ntmps26
  go_wp2_with fail
  refine (value_any s HL.out _ HT.out.1).mono ?_
  rintro e w1 ⟨v1, rfl, ⟨a, p, b, r, rfl, h1, h2⟩, hb1⟩
  rw [HZ.out.1] at h1 h2
  obtain ⟨w2, hw2, hb2, k1, hz2⟩ := box1 w1 #[.int .i64 a, .pointer p, .int .i64 b, .pointer r] 65 (ip4 _ _ _ _)
  have k1 : K4 w1.heap.size a p b r w2 := k1
  have HK : Hid (K4 w1.heap.size a p b r w2) := Lib.hid k1
  have HA := Lib.hid (h1.below hb2)
  have HBB := Lib.hid (h2.below hb2)
  have HT := Lib.hid (HT.out.below (below_trans hb1 hb2))
  have HB := Lib.hid (below_trans hb1 hb2)
  have y0 := k1.c0
  have y1 := k1.c1
  have y2 := k1.c2
  have y3 := k1.c3
  clear h1 h2 hb1 hb2 hz2 k1
  go_wp2_with fail
  have hc : Below w2.heap.size w2 w2.drew := (Below.refl _ _).drew
  go_region_held3 (fun w' => w'.cell? ⟨w1.heap.size, 0, none⟩ = some (.int .i64 a) ∧ w'.cell? ⟨w1.heap.size, 1, none⟩ = some (.pointer p) ∧ w'.cell? ⟨w1.heap.size, 2, none⟩ = some (.int .i64 b) ∧ w'.cell? ⟨w1.heap.size, 3, none⟩ = some (.pointer r) ∧ Below w2.heap.size w2 w') (first | (with_reducible exact ⟨(HK.out.below hc).c0, (HK.out.below hc).c1, (HK.out.below hc).c2, (HK.out.below hc).c3, hc⟩) | fail) (first | (go_at_call 60; (with_reducible refine (stringC (HA.out.below hc) (HT.out.below hc) HZ.out.2.1 HQ.out.1).mono ?_); rintro e whbP ⟨rfl, hbP⟩; have hc := hc.trans (hbP.mono hc.size)) | (go_at_call 60; (with_reducible refine (stringC (HBB.out.below hc) (HT.out.below hc) HZ.out.2.2 HQ.out.2).mono ?_); rintro e whbD ⟨rfl, hbD⟩; have hc := hc.trans (hbD.mono hc.size)) | fail)
  have HB := Lib.hid (below_trans HB.out hc)
  clear hc
  go_wp2_with fail
  exact bodyPost_ret (v := .tuple #[.string N, .string D]) (by simp [results, Tryz.results26, go_sem]) rfl ⟨rfl, HB.out⟩
set_option maxRecDepth 100000 in
set_option maxHeartbeats 4000000 in
/-- Parts of the reference -/
theorem rpartsC {s N D : ByteArray} {q : Rat} {K : Nat} (hs : s.size ≤ 10000) (hK : K < 10000) (hq : qv s = q) (sq : Sn K q) (hN : rs (q.num : Rat) = N) (hD : rs ((q.den : Nat) : Int) = D) {w : World} : Calls Tryz.prog 27 #[.string s] w (RetB2 w N D) := by
  have HL := Lib.hid hs
  have HQ := Lib.hid (And.intro hN hD)
  have HZ : Hid (qv s = q ∧ K < 10000 ∧ Sn K (q.num : Rat) ∧ Sn K (((q.den : Nat) : Int) : Rat)) := Lib.hid ⟨hq, hK, by
    unfold Sn; rw [Rat.num_intCast, Rat.den_intCast]; exact ⟨sq.1, Nat.lt_of_le_of_lt (Nat.one_le_iff_ne_zero.2 q.den_nz) sq.2⟩, by
    unfold Sn; rw [Rat.num_intCast, Rat.den_intCast, Int.natAbs_natCast]; exact ⟨sq.2, Nat.lt_of_le_of_lt (Nat.one_le_iff_ne_zero.2 q.den_nz) sq.2⟩⟩
  clear hs hN hD sq hq hK
  go_enter Tryz.func27, Tryz.ntmps27
  go_wp2_with fail
  refine (num_any s HL.out _).mono ?_
  rintro e w1 ⟨v1, rfl, hv1, hb1⟩
  rw [HZ.out.1] at hv1
  obtain ⟨b1, a1, l1, p1, c1, m1, r1, rfl, e1, h1, i1⟩ := hv1.op
  obtain ⟨w2, hw2, hb2, k1, hz2⟩ := nbox1 w1 #[.bool b1, .slice a1 l1 p1, .bool false, .slice c1 m1 r1] 32 (cb4 b1 h1.cb false i1.cb)
  have HK : Hid (N4 w1.heap.size b1 (.slice a1 l1 p1) false (.slice c1 m1 r1) w2) := Lib.hid k1
  have HA := Lib.hid (nrat_int e1 (h1.below hb2))
  have HX := Lib.hid (hv1.below hb2)
  have HB := Lib.hid (hb1.trans (hb2.mono hb1.size))
  have y0 := HK.out.c0
  have y1 := HK.out.c1
  have y2 := HK.out.c2
  have y3 := HK.out.c3
  clear h1 i1 e1 hv1 hb1 hb2 hz2 k1
  go_wp2_with fail
  have hc : Below w2.heap.size w2 w2.drew := (Below.refl _ _).drew
  go_region_held3 (fun w' => w'.cell? ⟨w1.heap.size, 0, none⟩ = some (.bool b1) ∧ w'.cell? ⟨w1.heap.size, 1, none⟩ = some (.slice a1 l1 p1) ∧ w'.cell? ⟨w1.heap.size, 2, none⟩ = some (.bool false) ∧ w'.cell? ⟨w1.heap.size, 3, none⟩ = some (.slice c1 m1 r1) ∧ Below w2.heap.size w2 w') (first | (with_reducible exact ⟨(HK.out.below hc).c0, (HK.out.below hc).c1, (HK.out.below hc).c2, (HK.out.below hc).c3, hc⟩) | fail) (first | (go_at_call 19; (with_reducible refine (textC (HA.out.below hc) HZ.out.2.1 HZ.out.2.2.1 HQ.out.1).mono ?_); rintro e whbP ⟨rfl, hbP⟩; have hc := hc.trans (hbP.mono hc.size)) | (go_at_call 77; (with_reducible refine (nDen_any (HX.out.below hc)).mono ?_); rintro e whbD ⟨vD, rfl, hvD, hbD⟩; have hc := hc.trans (hbD.mono hc.size); obtain ⟨db, da, dk, dc, rfl, de, dh⟩ := hvD.op; have HD := Lib.hid (nrat_int de dh); clear hvD de dh) | (go_at_call 19; (with_reducible refine (textC HD.out HZ.out.2.1 HZ.out.2.2.2 HQ.out.2).mono ?_); rintro e whbQ ⟨rfl, hbQ⟩; have hc := hc.trans (hbQ.mono hc.size)) | fail)
  have HB := Lib.hid (HB.out.trans (hc.mono HB.out.size))
  clear hc
  go_wp2_with fail
  exact bodyPost_ret (v := .tuple #[.string N, .string D]) (by simp [results, Tryz.results27, go_sem]) rfl ⟨rfl, HB.out⟩
end Go.Proofs.YtekghemhccfhkaaGreatDoor
namespace Go.Proofs.YtekghemhccfhkaaGreatDoor
open Go.RowKit Go.Big
set_option maxRecDepth 100000 in
set_option maxHeartbeats 4000000 in
theorem rationalParts_walk (a b : ByteArray) {w : World} (hT : TabsA w) : Calls Tryz.prog 6 #[.string a, .string b] w (RetBool w true) := by
  have HT := Lib.hid hT
  obtain ⟨o, ho⟩ : ∃ o, S200 [a, b] = o := ⟨_, rfl⟩
  have HO := Lib.hid ho
  obtain ⟨w0, hw0⟩ : ∃ w0, w.alloc (.cells #[.string a, .string b] 9) = w0 := ⟨_, rfl⟩
  have hr := heap_alloc_new w (.cells #[.string a, .string b] 9)
  have hb0 : Below w.heap.size w w0 := by rw [← hw0]; exact (Below.refl _ _).alloc' _
  rw [hw0] at hr
  have HSH := Lib.hid (short22 (cap := 2) (g := w.heap.size) (w := w0) (by rw [cell_rowB hr]; rfl) (by rw [cell_rowB hr]; rfl) HO.out)
  have HT := Lib.hid (HT.out.below hb0)
  have HB := Lib.hid hb0
  clear hT ho hr hb0
  cases o with
  | false =>
    go_enter Tryz.func6, Tryz.ntmps6
    go_wp2_with fail
    refine HSH.out.mono ?_
    rintro e w1 ⟨rfl, rfl⟩
    go_wp2_with fail
    refine (awake_any HT.out).mono ?_
    rintro e w2 ⟨rfl, hb2⟩
    have HB := Lib.hid (below_trans HB.out hb2)
    clear hb2
    go_wp2_with fail
    go_ret
    exact ⟨rfl, HB.out⟩
  | true =>
    have hsz : ∀ x ∈ [a, b], x.size ≤ 200 := of_decide_eq_true HO.out
    obtain ⟨A, hA⟩ : ∃ A, qv a = A := ⟨_, rfl⟩
    obtain ⟨B, hB⟩ : ∃ B, qv b = B := ⟨_, rfl⟩
    have ha := hsz a (by simp)
    have hb := hsz b (by simp)
    have ga : Nmb 11 a := nmb_arg2 ha
    have gb : Nmb 11 b := nmb_arg2 hb
    have hza : Sz 11 A := by rw [← hA]; exact ga.2
    have hzb : Sz 11 B := by rw [← hB]; exact gb.2
    obtain ⟨N, hN⟩ : ∃ s, rs (A.num : Rat) = s := ⟨_, rfl⟩
    obtain ⟨D, hD⟩ : ∃ s, rs ((A.den : Nat) : Int) = s := ⟨_, rfl⟩
    obtain ⟨M, hM⟩ : ∃ s, rs (-A) = s := ⟨_, rfl⟩
    obtain ⟨X, hX⟩ : ∃ s, rs (rabs A) = s := ⟨_, rfl⟩
    obtain ⟨sg, hsg⟩ : ∃ c, Int.sign A.num = c := ⟨_, rfl⟩
    obtain ⟨cp, hcp⟩ : ∃ c, cmpInt (A.num * B.den) (B.num * A.den) = c := ⟨_, rfl⟩
    have GG := Lib.hid (And.intro ga gb)
    have GL := Lib.hid (show a.size ≤ 10000 ∧ b.size ≤ 10000 by omega)
    have GM := Lib.hid (show a.size ≤ 608 by omega)
    have SN : Hid (Sn 22 A ∧ Sn 22 B) := Lib.hid ⟨sn_of_sz hza, sn_of_sz hzb⟩
    have ZN : Hid (Sn 22 (-A)) := Lib.hid (sn_of_sz hza.neg)
    have ZA : Hid (Sz 31 A) := Lib.hid (hza.mono (by decide))
    have EC := Lib.hid hcp
    have FS := Lib.hid hsg
    have ES := Lib.hid (show Int.sign (qv a).num = sg from by rw [hA, hsg])
    have EN := Lib.hid (show rs (-qv a) = M from by rw [hA, hM])
    have EA := Lib.hid (show rs (rabs (qv a)) = X from by rw [hA, hX])
    have FN := Lib.hid hM
    have HND := Lib.hid (And.intro hN hD)
    have HAB := Lib.hid (And.intro hA hB)
    by_cases h0 : A.num < 0
    · have hs0 : sg < 0 := by rw [← hsg, Int.sign_eq_neg_one_of_neg h0]; decide
      have FA := Lib.hid (show rs (-A) = X from by rw [← hX, rabs_neg h0])
      clear hsz ha hb ga gb hza hzb hN hD hM hX hA hB hcp hsg h0
      go_enter Tryz.func6, Tryz.ntmps6
      go_wp2_with fail
      refine HSH.out.mono ?_
      rintro e w1 ⟨rfl, rfl⟩
      clear HSH
      go_wp2_with fail
      refine (num_any a GL.out.1 _).mono ?_
      rintro e w2 ⟨v2, rfl, hv2, hb2⟩
      rw [HAB.out.1] at hv2
      have HT := Lib.hid (HT.out.below hb2)
      have HB := Lib.hid (below_trans HB.out hb2)
      have HX := Lib.hid hv2
      clear hv2 hb2
      go_wp2_with fail
      refine (num_any b GL.out.2 _).mono ?_
      rintro e w3 ⟨v3, rfl, hv3, hb3⟩
      rw [HAB.out.2] at hv3
      have hv2 := HX.out.below hb3
      have HT := Lib.hid (HT.out.below hb3)
      have HB := Lib.hid (below_trans HB.out hb3)
      obtain ⟨b1, a1, l1, p1, c1, m1, r1, rfl, e1, h1, i1⟩ := hv2.op
      obtain ⟨b2, a2, l2, p2, c2, m2, r2, rfl, e2, h2, i2⟩ := hv3.op
      obtain ⟨w4, hw4, hb4, k5, k6, hz4⟩ := nboxes2 w3 #[.bool b1, .slice a1 l1 p1, .bool false, .slice c1 m1 r1] 32 #[.bool b2, .slice a2 l2 p2, .bool false, .slice c2 m2 r2] 32 (cb4 b1 h1.cb false i1.cb) (cb4 b2 h2.cb false i2.cb)
      have HK : Hid (N4 w3.heap.size b1 (.slice a1 l1 p1) false (.slice c1 m1 r1) w4 ∧ N4 (w3.heap.size + 1) b2 (.slice a2 l2 p2) false (.slice c2 m2 r2) w4) := Lib.hid ⟨k5, k6⟩
      have HX := Lib.hid (hv2.below hb4)
      have HY := Lib.hid (hv3.below hb4)
      have HT := Lib.hid (HT.out.below hb4)
      have HB := Lib.hid (below_trans HB.out hb4)
      clear hv2 hv3 hb3 hb4 e1 e2 h1 h2 i1 i2 k5 k6 hz4
      have y10 := HK.out.1.c0
      have y20 := HK.out.2.c0
      have y11 := HK.out.1.c1
      have y21 := HK.out.2.c1
      have y12 := HK.out.1.c2
      have y22 := HK.out.2.c2
      have y13 := HK.out.1.c3
      have y23 := HK.out.2.c3
      go_wp2_with fail
      refine (partsC GM.out HAB.out.1 ZA.out HND.out.1 HND.out.2 HT.out).mono ?_
      rintro e w5 ⟨rfl, hb5⟩
      have HK := Lib.hid (And.intro (HK.out.1.below hb5) (HK.out.2.below hb5))
      have HX := Lib.hid (HX.out.below hb5)
      have HY := Lib.hid (HY.out.below hb5)
      have HT := Lib.hid (HT.out.below hb5)
      have HB := Lib.hid (below_trans HB.out hb5)
      clear hb5
      clear y10 y20 y11 y21 y12 y22 y13 y23
      have y10 := HK.out.1.c0
      have y20 := HK.out.2.c0
      have y11 := HK.out.1.c1
      have y21 := HK.out.2.c1
      have y12 := HK.out.1.c2
      have y22 := HK.out.2.c2
      have y13 := HK.out.1.c3
      have y23 := HK.out.2.c3
      go_wp2_with fail
      refine (rpartsC (K := 22) GL.out.1 (by decide) HAB.out.1 SN.out.1 HND.out.1 HND.out.2).mono ?_
      rintro e w6 ⟨rfl, hb6⟩
      have HK := Lib.hid (And.intro (HK.out.1.below hb6) (HK.out.2.below hb6))
      have HX := Lib.hid (HX.out.below hb6)
      have HY := Lib.hid (HY.out.below hb6)
      have HT := Lib.hid (HT.out.below hb6)
      have HB := Lib.hid (below_trans HB.out hb6)
      clear hb6
      clear y10 y20 y11 y21 y12 y22 y13 y23
      have y10 := HK.out.1.c0
      have y20 := HK.out.2.c0
      have y11 := HK.out.1.c1
      have y21 := HK.out.2.c1
      have y12 := HK.out.1.c2
      have y22 := HK.out.2.c2
      have y13 := HK.out.1.c3
      have y23 := HK.out.2.c3
      obtain ⟨w7, hw7, hb7, k3, hz7⟩ := nbox1 w6 #[.bool b1, .slice a1 l1 p1, .bool false, .slice c1 m1 r1] 32 (cb4 b1 (Cb.sl a1 l1 p1) false (Cb.sl c1 m1 r1))
      have k3 : N4 w6.heap.size b1 (.slice a1 l1 p1) false (.slice c1 m1 r1) w7 := k3
      have HK3 := Lib.hid k3
      have x10 := (HK.out.1.below hb7).c0
      have x20 := (HK.out.2.below hb7).c0
      have x11 := (HK.out.1.below hb7).c1
      have x21 := (HK.out.2.below hb7).c1
      have x12 := (HK.out.1.below hb7).c2
      have x22 := (HK.out.2.below hb7).c2
      have x13 := (HK.out.1.below hb7).c3
      have x23 := (HK.out.2.below hb7).c3
      have y30 := k3.c0
      have y31 := k3.c1
      have y32 := k3.c2
      have y33 := k3.c3
      clear hz7
      go_wp2_with fail
      refine (rsignC (HX.out.below hb7) FS.out).mono ?_
      rintro e w8 ⟨rfl, hb8⟩
      have hb78 := hb7.trans (hb8.mono hb7.size)
      have k3 := HK3.out.below hb8
      have HK3 := Lib.hid k3
      clear y10 y20 y11 y21 y12 y22 y13 y23 y30 y31 y32 y33
      clear x10 x20 x11 x21 x12 x22 x13 x23
      clear hb7 hb8
      have y10 := (HK.out.1.below hb78).c0
      have y20 := (HK.out.2.below hb78).c0
      have y11 := (HK.out.1.below hb78).c1
      have y21 := (HK.out.2.below hb78).c1
      have y12 := (HK.out.1.below hb78).c2
      have y22 := (HK.out.2.below hb78).c2
      have y13 := (HK.out.1.below hb78).c3
      have y23 := (HK.out.2.below hb78).c3
      have y30 := k3.c0
      have y31 := k3.c1
      have y32 := k3.c2
      have y33 := k3.c3
      clear hw7
      go_wp2_with fail
      refine (rneg_any (HX.out.below hb78)).mono ?_
      rintro e w9 ⟨v9, rfl, hv9, hb9⟩
      obtain ⟨b3, a3, l3, p3, c3, m3, r3, rfl, e3, h3, i3⟩ := hv9.op
      have k3 := HK3.out.below hb9
      have hb79 := hb78.trans (hb9.mono hb78.size)
      clear y10 y20 y11 y21 y12 y22 y13 y23 y30 y31 y32 y33
      obtain ⟨WW, hWW⟩ : ∃ WW, (((w9.setCell ⟨w6.heap.size, 0, none⟩ (.bool b3)).setCell ⟨w6.heap.size, 1, none⟩ (.slice a3 l3 p3)).setCell ⟨w6.heap.size, 2, none⟩ (.bool false)).setCell ⟨w6.heap.size, 3, none⟩ (.slice c3 m3 r3) = WW := ⟨_, rfl⟩
      obtain ⟨z0, z1, z2, z3, z4⟩ := ret_rat (w := w6) (q := -A) k3 e3 h3 i3 hb79 (Nat.le_refl _) hWW
      obtain ⟨v0, hv0, n9, hbW⟩ := z4
      cases hv0
      have HK3 : Hid (N4 w6.heap.size b3 (.slice a3 l3 p3) false (.slice c3 m3 r3) WW) := Lib.hid (by rw [← hWW]; exact k3.st b3 (Cb.sl a3 l3 p3) false (Cb.sl c3 m3 r3))
      have H3 := Lib.hid n9
      have Z3 := ZN
      have d0 := k3.c0
      have f0 := k3.f 0
      have d1 := k3.c1
      have f1 := k3.f 1
      have d2 := k3.c2
      have f2 := k3.f 2
      have d3 := k3.c3
      have f3 := k3.f 3
      clear n9 e3 h3 i3 hv9 hb78 hb79 hb9 z0 z1 z2 z3 k3
      have HKW := Lib.hid (And.intro (HK.out.1.below hbW) (HK.out.2.below hbW))
      have HXW := Lib.hid (HX.out.below hbW)
      have HYW := Lib.hid (HY.out.below hbW)
      have HTW := Lib.hid (HT.out.below hbW)
      have HBW := Lib.hid (below_trans HB.out hbW)
      clear HK HX HY HT HB hbW
      have HK := HKW
      have HX := HXW
      have HY := HYW
      have HT := HTW
      have HB := HBW
      have y10 := HK.out.1.c0
      have y20 := HK.out.2.c0
      have y11 := HK.out.1.c1
      have y21 := HK.out.2.c1
      have y12 := HK.out.1.c2
      have y22 := HK.out.2.c2
      have y13 := HK.out.1.c3
      have y23 := HK.out.2.c3
      have y30 := HK3.out.c0
      have y31 := HK3.out.c1
      have y32 := HK3.out.c2
      have y33 := HK3.out.c3
      clear HKW HXW HYW HTW HBW
      go_wp2_with fail
      have hc : Below WW.heap.size WW WW.drew := (Below.refl _ _).drew
      go_region_held3 (fun w' => w'.cell? ⟨w3.heap.size, 0, none⟩ = some (.bool b1) ∧ w'.cell? ⟨w3.heap.size, 1, none⟩ = some (.slice a1 l1 p1) ∧ w'.cell? ⟨w3.heap.size, 2, none⟩ = some (.bool false) ∧ w'.cell? ⟨w3.heap.size, 3, none⟩ = some (.slice c1 m1 r1) ∧ w'.cell? ⟨(w3.heap.size + 1), 0, none⟩ = some (.bool b2) ∧ w'.cell? ⟨(w3.heap.size + 1), 1, none⟩ = some (.slice a2 l2 p2) ∧ w'.cell? ⟨(w3.heap.size + 1), 2, none⟩ = some (.bool false) ∧ w'.cell? ⟨(w3.heap.size + 1), 3, none⟩ = some (.slice c2 m2 r2) ∧ w'.cell? ⟨w6.heap.size, 0, none⟩ = some (.bool b3) ∧ w'.cell? ⟨w6.heap.size, 1, none⟩ = some (.slice a3 l3 p3) ∧ w'.cell? ⟨w6.heap.size, 2, none⟩ = some (.bool false) ∧ w'.cell? ⟨w6.heap.size, 3, none⟩ = some (.slice c3 m3 r3) ∧ Below WW.heap.size WW w') (first | (with_reducible exact ⟨(HK.out.1.below hc).c0, (HK.out.1.below hc).c1, (HK.out.1.below hc).c2, (HK.out.1.below hc).c3, (HK.out.2.below hc).c0, (HK.out.2.below hc).c1, (HK.out.2.below hc).c2, (HK.out.2.below hc).c3, (HK3.out.below hc).c0, (HK3.out.below hc).c1, (HK3.out.below hc).c2, (HK3.out.below hc).c3, hc⟩) | fail) (first | (go_at_call 30; (with_reducible refine (signC GG.out.1 ES.out (HT.out.below hc)).mono ?_); rintro e whbA ⟨rfl, hbA⟩; have hc := hc.trans (hbA.mono hc.size)) | (go_at_call 28; (with_reducible refine (rsignC (HX.out.below hc) FS.out).mono ?_); rintro e whbP ⟨rfl, hbP⟩; have hc := hc.trans (hbP.mono hc.size)) | (go_at_call 31; (with_reducible refine (compareD (K := 11) GG.out.1 GG.out.2 (by decide) HAB.out.1 HAB.out.2 EC.out (HT.out.below hc)).mono ?_); rintro e whbS ⟨rfl, hbS⟩; have hc := hc.trans (hbS.mono hc.size)) | (go_at_call 32; (with_reducible refine (rcmpC (K := 22) (HX.out.below hc) (HY.out.below hc) (by decide) SN.out.1 SN.out.2 EC.out).mono ?_); rintro e whbM ⟨rfl, hbM⟩; have hc := hc.trans (hbM.mono hc.size)) | (go_at_call 33; (with_reducible refine (negC (K := 11) GG.out.1 (by decide) EN.out (HT.out.below hc)).mono ?_); rintro e whbX ⟨rfl, hbX⟩; have hc := hc.trans (hbX.mono hc.size)) | (go_at_call 29; (with_reducible refine (rneg_any (HX.out.below hc)).mono ?_); rintro e whbZ ⟨vX, rfl, hvX, hbZ⟩; have hc := hc.trans (hbZ.mono hc.size)) | (go_at_call 34; (with_reducible refine (absC (K := 11) GG.out.1 (by decide) EA.out (HT.out.below hc)).mono ?_); rintro e whbV ⟨rfl, hbV⟩; have hc := hc.trans (hbV.mono hc.size)) | (go_at_call 19; (with_reducible refine (textC (K := 22) (H3.out.below hc) (by decide) Z3.out FA.out).mono ?_); rintro e whbW ⟨rfl, hbW⟩; have hc := hc.trans (hbW.mono hc.size)) | (go_at_call 19; (with_reducible refine (textC (K := 22) hvX (by decide) ZN.out FN.out).mono ?_); rintro e whbU ⟨rfl, hbU⟩; have hc := hc.trans (hbU.mono hc.size)) | (go_at_call 13; (with_reducible refine (awake_any (HT.out.below hc)).mono ?_); rintro e whbE ⟨rfl, hbE⟩; have hc := hc.trans (hbE.mono hc.size)) | fail)
      have HB := Lib.hid (below_trans HB.out hc)
      clear hc
      go_wp2_with fail
      go_ret
      exact ⟨rfl, HB.out⟩
    · have hs0 : ¬ sg < 0 := by rw [← hsg, Int.sign_neg_iff]; exact h0
      have FA := Lib.hid (show rs A = X from by rw [← hX, rabs_pos h0])
      clear hsz ha hb ga gb hza hzb hN hD hM hX hA hB hcp hsg h0
      go_enter Tryz.func6, Tryz.ntmps6
      go_wp2_with fail
      refine HSH.out.mono ?_
      rintro e w1 ⟨rfl, rfl⟩
      clear HSH
      go_wp2_with fail
      refine (num_any a GL.out.1 _).mono ?_
      rintro e w2 ⟨v2, rfl, hv2, hb2⟩
      rw [HAB.out.1] at hv2
      have HT := Lib.hid (HT.out.below hb2)
      have HB := Lib.hid (below_trans HB.out hb2)
      have HX := Lib.hid hv2
      clear hv2 hb2
      go_wp2_with fail
      refine (num_any b GL.out.2 _).mono ?_
      rintro e w3 ⟨v3, rfl, hv3, hb3⟩
      rw [HAB.out.2] at hv3
      have hv2 := HX.out.below hb3
      have HT := Lib.hid (HT.out.below hb3)
      have HB := Lib.hid (below_trans HB.out hb3)
      obtain ⟨b1, a1, l1, p1, c1, m1, r1, rfl, e1, h1, i1⟩ := hv2.op
      obtain ⟨b2, a2, l2, p2, c2, m2, r2, rfl, e2, h2, i2⟩ := hv3.op
      obtain ⟨w4, hw4, hb4, k5, k6, hz4⟩ := nboxes2 w3 #[.bool b1, .slice a1 l1 p1, .bool false, .slice c1 m1 r1] 32 #[.bool b2, .slice a2 l2 p2, .bool false, .slice c2 m2 r2] 32 (cb4 b1 h1.cb false i1.cb) (cb4 b2 h2.cb false i2.cb)
      have HK : Hid (N4 w3.heap.size b1 (.slice a1 l1 p1) false (.slice c1 m1 r1) w4 ∧ N4 (w3.heap.size + 1) b2 (.slice a2 l2 p2) false (.slice c2 m2 r2) w4) := Lib.hid ⟨k5, k6⟩
      have HX := Lib.hid (hv2.below hb4)
      have HY := Lib.hid (hv3.below hb4)
      have HT := Lib.hid (HT.out.below hb4)
      have HB := Lib.hid (below_trans HB.out hb4)
      clear hv2 hv3 hb3 hb4 e1 e2 h1 h2 i1 i2 k5 k6 hz4
      have y10 := HK.out.1.c0
      have y20 := HK.out.2.c0
      have y11 := HK.out.1.c1
      have y21 := HK.out.2.c1
      have y12 := HK.out.1.c2
      have y22 := HK.out.2.c2
      have y13 := HK.out.1.c3
      have y23 := HK.out.2.c3
      go_wp2_with fail
      refine (partsC GM.out HAB.out.1 ZA.out HND.out.1 HND.out.2 HT.out).mono ?_
      rintro e w5 ⟨rfl, hb5⟩
      have HK := Lib.hid (And.intro (HK.out.1.below hb5) (HK.out.2.below hb5))
      have HX := Lib.hid (HX.out.below hb5)
      have HY := Lib.hid (HY.out.below hb5)
      have HT := Lib.hid (HT.out.below hb5)
      have HB := Lib.hid (below_trans HB.out hb5)
      clear hb5
      clear y10 y20 y11 y21 y12 y22 y13 y23
      have y10 := HK.out.1.c0
      have y20 := HK.out.2.c0
      have y11 := HK.out.1.c1
      have y21 := HK.out.2.c1
      have y12 := HK.out.1.c2
      have y22 := HK.out.2.c2
      have y13 := HK.out.1.c3
      have y23 := HK.out.2.c3
      go_wp2_with fail
      refine (rpartsC (K := 22) GL.out.1 (by decide) HAB.out.1 SN.out.1 HND.out.1 HND.out.2).mono ?_
      rintro e w6 ⟨rfl, hb6⟩
      have HK := Lib.hid (And.intro (HK.out.1.below hb6) (HK.out.2.below hb6))
      have HX := Lib.hid (HX.out.below hb6)
      have HY := Lib.hid (HY.out.below hb6)
      have HT := Lib.hid (HT.out.below hb6)
      have HB := Lib.hid (below_trans HB.out hb6)
      clear hb6
      clear y10 y20 y11 y21 y12 y22 y13 y23
      have y10 := HK.out.1.c0
      have y20 := HK.out.2.c0
      have y11 := HK.out.1.c1
      have y21 := HK.out.2.c1
      have y12 := HK.out.1.c2
      have y22 := HK.out.2.c2
      have y13 := HK.out.1.c3
      have y23 := HK.out.2.c3
      obtain ⟨w7, hw7, hb7, k3, hz7⟩ := nbox1 w6 #[.bool b1, .slice a1 l1 p1, .bool false, .slice c1 m1 r1] 32 (cb4 b1 (Cb.sl a1 l1 p1) false (Cb.sl c1 m1 r1))
      have k3 : N4 w6.heap.size b1 (.slice a1 l1 p1) false (.slice c1 m1 r1) w7 := k3
      have HK3 := Lib.hid k3
      have x10 := (HK.out.1.below hb7).c0
      have x20 := (HK.out.2.below hb7).c0
      have x11 := (HK.out.1.below hb7).c1
      have x21 := (HK.out.2.below hb7).c1
      have x12 := (HK.out.1.below hb7).c2
      have x22 := (HK.out.2.below hb7).c2
      have x13 := (HK.out.1.below hb7).c3
      have x23 := (HK.out.2.below hb7).c3
      have y30 := k3.c0
      have y31 := k3.c1
      have y32 := k3.c2
      have y33 := k3.c3
      clear hz7
      go_wp2_with fail
      refine (rsignC (HX.out.below hb7) FS.out).mono ?_
      rintro e w8 ⟨rfl, hb8⟩
      have hb78 := hb7.trans (hb8.mono hb7.size)
      have k3 := HK3.out.below hb8
      have HK3 := Lib.hid k3
      clear y10 y20 y11 y21 y12 y22 y13 y23 y30 y31 y32 y33
      clear x10 x20 x11 x21 x12 x22 x13 x23
      clear hb7 hb8
      have HK := Lib.hid (And.intro (HK.out.1.below hb78) (HK.out.2.below hb78))
      have HX := Lib.hid (HX.out.below hb78)
      have HY := Lib.hid (HY.out.below hb78)
      have HT := Lib.hid (HT.out.below hb78)
      have HB := Lib.hid (below_trans HB.out hb78)
      clear hb78
      have H3 := HX
      have Z3 : Hid (Sn 22 A) := Lib.hid SN.out.1
      clear hw7 k3
      have y10 := HK.out.1.c0
      have y20 := HK.out.2.c0
      have y11 := HK.out.1.c1
      have y21 := HK.out.2.c1
      have y12 := HK.out.1.c2
      have y22 := HK.out.2.c2
      have y13 := HK.out.1.c3
      have y23 := HK.out.2.c3
      have y30 := HK3.out.c0
      have y31 := HK3.out.c1
      have y32 := HK3.out.c2
      have y33 := HK3.out.c3
      go_wp2_with fail
      have hc : Below w8.heap.size w8 w8.drew := (Below.refl _ _).drew
      go_region_held3 (fun w' => w'.cell? ⟨w3.heap.size, 0, none⟩ = some (.bool b1) ∧ w'.cell? ⟨w3.heap.size, 1, none⟩ = some (.slice a1 l1 p1) ∧ w'.cell? ⟨w3.heap.size, 2, none⟩ = some (.bool false) ∧ w'.cell? ⟨w3.heap.size, 3, none⟩ = some (.slice c1 m1 r1) ∧ w'.cell? ⟨(w3.heap.size + 1), 0, none⟩ = some (.bool b2) ∧ w'.cell? ⟨(w3.heap.size + 1), 1, none⟩ = some (.slice a2 l2 p2) ∧ w'.cell? ⟨(w3.heap.size + 1), 2, none⟩ = some (.bool false) ∧ w'.cell? ⟨(w3.heap.size + 1), 3, none⟩ = some (.slice c2 m2 r2) ∧ w'.cell? ⟨w6.heap.size, 0, none⟩ = some (.bool b1) ∧ w'.cell? ⟨w6.heap.size, 1, none⟩ = some (.slice a1 l1 p1) ∧ w'.cell? ⟨w6.heap.size, 2, none⟩ = some (.bool false) ∧ w'.cell? ⟨w6.heap.size, 3, none⟩ = some (.slice c1 m1 r1) ∧ Below w8.heap.size w8 w') (first | (with_reducible exact ⟨(HK.out.1.below hc).c0, (HK.out.1.below hc).c1, (HK.out.1.below hc).c2, (HK.out.1.below hc).c3, (HK.out.2.below hc).c0, (HK.out.2.below hc).c1, (HK.out.2.below hc).c2, (HK.out.2.below hc).c3, (HK3.out.below hc).c0, (HK3.out.below hc).c1, (HK3.out.below hc).c2, (HK3.out.below hc).c3, hc⟩) | fail) (first | (go_at_call 30; (with_reducible refine (signC GG.out.1 ES.out (HT.out.below hc)).mono ?_); rintro e whbA ⟨rfl, hbA⟩; have hc := hc.trans (hbA.mono hc.size)) | (go_at_call 28; (with_reducible refine (rsignC (HX.out.below hc) FS.out).mono ?_); rintro e whbP ⟨rfl, hbP⟩; have hc := hc.trans (hbP.mono hc.size)) | (go_at_call 31; (with_reducible refine (compareD (K := 11) GG.out.1 GG.out.2 (by decide) HAB.out.1 HAB.out.2 EC.out (HT.out.below hc)).mono ?_); rintro e whbS ⟨rfl, hbS⟩; have hc := hc.trans (hbS.mono hc.size)) | (go_at_call 32; (with_reducible refine (rcmpC (K := 22) (HX.out.below hc) (HY.out.below hc) (by decide) SN.out.1 SN.out.2 EC.out).mono ?_); rintro e whbM ⟨rfl, hbM⟩; have hc := hc.trans (hbM.mono hc.size)) | (go_at_call 33; (with_reducible refine (negC (K := 11) GG.out.1 (by decide) EN.out (HT.out.below hc)).mono ?_); rintro e whbX ⟨rfl, hbX⟩; have hc := hc.trans (hbX.mono hc.size)) | (go_at_call 29; (with_reducible refine (rneg_any (HX.out.below hc)).mono ?_); rintro e whbZ ⟨vX, rfl, hvX, hbZ⟩; have hc := hc.trans (hbZ.mono hc.size)) | (go_at_call 34; (with_reducible refine (absC (K := 11) GG.out.1 (by decide) EA.out (HT.out.below hc)).mono ?_); rintro e whbV ⟨rfl, hbV⟩; have hc := hc.trans (hbV.mono hc.size)) | (go_at_call 19; (with_reducible refine (textC (K := 22) (H3.out.below hc) (by decide) Z3.out FA.out).mono ?_); rintro e whbW ⟨rfl, hbW⟩; have hc := hc.trans (hbW.mono hc.size)) | (go_at_call 19; (with_reducible refine (textC (K := 22) hvX (by decide) ZN.out FN.out).mono ?_); rintro e whbU ⟨rfl, hbU⟩; have hc := hc.trans (hbU.mono hc.size)) | (go_at_call 13; (with_reducible refine (awake_any (HT.out.below hc)).mono ?_); rintro e whbE ⟨rfl, hbE⟩; have hc := hc.trans (hbE.mono hc.size)) | fail)
      have HB := Lib.hid (below_trans HB.out hc)
      clear hc
      go_wp2_with fail
      go_ret
      exact ⟨rfl, HB.out⟩
end Go.Proofs.YtekghemhccfhkaaGreatDoor
