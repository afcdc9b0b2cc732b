/-
  Walks of the program's functions: NReadM, NRead, NNum, LawN, NPow44, PowMath.
-/
import Derived.Test.YtekghemhccfhkaaGreatDoorB45
import Derived.Test.YtekghemhccfhkaaGreatDoorB47
import Derived.Test.YtekghemhccfhkaaGreatDoorB44
import Derived.Test.YtekghemhccfhkaaGreatDoorB34
import Derived.Deep.RegionWith
import Derived.Test.YtekghemhccfhkaaGreatDoorB33
namespace Go.Big
open Go Go.RowKit
theorem rat_cross {p q : Rat} (h : p.num * q.den = q.num * p.den) : p = q := by
  have h1 := p.den_nz
  have h2 := q.den_nz
  have e := (Rat.divInt_eq_divInt_iff (n₁ := p.num) (d₁ := p.den) (n₂ := q.num) (d₂ := q.den) (by omega) (by omega)).2 h
  rwa [Rat.num_divInt_den, Rat.num_divInt_den] at e
theorem divInt_cross {n d : Int} (hd : d ≠ 0) : (Rat.divInt n d).num * d = n * (Rat.divInt n d).den := by
  have h2 := (Rat.divInt n d).den_nz
  have e := Rat.num_divInt_den (Rat.divInt n d)
  rwa [Rat.divInt_eq_divInt_iff (by omega) hd] at e
theorem nr_none {s T : List UInt8} {b : Bool} {q : Rat} (h : s = rtext q) (hu : unsign s = (T, b)) (hs : slash T = none) : q.den = 1 ∧ q.num = signed b (dec T) ∧ Dig T ∧ T ≠ [] := by
  subst h
  unfold rtext at hu
  rw [unsign_itext] at hu
  simp only [Prod.mk.injEq] at hu
  obtain ⟨h1, h2⟩ := hu
  by_cases hd : q.den = 1
  · rw [if_pos hd, List.append_nil] at h1
    rw [← h1, ← h2]
    refine ⟨hd, ?_, dd_dig _, dd_ne _⟩
    rw [dd_dec, signed_abs]
  · rw [if_neg hd] at h1
    rw [← h1, slash_some (dd_noslash _)] at hs
    cases hs
theorem nr_sl {s T a c : List UInt8} {b : Bool} {q : Rat} (h : s = rtext q) (hu : unsign s = (T, b)) (hs : slash T = some (a, c)) : q.num = signed b (dec a) ∧ q.den = dec c ∧ Dig a ∧ a ≠ [] ∧ Dig c ∧ c ≠ [] := by
  subst h
  unfold rtext at hu
  rw [unsign_itext] at hu
  simp only [Prod.mk.injEq] at hu
  obtain ⟨h1, h2⟩ := hu
  by_cases hd : q.den = 1
  · rw [if_pos hd, List.append_nil] at h1
    rw [← h1, slash_none (dd_noslash _)] at hs
    cases hs
  · rw [if_neg hd] at h1
    rw [← h1, slash_some (dd_noslash _)] at hs
    simp only [Option.some.injEq, Prod.mk.injEq] at hs
    rw [← hs.1, ← hs.2, ← h2, dd_dec, dd_dec, signed_abs]
    exact ⟨rfl, rfl, dd_dig _, dd_ne _, dd_dig _, dd_ne _⟩
theorem rs_iff {s : ByteArray} {q : Rat} : s = rs q ↔ s.data.toList = rtext q := by
  constructor
  · rintro rfl; rfl
  · intro h; exact ByteArray.ext (Array.toList_inj.1 h)
/-- What Read says. -/
def NrdPost (s : ByteArray) (w : World) (e : Ending) (w' : World) (R : World → Value → Rat → Prop) : Prop :=
  ∃ (v : Value) (b : Bool) (q : Rat), e = .returned (.tuple #[v, .bool b]) ∧ R w' v q ∧ (b = true → s = rs q) ∧ (b = false → ∀ p, s ≠ rs p) ∧ Below w.heap.size w w'
theorem nrd_fin {s t : ByteArray} {q : Rat} (ht : t = rs q) (hall : ∀ p, s = rs p → p = q) : ((t.toList == s.toList) = true → s = rs q) ∧ ((t.toList == s.toList) = false → ∀ p, s ≠ rs p) := by
  subst ht
  constructor
  · intro h
    rw [beq_iff_eq, Lib.toList_data, Lib.toList_data] at h
    exact rs_iff.2 h.symm
  · rintro h p hp
    have e := hall p hp
    subst e
    subst hp
    rw [beq_self_eq_true] at h; cases h
theorem ext_list (T : ByteArray) (i j : Nat) : (T.extract i j).data.toList = (T.data.toList.take j).drop i := by
  rw [ByteArray.data_extract]; simp [List.extract_eq_take_drop, List.drop_take]
theorem ext_size (T : ByteArray) (i : Nat) : (T.extract 0 i).size = min i T.size := by
  rw [ByteArray.size_extract]; omega
theorem ext_size' (T : ByteArray) (i : Nat) : (T.extract i T.size).size = T.size - i := by
  rw [ByteArray.size_extract]; omega
theorem sl_at {L : List UInt8} {i : Nat} (h : ∀ b ∈ L.take i, b ≠ 47) (hi : i < L.length) (hb : L[i] = 47) : slash L = some (L.take i, L.drop (i + 1)) := by
  have e : L = L.take i ++ 47 :: L.drop (i + 1) := by
    rw [← hb, List.getElem_cons_drop, List.take_append_drop]
  conv => lhs; rw [e]
  exact slash_some h
theorem un_yes {s : ByteArray} (h0 : 0 < s.size) (hb : s[0].toNat = 45) : unsign s.data.toList = ((s.extract 1 s.size).data.toList, true) := by
  have hsz : s.data.toList.length = s.size := (Lib.size_eq s).symm
  have e : s[0] = s.data.toList[0]'(by omega) := by simp [ByteArray.getElem_eq_getElem_data]
  rw [ext_list, List.take_of_length_le (by omega)]
  cases hL : s.data.toList with
  | nil => rw [hL] at hsz; simp at hsz; omega
  | cons x m =>
    have hx : x = 45 := by
      have : s[0] = x := by rw [e]; simp [hL]
      rw [this] at hb; exact UInt8.toNat_inj.1 hb
    subst hx
    rfl
theorem un_no {s : ByteArray} (h0 : 0 < s.size) (hb : s[0].toNat ≠ 45) : unsign s.data.toList = (s.data.toList, false) := by
  have hsz : s.data.toList.length = s.size := (Lib.size_eq s).symm
  have e : s[0] = s.data.toList[0]'(by omega) := by simp [ByteArray.getElem_eq_getElem_data]
  cases hL : s.data.toList with
  | nil => rfl
  | cons x m =>
    have hx : x ≠ 45 := by
      have : s[0] = x := by rw [e]; simp [hL]
      rintro rfl
      rw [this] at hb; exact hb rfl
    unfold unsign
    split
    · next h => cases h; exact absurd rfl hx
    · rfl
theorem un_nil {s : ByteArray} (h0 : ¬ 0 < s.size) : unsign s.data.toList = (s.data.toList, false) := by
  have hsz : s.data.toList.length = s.size := (Lib.size_eq s).symm
  rw [List.eq_nil_of_length_eq_zero (l := s.data.toList) (by omega)]; rfl
theorem rd_badN {s T : ByteArray} {b : Bool} {p : Rat} (hu : unsign s.data.toList = (T.data.toList, b)) (hs : slash T.data.toList = none) (hp : s = rs p) (h : ¬ (Dig T.data.toList ∧ 0 < T.size)) : False := by
  obtain ⟨_, _, h3, h4⟩ := nr_none (rs_iff.1 hp) hu hs
  have hsz : T.data.toList.length = T.size := (Lib.size_eq T).symm
  apply h
  have := List.length_pos_iff.2 h4
  exact ⟨h3, by omega⟩
theorem rd_badS {s T : ByteArray} {b : Bool} {p : Rat} {i : Nat} (hu : unsign s.data.toList = (T.data.toList, b)) (hs : slash T.data.toList = some (T.data.toList.take i, T.data.toList.drop (i + 1))) (hp : s = rs p) (h : ¬ (Dig (T.extract 0 i).data.toList ∧ 0 < (T.extract 0 i).size)) : False := by
  obtain ⟨_, _, h3, h4, _⟩ := nr_sl (rs_iff.1 hp) hu hs
  have hsz : T.data.toList.length = T.size := (Lib.size_eq T).symm
  apply h
  rw [ext_list, List.drop_zero, ext_size]
  have := List.length_pos_iff.2 h4
  rw [List.length_take] at this
  exact ⟨h3, by omega⟩
theorem rd_badT {s T : ByteArray} {b : Bool} {p : Rat} {i : Nat} (hu : unsign s.data.toList = (T.data.toList, b)) (hs : slash T.data.toList = some (T.data.toList.take i, T.data.toList.drop (i + 1))) (hp : s = rs p) (h : ¬ (Dig (T.extract (i + 1) T.size).data.toList ∧ 0 < (T.extract (i + 1) T.size).size ∧ dec (T.extract (i + 1) T.size).data.toList ≠ 0)) : False := by
  obtain ⟨_, h2, _, _, h3, h4⟩ := nr_sl (rs_iff.1 hp) hu hs
  have hsz : T.data.toList.length = T.size := (Lib.size_eq T).symm
  apply h
  have hd := p.den_nz
  rw [ext_list, List.take_of_length_le (by omega), ext_size']
  have := List.length_pos_iff.2 h4
  rw [List.length_drop] at this
  exact ⟨h3, by omega, by omega⟩
end Go.Big
namespace Go.Proofs.YtekghemhccfhkaaGreatDoor
open Go.RowKit Go.Big
theorem nrat_cells {w : World} {b : Bool} {ao ao' : Option Addr} {k cap k' cap' : Nat} {q : Rat} (h : NRat w (.agg #[.bool b, .slice ao k cap, .bool false, .slice ao' k' cap']) q) : b = decide (q.num < 0) ∧ NatV w .u32 B32 (.slice ao k cap) q.num.natAbs ∧ NatV w .u32 B32 (.slice ao' k' cap') (dn q.den) := by
  obtain ⟨_, _, _, _, _, _, _, e, h0, h1, h2⟩ := h.op
  cases e
  exact ⟨h0, h1, h2⟩
/-- Lowest terms are the smallest ones. -/
theorem low_le {q : Rat} {n d : Int} (hd : 0 < d) (h : q.num * d = n * q.den) : q.num.natAbs ≤ n.natAbs ∧ (q.den : Int) ≤ d := by
  obtain ⟨h1, h2⟩ := frac_parts hd h
  constructor
  · rw [h1, Int.natAbs_tdiv]; exact Nat.div_le_self _ _
  · have : q.den ≤ d.natAbs := by
      have e : ((q.den : Nat) : Int).natAbs = q.den := Int.natAbs_natCast _
      rw [← e, h2, Int.natAbs_tdiv]; exact Nat.div_le_self _ _
    omega
theorem nrat_int {w : World} {b : Bool} {ao : Option Addr} {k cap : Nat} {n : Int} (hb : b = decide (n < 0)) (h : NatV w .u32 B32 (.slice ao k cap) n.natAbs) : NRat w (.agg #[.bool b, .slice ao k cap, .bool false, .slice none 0 0]) (n : Rat) :=
  ⟨ao, k, cap, none, 0, 0, by rw [Rat.num_intCast, hb], by rw [Rat.num_intCast]; exact h, by rw [Rat.den_intCast]; exact mag_nil _⟩
theorem rd_allN {s T : ByteArray} {b : Bool} {n : Int} {Q : Rat} (hu : unsign s.data.toList = (T.data.toList, b)) (hs : slash T.data.toList = none) (hn : n = (dec T.data.toList : Nat)) (hQ : ((signed b n.natAbs : Int) : Rat) = Q) : ∀ p, s = rs p → p = Q := by
  intro p hp
  obtain ⟨h1, h2, _, _⟩ := nr_none (rs_iff.1 hp) hu hs
  rw [hn, Int.natAbs_natCast] at hQ
  rw [← hQ, ← h2]
  exact Rat.ext (by rw [Rat.num_intCast]) (by rw [Rat.den_intCast, h1])
theorem rd_sizeN {T : ByteArray} {b : Bool} {n : Int} {Q : Rat} (hd : Dig T.data.toList) (hn : n = (dec T.data.toList : Nat)) (hQ : ((signed b n.natAbs : Int) : Rat) = Q) (hsz : T.data.toList.length ≤ T.size) : Q.num.natAbs < B32 ^ (T.size + 1) ∧ Q.den < B32 ^ (T.size + 1) := by
  have h := dec_b32 hd (n := T.size + 1) (by omega)
  have h1 := one_b32 T.size
  rw [hn, Int.natAbs_natCast] at hQ
  rw [← hQ, Rat.num_intCast, Rat.den_intCast, Go.Big.signed_natAbs]
  exact ⟨h, by omega⟩
theorem rd_allS {s T : ByteArray} {b : Bool} {i : Nat} {n d : Int} {Q : Rat} (hu : unsign s.data.toList = (T.data.toList, b)) (hs : slash T.data.toList = some (T.data.toList.take i, T.data.toList.drop (i + 1))) (hn : n = (dec (T.extract 0 i).data.toList : Nat)) (hd : d = (dec (T.extract (i + 1) T.size).data.toList : Nat)) (hQ : Rat.divInt (signed b n.natAbs) d = Q) : ∀ p, s = rs p → p = Q := by
  intro p hp
  obtain ⟨h1, h2, _, _⟩ := nr_sl (rs_iff.1 hp) hu hs
  have hsz : T.data.toList.length = T.size := (Lib.size_eq T).symm
  rw [ext_list, List.drop_zero] at hn
  rw [ext_list, List.take_of_length_le (by omega)] at hd
  rw [hn, Int.natAbs_natCast, ← h1, hd, ← h2, Rat.num_divInt_den] at hQ
  exact hQ
theorem rd_sizeS {T : ByteArray} {b : Bool} {i : Nat} {n d : Int} {Q : Rat} (h1 : Dig (T.extract 0 i).data.toList) (hn : n = (dec (T.extract 0 i).data.toList : Nat)) (h2 : Dig (T.extract (i + 1) T.size).data.toList) (hd : d = (dec (T.extract (i + 1) T.size).data.toList : Nat)) (hz : d ≠ 0) (hQ : Rat.divInt (signed b n.natAbs) d = Q) (hl : T.size ≤ 10000) (hsz : T.data.toList.length = T.size) :
    (T.size + 1 < 100000 ∧ (signed b n.natAbs).natAbs < B32 ^ (T.size + 1) ∧ d.natAbs < B32 ^ (T.size + 1)) ∧ Q.num.natAbs < B32 ^ (T.size + 1) ∧ Q.den < B32 ^ (T.size + 1) := by
  have g1 := dec_b32 h1 (n := T.size + 1) (by rw [ext_list, List.drop_zero, List.length_take]; omega)
  have g2 := dec_b32 h2 (n := T.size + 1) (by rw [ext_list, List.length_drop, List.length_take]; omega)
  have a1 : (signed b n.natAbs).natAbs < B32 ^ (T.size + 1) := by rw [Go.Big.signed_natAbs, hn, Int.natAbs_natCast]; exact g1
  have a2 : d.natAbs < B32 ^ (T.size + 1) := by rw [hd, Int.natAbs_natCast]; exact g2
  have hx := divInt_cross (n := signed b n.natAbs) hz
  rw [hQ] at hx
  obtain ⟨l1, l2⟩ := low_le (by omega) hx
  exact ⟨⟨by omega, a1, a2⟩, Nat.lt_of_le_of_lt l1 a1, by omega⟩
end Go.Proofs.YtekghemhccfhkaaGreatDoor
namespace Go.Proofs.YtekghemhccfhkaaGreatDoor
open Go.RowKit Go.Big
set_option maxRecDepth 100000 in
set_option maxHeartbeats 4000000 in
/-- Read -/
theorem nread_any (s : ByteArray) (hl : s.size ≤ 10000) (w : World) : Calls Tryz.prog 58 #[.string s] w (fun e w' => NrdPost s w e w' NRat) := by
  obtain ⟨w0, hw0, hb0, k0, hz0⟩ := nbox1 w #[.bool false, .slice none 0 0, .bool false, .slice none 0 0] 32 (cb4 false cb_nil false cb_nil)
  have k0 : N4 w.heap.size false (.slice none 0 0) false (.slice none 0 0) w0 := k0
  have HZ0 := Lib.hid hz0
  have HK := Lib.hid (And.intro k0 hb0)
  have HL := Lib.hid hl
  clear k0 hb0 hz0 hl
  by_cases h0 : 0 < s.size
  · obtain ⟨c, hc⟩ : ∃ c, s[0].toNat = c := ⟨_, rfl⟩
    by_cases h45 : c = 45
    · have HU := Lib.hid (un_yes h0 (hc.trans h45))
      obtain ⟨T, hT⟩ : ∃ T, s.extract 1 s.size = T := ⟨_, rfl⟩
      have HT := Lib.hid hT
      rw [hT] at HU
      subst h45
      have HS : Hid (T.size ≤ 10000 ∧ T.data.toList.length = T.size) := Lib.hid ⟨by first | exact HL.out | (rw [← HT.out, ext_size']; have := HL.out; omega), (Lib.size_eq T).symm⟩
      have hTs := HS.out.1
      go_enter Tryz.func58, Tryz.ntmps58
      go_wp2_with fail
      go_loopw [6, 7] (fun x y wr => w0 = wr ∧ x = .int .i64 T.size ∧ ∃ i : Nat, i ≤ T.size ∧ y = .int .i64 i ∧ Hid (∀ b ∈ T.data.toList.take i, b ≠ 47)) (fun _ y _ => T.size - (intOf y).toNat)
      case atStart => exact ⟨rfl, rfl, 0, by omega, rfl, Lib.hid (fun b hb => by simp at hb)⟩
      case round =>
        obtain ⟨rfl, rfl, i, hi, rfl, HNS⟩ := hrel
        by_cases h : i < T.size
        · have hmem : T[i] = T.data.toList[i]'(by have := HS.out.2; omega) := by simp [ByteArray.getElem_eq_getElem_data]
          have HMEM := Lib.hid hmem
          clear hmem
          by_cases hc : T[i].toNat = 47
          · have HC : Hid (slash T.data.toList = some (T.data.toList.take i, T.data.toList.drop (i + 1)) ∧ i < T.size) := Lib.hid ⟨sl_at HNS.out (by have := HS.out.2; omega) (by rw [← HMEM.out]; exact UInt8.toNat_inj.1 hc), h⟩
            have HFD := Lib.hid (nfromDigits_any (T.extract 0 i) (by have := HS.out.1; rw [ext_size]; omega))
            go_wp2_with fail
            refine (HFD.out _).mono ?_
            rintro e w1 ⟨v1, b1, n1, rfl, hd1, hv1, hn1, hb1⟩
            obtain ⟨nb, na, nk, nc, rfl, e1, h1⟩ := hv1.op
            obtain ⟨w2, hw2, hb2, kN, hz2⟩ := nbox1 w1 #[.bool nb, .slice na nk nc] 30 (cb2 nb (Cb.sl na nk nc))
            have kN : N2 w1.heap.size nb (.slice na nk nc) w2 := kN
            have hb12 := hb1.trans (hb2.mono hb1.size)
            have HKX := Lib.hid (And.intro (HK.out.1.below hb12) (HK.out.2.trans (hb12.mono HK.out.2.size)))
            have HZ2 := Lib.hid hz2
            have HLT := Lib.hid (show w.heap.size < w1.heap.size by have := hb1.size; have := HK.out.2.size; have := HZ0.out; omega)
            have HN1 := Lib.hid (And.intro hd1 (And.intro hn1 (h1.below hb2)))
            clear hv1 e1 h1 hb1 hb2 hb12 hz2 hd1 hn1 HFD
            cases b1 with
            | false =>
              clear kN
              obtain ⟨WW, hWW⟩ : ∃ WW, (((w2.setCell ⟨w.heap.size, 0, none⟩ (.bool false)).setCell ⟨w.heap.size, 1, none⟩ (.slice none 0 0)).setCell ⟨w.heap.size, 2, none⟩ (.bool false)).setCell ⟨w.heap.size, 3, none⟩ (.slice none 0 0) = WW := ⟨_, rfl⟩
              obtain ⟨z0, z1, z2, z3, z4⟩ := ret_rat (w := w) (q := (0 : Rat)) HKX.out.1 rfl (mag_nil _) (mag_nil _) HKX.out.2 (Nat.le_refl _) hWW
              have HZ := Lib.hid z4
              have d0 := HKX.out.1.c0
              have d1 := HKX.out.1.c1
              have d2 := HKX.out.1.c2
              have d3 := HKX.out.1.c3
              have f0 := HKX.out.1.f 0
              have f1 := HKX.out.1.f 1
              have f2 := HKX.out.1.f 2
              have f3 := HKX.out.1.f 3
              clear z4
              go_wp2_with fail
              obtain ⟨v9, e9, n9, b9⟩ := HZ.out
              cases e9
              exact bodyPost_ret (v := .tuple #[.agg #[.bool false, .slice none 0 0, .bool false, .slice none 0 0], .bool false]) (by simp [results, Tryz.results58, go_sem, z0, z1, z2, z3]) rfl ⟨_, _, _, rfl, n9, fun h => (by cases h), fun _ p hp => rd_badS HU.out HC.out.1 hp (fun h => by have := HN1.out.1.2 h; cases this), b9⟩
            | true =>
              have m1 := kN.c1
              have HMK := Lib.hid (make1_any true HN1.out.2.2)
              clear kN
              go_wp2_with fail
              refine HMK.out.mono ?_
              rintro e w3 ⟨v3, rfl, hv3, hb3⟩
              obtain ⟨rb, ra, rk, rc, rfl, e3, h3⟩ := hv3.op
              obtain ⟨wz, hwz, hbz, kZ, hz4⟩ := nbox1 w3 #[.bool rb, .slice ra rk rc, .bool false, .slice none 0 0] 32 (cb4 rb (Cb.sl ra rk rc) false cb_nil)
              have kZ : N4 w3.heap.size rb (.slice ra rk rc) false (.slice none 0 0) wz := kZ
              obtain ⟨w4, hw4⟩ : ∃ W, (wz.setCell ⟨w3.heap.size, 2, none⟩ (.bool false)).setCell ⟨w3.heap.size, 3, none⟩ (.slice none 0 0) = W := ⟨_, rfl⟩
              have kR : N4 w3.heap.size rb (.slice ra rk rc) false (.slice none 0 0) w4 := by rw [← hw4]; exact Bb.set (Bb.set kZ 2 (Cb.bool false)) 3 cb_nil
              have hb4 : Below w3.heap.size w3 w4 := by rw [← hw4]; exact (hbz.setCell (Nat.le_refl _) _).setCell (Nat.le_refl _) _
              have g2 := kZ.c2
              have g3 := kZ.c3
              have q2 := kZ.f 2
              have q3 := kZ.f 3
              have hb34 := hb3.trans (hb4.mono hb3.size)
              have HNE : Hid (w3.heap.size ≠ w.heap.size) := Lib.hid (by have := hb3.size; have := HLT.out; have := HZ2.out; omega)
              have HGE : Hid (w.heap.size ≤ w3.heap.size) := Lib.hid (by have := hb3.size; have := HLT.out; have := HZ2.out; omega)
              have HKX := Lib.hid (And.intro (HKX.out.1.below hb34) (HKX.out.2.trans (hb34.mono HKX.out.2.size)))
              have HKR := Lib.hid kR
              have HE3 := Lib.hid (And.intro e3 (h3.below hb4))
              clear hv3 e3 h3 hb3 hb4 hb34 hz4 kR HMK m1 hbz kZ
              have HFD := Lib.hid (nfromDigits_any (T.extract (i + 1) T.size) (by have := HS.out.1; rw [ext_size']; omega))
              go_wp2_with fail
              refine (HFD.out _).mono ?_
              rintro e w5 ⟨v5, b5, n5, rfl, hd5, hv5, hn5, hb5⟩
              obtain ⟨db, da, dk, dc, rfl, e5, h5⟩ := hv5.op
              obtain ⟨w6, hw6, hb6, kD, hz6⟩ := nbox1 w5 #[.bool db, .slice da dk dc] 30 (cb2 db (Cb.sl da dk dc))
              have kD : N2 w5.heap.size db (.slice da dk dc) w6 := kD
              have hb56 := hb5.trans (hb6.mono hb5.size)
              have HKX := Lib.hid (And.intro (HKX.out.1.below hb56) (HKX.out.2.trans (hb56.mono HKX.out.2.size)))
              have HKR := Lib.hid (HKR.out.below hb56)
              have HE3 := Lib.hid (And.intro HE3.out.1 (HE3.out.2.below hb56))
              have HND := Lib.hid (And.intro hd5 (And.intro hn5 (And.intro e5 (h5.below hb6))))
              have HV5 := Lib.hid (hv5.below hb6)
              have HKD := Lib.hid kD
              clear hv5 e5 h5 hb5 hb6 hb56 hz6 hd5 hn5 HFD
              cases b5 with
              | false =>
                clear kD
                obtain ⟨WW, hWW⟩ : ∃ WW, (((w6.setCell ⟨w.heap.size, 0, none⟩ (.bool false)).setCell ⟨w.heap.size, 1, none⟩ (.slice none 0 0)).setCell ⟨w.heap.size, 2, none⟩ (.bool false)).setCell ⟨w.heap.size, 3, none⟩ (.slice none 0 0) = WW := ⟨_, rfl⟩
                obtain ⟨z0, z1, z2, z3, z4⟩ := ret_rat (w := w) (q := (0 : Rat)) HKX.out.1 rfl (mag_nil _) (mag_nil _) HKX.out.2 (Nat.le_refl _) hWW
                have HZ := Lib.hid z4
                have d0 := HKX.out.1.c0
                have d1 := HKX.out.1.c1
                have d2 := HKX.out.1.c2
                have d3 := HKX.out.1.c3
                have f0 := HKX.out.1.f 0
                have f1 := HKX.out.1.f 1
                have f2 := HKX.out.1.f 2
                have f3 := HKX.out.1.f 3
                clear z4
                go_wp2_with fail
                obtain ⟨v9, e9, n9, b9⟩ := HZ.out
                cases e9
                exact bodyPost_ret (v := .tuple #[.agg #[.bool false, .slice none 0 0, .bool false, .slice none 0 0], .bool false]) (by simp [results, Tryz.results58, go_sem, z0, z1, z2, z3]) rfl ⟨_, _, _, rfl, n9, fun h => (by cases h), fun _ p hp => rd_badT HU.out HC.out.1 hp (fun h => by have := HND.out.1.2 ⟨h.1, h.2.1⟩; cases this), b9⟩
              | true =>
                have m0 := kD.c0
                have m1 := kD.c1
                have HSG := Lib.hid (nsign_any HV5.out)
                by_cases hz : n5 = 0
                · have hsg : n5.sign = 0 := by rw [hz]; rfl
                  have HZN := Lib.hid hz
                  clear kD hz
                  go_wp2_with fail
                  refine HSG.out.mono ?_
                  rintro e w7 ⟨rfl, hb7⟩
                  rw [hsg]
                  have HKX := Lib.hid (And.intro (HKX.out.1.below hb7) (HKX.out.2.trans (hb7.mono HKX.out.2.size)))
                  clear hb7 m0 m1 hsg
                  obtain ⟨WW, hWW⟩ : ∃ WW, (((w7.setCell ⟨w.heap.size, 0, none⟩ (.bool false)).setCell ⟨w.heap.size, 1, none⟩ (.slice none 0 0)).setCell ⟨w.heap.size, 2, none⟩ (.bool false)).setCell ⟨w.heap.size, 3, none⟩ (.slice none 0 0) = WW := ⟨_, rfl⟩
                  obtain ⟨z0, z1, z2, z3, z4⟩ := ret_rat (w := w) (q := (0 : Rat)) HKX.out.1 rfl (mag_nil _) (mag_nil _) HKX.out.2 (Nat.le_refl _) hWW
                  have HZ := Lib.hid z4
                  have d0 := HKX.out.1.c0
                  have d1 := HKX.out.1.c1
                  have d2 := HKX.out.1.c2
                  have d3 := HKX.out.1.c3
                  have f0 := HKX.out.1.f 0
                  have f1 := HKX.out.1.f 1
                  have f2 := HKX.out.1.f 2
                  have f3 := HKX.out.1.f 3
                  clear z4
                  go_wp2_with fail
                  obtain ⟨v9, e9, n9, b9⟩ := HZ.out
                  cases e9
                  exact bodyPost_ret (v := .tuple #[.agg #[.bool false, .slice none 0 0, .bool false, .slice none 0 0], .bool false]) (by simp [results, Tryz.results58, go_sem, z0, z1, z2, z3]) rfl ⟨_, _, _, rfl, n9, fun h => (by cases h), fun _ p hp => rd_badT HU.out HC.out.1 hp (fun h => h.2.2 (by have := HND.out.2.1 (by trivial); have := HZN.out; omega)), b9⟩
                · have hsg : (n5.sign == 0) = false := by rw [beq_eq_false_iff_ne]; exact fun e => hz (Int.sign_eq_zero_iff_zero.1 e)
                  have HZN := Lib.hid hz
                  clear kD hz
                  go_wp2_with fail
                  refine HSG.out.mono ?_
                  rintro e w7 ⟨rfl, hb7⟩
                  generalize n5.sign = sg at hsg
                  have HKX := Lib.hid (And.intro (HKX.out.1.below hb7) (HKX.out.2.trans (hb7.mono HKX.out.2.size)))
                  have HKR := Lib.hid (HKR.out.below hb7)
                  have HKD := Lib.hid (HKD.out.below hb7)
                  have HE3 := Lib.hid (And.intro HE3.out.1 (HE3.out.2.below hb7))
                  have HV5 := Lib.hid (HV5.out.below hb7)
                  clear hb7 m0 m1 HSG
                  obtain ⟨Q, hQ⟩ : ∃ Q : Rat, Rat.divInt (signed true n1.natAbs) n5 = Q := ⟨_, rfl⟩
                  have HALL : Hid (∀ p, s = rs p → p = Q) := Lib.hid (rd_allS HU.out HC.out.1 (HN1.out.2.1 (by trivial)) (HND.out.2.1 (by trivial)) hQ)
                  have HSZ : Hid ((T.size + 1 < 100000 ∧ (signed true n1.natAbs).natAbs < B32 ^ (T.size + 1) ∧ n5.natAbs < B32 ^ (T.size + 1)) ∧ Q.num.natAbs < B32 ^ (T.size + 1) ∧ Q.den < B32 ^ (T.size + 1)) := Lib.hid (rd_sizeS (HN1.out.1.1 (by trivial)).1 (HN1.out.2.1 (by trivial)) (HND.out.1.1 (by trivial)).1 (HND.out.2.1 (by trivial)) HZN.out hQ HS.out.1 HS.out.2)
                  have HFR := Lib.hid (frac_any (K := T.size + 1) (q := Q) (num_of HE3.out.1 HE3.out.2) HV5.out HZN.out HSZ.out.1.1 HSZ.out.1.2.1 HSZ.out.1.2.2 (by rw [← hQ]; exact divInt_cross HZN.out))
                  have y0 := HKR.out.c0
                  have y1 := HKR.out.c1
                  have m0 := HKD.out.c0
                  have m1 := HKD.out.c1
                  clear hQ HE3
                  go_wp2_with fail
                  refine HFR.out.mono ?_
                  rintro e w8 ⟨v8, rfl, hv8, hb8⟩
                  obtain ⟨qb, qa, qk, qc, pa, pk, pc, rfl, e8, h8, i8⟩ := hv8.op
                  have k0 := HKX.out.1.below hb8
                  have kR := HKR.out.below hb8
                  have hs := HKX.out.2.trans (hb8.mono HKX.out.2.size)
                  obtain ⟨WW, hWW⟩ : ∃ WW, (((w8.setCell ⟨w3.heap.size, 0, none⟩ (.bool qb)).setCell ⟨w3.heap.size, 1, none⟩ (.slice qa qk qc)).setCell ⟨w3.heap.size, 2, none⟩ (.bool false)).setCell ⟨w3.heap.size, 3, none⟩ (.slice pa pk pc) = WW := ⟨_, rfl⟩
                  obtain ⟨_, _, _, _, v0, hv0, n9, hbW⟩ := ret_rat (w := w) (q := Q) kR e8 h8 i8 hs HGE.out hWW
                  cases hv0
                  have HKX := Lib.hid (show N4 w.heap.size false (.slice none 0 0) false (.slice none 0 0) WW ∧ Below w.heap.size w WW from ⟨by rw [← hWW]; exact k0.o4 HNE.out.symm _ _ _ _, hbW⟩)
                  have HKR : Hid (N4 w3.heap.size qb (.slice qa qk qc) false (.slice pa pk pc) WW) := Lib.hid (by rw [← hWW]; exact kR.st qb (Cb.sl qa qk qc) false (Cb.sl pa pk pc))
                  have HR := Lib.hid (And.intro n9 (And.intro HSZ.out.1.1 HSZ.out.2))
                  have d0 := kR.c0
                  have d1 := kR.c1
                  have d2 := kR.c2
                  have d3 := kR.c3
                  have f0 := kR.f 0
                  have f1 := kR.f 1
                  have f2 := kR.f 2
                  have f3 := kR.f 3
                  clear k0 kR hs n9 hbW e8 h8 i8 hv8 hb8 m0 m1 y0 y1 HFR
                  have kR : N4 w3.heap.size qb (.slice qa qk qc) false (.slice pa pk pc) WW.drew := HKR.out
                  have k0 : N4 w.heap.size false (.slice none 0 0) false (.slice none 0 0) WW.drew := HKX.out.1
                  have hc : Below WW.heap.size WW WW.drew := (Below.refl _ _).drew
                  have hs : Below w.heap.size w WW.drew := HKX.out.2.drew
                  have y0 := HKR.out.c0
                  have y1 := HKR.out.c1
                  have y2 := HKR.out.c2
                  have y3 := HKR.out.c3
                  go_wp2_with fail
                  go_region_held3 (fun w' => w'.cell? ⟨w3.heap.size, 0, none⟩ = some (.bool qb) ∧ w'.cell? ⟨w3.heap.size, 1, none⟩ = some (.slice qa qk qc) ∧ w'.cell? ⟨w3.heap.size, 2, none⟩ = some (.bool false) ∧ w'.cell? ⟨w3.heap.size, 3, none⟩ = some (.slice pa pk pc) ∧ Below w.heap.size w w') (first | (with_reducible exact ⟨kR.c0, kR.c1, kR.c2, kR.c3, hs⟩) | (with_reducible exact ⟨(kR.o4 HNE.out _ _ _ _).c0, (kR.o4 HNE.out _ _ _ _).c1, (kR.o4 HNE.out _ _ _ _).c2, (kR.o4 HNE.out _ _ _ _).c3, hs.sn4 (Nat.le_refl _) _ _ _ _⟩) | fail) (first | (go_at_call 19; (with_reducible refine (ntext_any (HR.out.1.below hc) HR.out.2.1 HR.out.2.2.1 HR.out.2.2.2).mono ?_); rintro e wT ⟨rfl, hbT⟩; have kR := kR.below hbT; have k0 := k0.below hbT; have hs := hs.trans (hbT.mono hs.size); have hc := hc.trans (hbT.mono hc.size); have d0 := k0.c0; have f0 := k0.f 0; have d1 := k0.c1; have f1 := k0.f 1; have d2 := k0.c2; have f2 := k0.f 2; have d3 := k0.c3; have f3 := k0.f 3) | fail)
                  obtain ⟨WW, hWW⟩ : ∃ WW, (((wT.setCell ⟨w.heap.size, 0, none⟩ (.bool qb)).setCell ⟨w.heap.size, 1, none⟩ (.slice qa qk qc)).setCell ⟨w.heap.size, 2, none⟩ (.bool false)).setCell ⟨w.heap.size, 3, none⟩ (.slice pa pk pc) = WW := ⟨_, rfl⟩
                  rw [hWW]
                  obtain ⟨hx0, hx1, hx2⟩ := nrat_cells (HR.out.1.below hc)
                  obtain ⟨z0, z1, z2, z3, z4⟩ := ret_rat (q := Q) k0 hx0 hx1 hx2 hs (Nat.le_refl _) hWW
                  have HZ := Lib.hid z4
                  clear hs hc hWW z4 k0 kR d0 d1 d2 d3 f0 f1 f2 f3
                  go_wp2_with fail
                  obtain ⟨v9, e9, n9, b9⟩ := HZ.out
                  cases e9
                  obtain ⟨p1, p2⟩ := nrd_fin (s := s) (q := Q) rfl HALL.out
                  exact bodyPost_ret (v := .tuple #[.agg #[.bool qb, .slice qa qk qc, .bool false, .slice pa pk pc], .bool ((rs Q).toList == s.toList)]) (by simp [results, Tryz.results58, go_sem, z0, z1, z2, z3]) rfl ⟨_, _, _, rfl, n9, p1, p2, b9⟩
          · go_wp2_with fail
            go_roundw
            case rel => exact ⟨by first | rfl | trivial, by first | rfl | trivial, i + 1, by omega, by go_num, Lib.hid (by
              intro b hb
              rw [List.take_succ_eq_append_getElem (by have := HS.out.2; omega), ← HMEM.out] at hb
              rcases List.mem_append.1 hb with h1 | h1
              · exact HNS.out b h1
              · rw [List.mem_singleton.1 h1]; exact fun e => hc (by rw [e]; rfl))⟩
            case measure => simp [intOf]; omega
        · have he : i = T.size := by omega
          have HC : Hid (slash T.data.toList = none ∧ True) := Lib.hid ⟨slash_none (by have := HNS.out; rwa [List.take_of_length_le (by have := HS.out.2; omega)] at this), trivial⟩
          subst he
          have HFD := Lib.hid (nfromDigits_any T (by have := HS.out.1; omega))
          go_wp2_with fail
          refine (HFD.out _).mono ?_
          rintro e w1 ⟨v1, b1, n1, rfl, hd1, hv1, hn1, hb1⟩
          obtain ⟨nb, na, nk, nc, rfl, e1, h1⟩ := hv1.op
          obtain ⟨w2, hw2, hb2, kN, hz2⟩ := nbox1 w1 #[.bool nb, .slice na nk nc] 30 (cb2 nb (Cb.sl na nk nc))
          have kN : N2 w1.heap.size nb (.slice na nk nc) w2 := kN
          have hb12 := hb1.trans (hb2.mono hb1.size)
          have HKX := Lib.hid (And.intro (HK.out.1.below hb12) (HK.out.2.trans (hb12.mono HK.out.2.size)))
          have HZ2 := Lib.hid hz2
          have HLT := Lib.hid (show w.heap.size < w1.heap.size by have := hb1.size; have := HK.out.2.size; have := HZ0.out; omega)
          have HN1 := Lib.hid (And.intro hd1 (And.intro hn1 (h1.below hb2)))
          clear hv1 e1 h1 hb1 hb2 hb12 hz2 hd1 hn1 HFD
          cases b1 with
          | false =>
            clear kN
            obtain ⟨WW, hWW⟩ : ∃ WW, (((w2.setCell ⟨w.heap.size, 0, none⟩ (.bool false)).setCell ⟨w.heap.size, 1, none⟩ (.slice none 0 0)).setCell ⟨w.heap.size, 2, none⟩ (.bool false)).setCell ⟨w.heap.size, 3, none⟩ (.slice none 0 0) = WW := ⟨_, rfl⟩
            obtain ⟨z0, z1, z2, z3, z4⟩ := ret_rat (w := w) (q := (0 : Rat)) HKX.out.1 rfl (mag_nil _) (mag_nil _) HKX.out.2 (Nat.le_refl _) hWW
            have HZ := Lib.hid z4
            have d0 := HKX.out.1.c0
            have d1 := HKX.out.1.c1
            have d2 := HKX.out.1.c2
            have d3 := HKX.out.1.c3
            have f0 := HKX.out.1.f 0
            have f1 := HKX.out.1.f 1
            have f2 := HKX.out.1.f 2
            have f3 := HKX.out.1.f 3
            clear z4
            go_wp2_with fail
            obtain ⟨v9, e9, n9, b9⟩ := HZ.out
            cases e9
            exact bodyPost_ret (v := .tuple #[.agg #[.bool false, .slice none 0 0, .bool false, .slice none 0 0], .bool false]) (by simp [results, Tryz.results58, go_sem, z0, z1, z2, z3]) rfl ⟨_, _, _, rfl, n9, fun h => (by cases h), fun _ p hp => rd_badN HU.out HC.out.1 hp (fun h => by have := HN1.out.1.2 h; cases this), b9⟩
          | true =>
            have m1 := kN.c1
            have HMK := Lib.hid (make1_any true HN1.out.2.2)
            clear kN
            go_wp2_with fail
            refine HMK.out.mono ?_
            rintro e w3 ⟨v3, rfl, hv3, hb3⟩
            obtain ⟨rb, ra, rk, rc, rfl, e3, h3⟩ := hv3.op
            obtain ⟨wz, hwz, hbz, kZ, hz4⟩ := nbox1 w3 #[.bool rb, .slice ra rk rc, .bool false, .slice none 0 0] 32 (cb4 rb (Cb.sl ra rk rc) false cb_nil)
            have kZ : N4 w3.heap.size rb (.slice ra rk rc) false (.slice none 0 0) wz := kZ
            obtain ⟨w4, hw4⟩ : ∃ W, (wz.setCell ⟨w3.heap.size, 2, none⟩ (.bool false)).setCell ⟨w3.heap.size, 3, none⟩ (.slice none 0 0) = W := ⟨_, rfl⟩
            have kR : N4 w3.heap.size rb (.slice ra rk rc) false (.slice none 0 0) w4 := by rw [← hw4]; exact Bb.set (Bb.set kZ 2 (Cb.bool false)) 3 cb_nil
            have hb4 : Below w3.heap.size w3 w4 := by rw [← hw4]; exact (hbz.setCell (Nat.le_refl _) _).setCell (Nat.le_refl _) _
            have g2 := kZ.c2
            have g3 := kZ.c3
            have q2 := kZ.f 2
            have q3 := kZ.f 3
            have hb34 := hb3.trans (hb4.mono hb3.size)
            have HNE : Hid (w3.heap.size ≠ w.heap.size) := Lib.hid (by have := hb3.size; have := HLT.out; have := HZ2.out; omega)
            have HGE : Hid (w.heap.size ≤ w3.heap.size) := Lib.hid (by have := hb3.size; have := HLT.out; have := HZ2.out; omega)
            have HKX := Lib.hid (And.intro (HKX.out.1.below hb34) (HKX.out.2.trans (hb34.mono HKX.out.2.size)))
            have HKR := Lib.hid kR
            have HE3 := Lib.hid (And.intro e3 (h3.below hb4))
            clear hv3 e3 h3 hb3 hb4 hb34 hz4 kR HMK m1 hbz kZ
            obtain ⟨Q, hQ⟩ : ∃ Q : Rat, ((signed true n1.natAbs : Int) : Rat) = Q := ⟨_, rfl⟩
            have HALL : Hid (∀ p, s = rs p → p = Q) := Lib.hid (rd_allN HU.out HC.out.1 (HN1.out.2.1 (by trivial)) hQ)
            have HR : Hid (NRat w4 (.agg #[.bool rb, .slice ra rk rc, .bool false, .slice none 0 0]) Q ∧ T.size + 1 < 100000 ∧ Q.num.natAbs < B32 ^ (T.size + 1) ∧ Q.den < B32 ^ (T.size + 1)) := Lib.hid (by
              have hs := rd_sizeN (HN1.out.1.1 (by trivial)).1 (HN1.out.2.1 (by trivial)) hQ (by have := HS.out.2; omega)
              exact ⟨by rw [← hQ]; exact nrat_int HE3.out.1 HE3.out.2, by have := HS.out.1; omega, hs.1, hs.2⟩)
            clear hQ HE3 HN1
            have kR : N4 w3.heap.size rb (.slice ra rk rc) false (.slice none 0 0) w4.drew := HKR.out
            have k0 : N4 w.heap.size false (.slice none 0 0) false (.slice none 0 0) w4.drew := HKX.out.1
            have hc : Below w4.heap.size w4 w4.drew := (Below.refl _ _).drew
            have hs : Below w.heap.size w w4.drew := HKX.out.2.drew
            have y0 := HKR.out.c0
            have y1 := HKR.out.c1
            have y2 := HKR.out.c2
            have y3 := HKR.out.c3
            go_wp2_with fail
            go_region_held3 (fun w' => w'.cell? ⟨w3.heap.size, 0, none⟩ = some (.bool rb) ∧ w'.cell? ⟨w3.heap.size, 1, none⟩ = some (.slice ra rk rc) ∧ w'.cell? ⟨w3.heap.size, 2, none⟩ = some (.bool false) ∧ w'.cell? ⟨w3.heap.size, 3, none⟩ = some (.slice none 0 0) ∧ Below w.heap.size w w') (first | (with_reducible exact ⟨kR.c0, kR.c1, kR.c2, kR.c3, hs⟩) | (with_reducible exact ⟨(kR.o4 HNE.out _ _ _ _).c0, (kR.o4 HNE.out _ _ _ _).c1, (kR.o4 HNE.out _ _ _ _).c2, (kR.o4 HNE.out _ _ _ _).c3, hs.sn4 (Nat.le_refl _) _ _ _ _⟩) | fail) (first | (go_at_call 19; (with_reducible refine (ntext_any (HR.out.1.below hc) HR.out.2.1 HR.out.2.2.1 HR.out.2.2.2).mono ?_); rintro e wT ⟨rfl, hbT⟩; have kR := kR.below hbT; have k0 := k0.below hbT; have hs := hs.trans (hbT.mono hs.size); have hc := hc.trans (hbT.mono hc.size); have d0 := k0.c0; have f0 := k0.f 0; have d1 := k0.c1; have f1 := k0.f 1; have d2 := k0.c2; have f2 := k0.f 2; have d3 := k0.c3; have f3 := k0.f 3) | fail)
            obtain ⟨WW, hWW⟩ : ∃ WW, (((wT.setCell ⟨w.heap.size, 0, none⟩ (.bool rb)).setCell ⟨w.heap.size, 1, none⟩ (.slice ra rk rc)).setCell ⟨w.heap.size, 2, none⟩ (.bool false)).setCell ⟨w.heap.size, 3, none⟩ (.slice none 0 0) = WW := ⟨_, rfl⟩
            rw [hWW]
            obtain ⟨hx0, hx1, hx2⟩ := nrat_cells (HR.out.1.below hc)
            obtain ⟨z0, z1, z2, z3, z4⟩ := ret_rat (q := Q) k0 hx0 hx1 hx2 hs (Nat.le_refl _) hWW
            have HZ := Lib.hid z4
            clear hs hc hWW z4 k0 kR d0 d1 d2 d3 f0 f1 f2 f3
            go_wp2_with fail
            obtain ⟨v9, e9, n9, b9⟩ := HZ.out
            cases e9
            obtain ⟨p1, p2⟩ := nrd_fin (s := s) (q := Q) rfl HALL.out
            exact bodyPost_ret (v := .tuple #[.agg #[.bool rb, .slice ra rk rc, .bool false, .slice none 0 0], .bool ((rs Q).toList == s.toList)]) (by simp [results, Tryz.results58, go_sem, z0, z1, z2, z3]) rfl ⟨_, _, _, rfl, n9, p1, p2, b9⟩
    · have HU := Lib.hid (un_no h0 (fun e => h45 (hc.symm.trans e)))
      have HS : Hid (s.size ≤ 10000 ∧ s.data.toList.length = s.size) := Lib.hid ⟨by first | exact HL.out | (rw [← HT.out, ext_size']; have := HL.out; omega), (Lib.size_eq s).symm⟩
      have hTs := HS.out.1
      go_enter Tryz.func58, Tryz.ntmps58
      go_wp2_with fail
      go_loopw [6, 7] (fun x y wr => w0 = wr ∧ x = .int .i64 s.size ∧ ∃ i : Nat, i ≤ s.size ∧ y = .int .i64 i ∧ Hid (∀ b ∈ s.data.toList.take i, b ≠ 47)) (fun _ y _ => s.size - (intOf y).toNat)
      case atStart => exact ⟨rfl, rfl, 0, by omega, rfl, Lib.hid (fun b hb => by simp at hb)⟩
      case round =>
        obtain ⟨rfl, rfl, i, hi, rfl, HNS⟩ := hrel
        by_cases h : i < s.size
        · have hmem : s[i] = s.data.toList[i]'(by have := HS.out.2; omega) := by simp [ByteArray.getElem_eq_getElem_data]
          have HMEM := Lib.hid hmem
          clear hmem
          by_cases hc : s[i].toNat = 47
          · have HC : Hid (slash s.data.toList = some (s.data.toList.take i, s.data.toList.drop (i + 1)) ∧ i < s.size) := Lib.hid ⟨sl_at HNS.out (by have := HS.out.2; omega) (by rw [← HMEM.out]; exact UInt8.toNat_inj.1 hc), h⟩
            have HFD := Lib.hid (nfromDigits_any (s.extract 0 i) (by have := HS.out.1; rw [ext_size]; omega))
            go_wp2_with fail
            refine (HFD.out _).mono ?_
            rintro e w1 ⟨v1, b1, n1, rfl, hd1, hv1, hn1, hb1⟩
            obtain ⟨nb, na, nk, nc, rfl, e1, h1⟩ := hv1.op
            obtain ⟨w2, hw2, hb2, kN, hz2⟩ := nbox1 w1 #[.bool nb, .slice na nk nc] 30 (cb2 nb (Cb.sl na nk nc))
            have kN : N2 w1.heap.size nb (.slice na nk nc) w2 := kN
            have hb12 := hb1.trans (hb2.mono hb1.size)
            have HKX := Lib.hid (And.intro (HK.out.1.below hb12) (HK.out.2.trans (hb12.mono HK.out.2.size)))
            have HZ2 := Lib.hid hz2
            have HLT := Lib.hid (show w.heap.size < w1.heap.size by have := hb1.size; have := HK.out.2.size; have := HZ0.out; omega)
            have HN1 := Lib.hid (And.intro hd1 (And.intro hn1 (h1.below hb2)))
            clear hv1 e1 h1 hb1 hb2 hb12 hz2 hd1 hn1 HFD
            cases b1 with
            | false =>
              clear kN
              obtain ⟨WW, hWW⟩ : ∃ WW, (((w2.setCell ⟨w.heap.size, 0, none⟩ (.bool false)).setCell ⟨w.heap.size, 1, none⟩ (.slice none 0 0)).setCell ⟨w.heap.size, 2, none⟩ (.bool false)).setCell ⟨w.heap.size, 3, none⟩ (.slice none 0 0) = WW := ⟨_, rfl⟩
              obtain ⟨z0, z1, z2, z3, z4⟩ := ret_rat (w := w) (q := (0 : Rat)) HKX.out.1 rfl (mag_nil _) (mag_nil _) HKX.out.2 (Nat.le_refl _) hWW
              have HZ := Lib.hid z4
              have d0 := HKX.out.1.c0
              have d1 := HKX.out.1.c1
              have d2 := HKX.out.1.c2
              have d3 := HKX.out.1.c3
              have f0 := HKX.out.1.f 0
              have f1 := HKX.out.1.f 1
              have f2 := HKX.out.1.f 2
              have f3 := HKX.out.1.f 3
              clear z4
              go_wp2_with fail
              obtain ⟨v9, e9, n9, b9⟩ := HZ.out
              cases e9
              exact bodyPost_ret (v := .tuple #[.agg #[.bool false, .slice none 0 0, .bool false, .slice none 0 0], .bool false]) (by simp [results, Tryz.results58, go_sem, z0, z1, z2, z3]) rfl ⟨_, _, _, rfl, n9, fun h => (by cases h), fun _ p hp => rd_badS HU.out HC.out.1 hp (fun h => by have := HN1.out.1.2 h; cases this), b9⟩
            | true =>
              have m1 := kN.c1
              have HMK := Lib.hid (make1_any false HN1.out.2.2)
              clear kN
              go_wp2_with fail
              refine HMK.out.mono ?_
              rintro e w3 ⟨v3, rfl, hv3, hb3⟩
              obtain ⟨rb, ra, rk, rc, rfl, e3, h3⟩ := hv3.op
              obtain ⟨wz, hwz, hbz, kZ, hz4⟩ := nbox1 w3 #[.bool rb, .slice ra rk rc, .bool false, .slice none 0 0] 32 (cb4 rb (Cb.sl ra rk rc) false cb_nil)
              have kZ : N4 w3.heap.size rb (.slice ra rk rc) false (.slice none 0 0) wz := kZ
              obtain ⟨w4, hw4⟩ : ∃ W, (wz.setCell ⟨w3.heap.size, 2, none⟩ (.bool false)).setCell ⟨w3.heap.size, 3, none⟩ (.slice none 0 0) = W := ⟨_, rfl⟩
              have kR : N4 w3.heap.size rb (.slice ra rk rc) false (.slice none 0 0) w4 := by rw [← hw4]; exact Bb.set (Bb.set kZ 2 (Cb.bool false)) 3 cb_nil
              have hb4 : Below w3.heap.size w3 w4 := by rw [← hw4]; exact (hbz.setCell (Nat.le_refl _) _).setCell (Nat.le_refl _) _
              have g2 := kZ.c2
              have g3 := kZ.c3
              have q2 := kZ.f 2
              have q3 := kZ.f 3
              have hb34 := hb3.trans (hb4.mono hb3.size)
              have HNE : Hid (w3.heap.size ≠ w.heap.size) := Lib.hid (by have := hb3.size; have := HLT.out; have := HZ2.out; omega)
              have HGE : Hid (w.heap.size ≤ w3.heap.size) := Lib.hid (by have := hb3.size; have := HLT.out; have := HZ2.out; omega)
              have HKX := Lib.hid (And.intro (HKX.out.1.below hb34) (HKX.out.2.trans (hb34.mono HKX.out.2.size)))
              have HKR := Lib.hid kR
              have HE3 := Lib.hid (And.intro e3 (h3.below hb4))
              clear hv3 e3 h3 hb3 hb4 hb34 hz4 kR HMK m1 hbz kZ
              have HFD := Lib.hid (nfromDigits_any (s.extract (i + 1) s.size) (by have := HS.out.1; rw [ext_size']; omega))
              go_wp2_with fail
              refine (HFD.out _).mono ?_
              rintro e w5 ⟨v5, b5, n5, rfl, hd5, hv5, hn5, hb5⟩
              obtain ⟨db, da, dk, dc, rfl, e5, h5⟩ := hv5.op
              obtain ⟨w6, hw6, hb6, kD, hz6⟩ := nbox1 w5 #[.bool db, .slice da dk dc] 30 (cb2 db (Cb.sl da dk dc))
              have kD : N2 w5.heap.size db (.slice da dk dc) w6 := kD
              have hb56 := hb5.trans (hb6.mono hb5.size)
              have HKX := Lib.hid (And.intro (HKX.out.1.below hb56) (HKX.out.2.trans (hb56.mono HKX.out.2.size)))
              have HKR := Lib.hid (HKR.out.below hb56)
              have HE3 := Lib.hid (And.intro HE3.out.1 (HE3.out.2.below hb56))
              have HND := Lib.hid (And.intro hd5 (And.intro hn5 (And.intro e5 (h5.below hb6))))
              have HV5 := Lib.hid (hv5.below hb6)
              have HKD := Lib.hid kD
              clear hv5 e5 h5 hb5 hb6 hb56 hz6 hd5 hn5 HFD
              cases b5 with
              | false =>
                clear kD
                obtain ⟨WW, hWW⟩ : ∃ WW, (((w6.setCell ⟨w.heap.size, 0, none⟩ (.bool false)).setCell ⟨w.heap.size, 1, none⟩ (.slice none 0 0)).setCell ⟨w.heap.size, 2, none⟩ (.bool false)).setCell ⟨w.heap.size, 3, none⟩ (.slice none 0 0) = WW := ⟨_, rfl⟩
                obtain ⟨z0, z1, z2, z3, z4⟩ := ret_rat (w := w) (q := (0 : Rat)) HKX.out.1 rfl (mag_nil _) (mag_nil _) HKX.out.2 (Nat.le_refl _) hWW
                have HZ := Lib.hid z4
                have d0 := HKX.out.1.c0
                have d1 := HKX.out.1.c1
                have d2 := HKX.out.1.c2
                have d3 := HKX.out.1.c3
                have f0 := HKX.out.1.f 0
                have f1 := HKX.out.1.f 1
                have f2 := HKX.out.1.f 2
                have f3 := HKX.out.1.f 3
                clear z4
                go_wp2_with fail
                obtain ⟨v9, e9, n9, b9⟩ := HZ.out
                cases e9
                exact bodyPost_ret (v := .tuple #[.agg #[.bool false, .slice none 0 0, .bool false, .slice none 0 0], .bool false]) (by simp [results, Tryz.results58, go_sem, z0, z1, z2, z3]) rfl ⟨_, _, _, rfl, n9, fun h => (by cases h), fun _ p hp => rd_badT HU.out HC.out.1 hp (fun h => by have := HND.out.1.2 ⟨h.1, h.2.1⟩; cases this), b9⟩
              | true =>
                have m0 := kD.c0
                have m1 := kD.c1
                have HSG := Lib.hid (nsign_any HV5.out)
                by_cases hz : n5 = 0
                · have hsg : n5.sign = 0 := by rw [hz]; rfl
                  have HZN := Lib.hid hz
                  clear kD hz
                  go_wp2_with fail
                  refine HSG.out.mono ?_
                  rintro e w7 ⟨rfl, hb7⟩
                  rw [hsg]
                  have HKX := Lib.hid (And.intro (HKX.out.1.below hb7) (HKX.out.2.trans (hb7.mono HKX.out.2.size)))
                  clear hb7 m0 m1 hsg
                  obtain ⟨WW, hWW⟩ : ∃ WW, (((w7.setCell ⟨w.heap.size, 0, none⟩ (.bool false)).setCell ⟨w.heap.size, 1, none⟩ (.slice none 0 0)).setCell ⟨w.heap.size, 2, none⟩ (.bool false)).setCell ⟨w.heap.size, 3, none⟩ (.slice none 0 0) = WW := ⟨_, rfl⟩
                  obtain ⟨z0, z1, z2, z3, z4⟩ := ret_rat (w := w) (q := (0 : Rat)) HKX.out.1 rfl (mag_nil _) (mag_nil _) HKX.out.2 (Nat.le_refl _) hWW
                  have HZ := Lib.hid z4
                  have d0 := HKX.out.1.c0
                  have d1 := HKX.out.1.c1
                  have d2 := HKX.out.1.c2
                  have d3 := HKX.out.1.c3
                  have f0 := HKX.out.1.f 0
                  have f1 := HKX.out.1.f 1
                  have f2 := HKX.out.1.f 2
                  have f3 := HKX.out.1.f 3
                  clear z4
                  go_wp2_with fail
                  obtain ⟨v9, e9, n9, b9⟩ := HZ.out
                  cases e9
                  exact bodyPost_ret (v := .tuple #[.agg #[.bool false, .slice none 0 0, .bool false, .slice none 0 0], .bool false]) (by simp [results, Tryz.results58, go_sem, z0, z1, z2, z3]) rfl ⟨_, _, _, rfl, n9, fun h => (by cases h), fun _ p hp => rd_badT HU.out HC.out.1 hp (fun h => h.2.2 (by have := HND.out.2.1 (by trivial); have := HZN.out; omega)), b9⟩
                · have hsg : (n5.sign == 0) = false := by rw [beq_eq_false_iff_ne]; exact fun e => hz (Int.sign_eq_zero_iff_zero.1 e)
                  have HZN := Lib.hid hz
                  clear kD hz
                  go_wp2_with fail
                  refine HSG.out.mono ?_
                  rintro e w7 ⟨rfl, hb7⟩
                  generalize n5.sign = sg at hsg
                  have HKX := Lib.hid (And.intro (HKX.out.1.below hb7) (HKX.out.2.trans (hb7.mono HKX.out.2.size)))
                  have HKR := Lib.hid (HKR.out.below hb7)
                  have HKD := Lib.hid (HKD.out.below hb7)
                  have HE3 := Lib.hid (And.intro HE3.out.1 (HE3.out.2.below hb7))
                  have HV5 := Lib.hid (HV5.out.below hb7)
                  clear hb7 m0 m1 HSG
                  obtain ⟨Q, hQ⟩ : ∃ Q : Rat, Rat.divInt (signed false n1.natAbs) n5 = Q := ⟨_, rfl⟩
                  have HALL : Hid (∀ p, s = rs p → p = Q) := Lib.hid (rd_allS HU.out HC.out.1 (HN1.out.2.1 (by trivial)) (HND.out.2.1 (by trivial)) hQ)
                  have HSZ : Hid ((s.size + 1 < 100000 ∧ (signed false n1.natAbs).natAbs < B32 ^ (s.size + 1) ∧ n5.natAbs < B32 ^ (s.size + 1)) ∧ Q.num.natAbs < B32 ^ (s.size + 1) ∧ Q.den < B32 ^ (s.size + 1)) := Lib.hid (rd_sizeS (HN1.out.1.1 (by trivial)).1 (HN1.out.2.1 (by trivial)) (HND.out.1.1 (by trivial)).1 (HND.out.2.1 (by trivial)) HZN.out hQ HS.out.1 HS.out.2)
                  have HFR := Lib.hid (frac_any (K := s.size + 1) (q := Q) (num_of HE3.out.1 HE3.out.2) HV5.out HZN.out HSZ.out.1.1 HSZ.out.1.2.1 HSZ.out.1.2.2 (by rw [← hQ]; exact divInt_cross HZN.out))
                  have y0 := HKR.out.c0
                  have y1 := HKR.out.c1
                  have m0 := HKD.out.c0
                  have m1 := HKD.out.c1
                  clear hQ HE3
                  go_wp2_with fail
                  refine HFR.out.mono ?_
                  rintro e w8 ⟨v8, rfl, hv8, hb8⟩
                  obtain ⟨qb, qa, qk, qc, pa, pk, pc, rfl, e8, h8, i8⟩ := hv8.op
                  have k0 := HKX.out.1.below hb8
                  have kR := HKR.out.below hb8
                  have hs := HKX.out.2.trans (hb8.mono HKX.out.2.size)
                  obtain ⟨WW, hWW⟩ : ∃ WW, (((w8.setCell ⟨w3.heap.size, 0, none⟩ (.bool qb)).setCell ⟨w3.heap.size, 1, none⟩ (.slice qa qk qc)).setCell ⟨w3.heap.size, 2, none⟩ (.bool false)).setCell ⟨w3.heap.size, 3, none⟩ (.slice pa pk pc) = WW := ⟨_, rfl⟩
                  obtain ⟨_, _, _, _, v0, hv0, n9, hbW⟩ := ret_rat (w := w) (q := Q) kR e8 h8 i8 hs HGE.out hWW
                  cases hv0
                  have HKX := Lib.hid (show N4 w.heap.size false (.slice none 0 0) false (.slice none 0 0) WW ∧ Below w.heap.size w WW from ⟨by rw [← hWW]; exact k0.o4 HNE.out.symm _ _ _ _, hbW⟩)
                  have HKR : Hid (N4 w3.heap.size qb (.slice qa qk qc) false (.slice pa pk pc) WW) := Lib.hid (by rw [← hWW]; exact kR.st qb (Cb.sl qa qk qc) false (Cb.sl pa pk pc))
                  have HR := Lib.hid (And.intro n9 (And.intro HSZ.out.1.1 HSZ.out.2))
                  have d0 := kR.c0
                  have d1 := kR.c1
                  have d2 := kR.c2
                  have d3 := kR.c3
                  have f0 := kR.f 0
                  have f1 := kR.f 1
                  have f2 := kR.f 2
                  have f3 := kR.f 3
                  clear k0 kR hs n9 hbW e8 h8 i8 hv8 hb8 m0 m1 y0 y1 HFR
                  have kR : N4 w3.heap.size qb (.slice qa qk qc) false (.slice pa pk pc) WW.drew := HKR.out
                  have k0 : N4 w.heap.size false (.slice none 0 0) false (.slice none 0 0) WW.drew := HKX.out.1
                  have hc : Below WW.heap.size WW WW.drew := (Below.refl _ _).drew
                  have hs : Below w.heap.size w WW.drew := HKX.out.2.drew
                  have y0 := HKR.out.c0
                  have y1 := HKR.out.c1
                  have y2 := HKR.out.c2
                  have y3 := HKR.out.c3
                  go_wp2_with fail
                  go_region_held3 (fun w' => w'.cell? ⟨w3.heap.size, 0, none⟩ = some (.bool qb) ∧ w'.cell? ⟨w3.heap.size, 1, none⟩ = some (.slice qa qk qc) ∧ w'.cell? ⟨w3.heap.size, 2, none⟩ = some (.bool false) ∧ w'.cell? ⟨w3.heap.size, 3, none⟩ = some (.slice pa pk pc) ∧ Below w.heap.size w w') (first | (with_reducible exact ⟨kR.c0, kR.c1, kR.c2, kR.c3, hs⟩) | (with_reducible exact ⟨(kR.o4 HNE.out _ _ _ _).c0, (kR.o4 HNE.out _ _ _ _).c1, (kR.o4 HNE.out _ _ _ _).c2, (kR.o4 HNE.out _ _ _ _).c3, hs.sn4 (Nat.le_refl _) _ _ _ _⟩) | fail) (first | (go_at_call 19; (with_reducible refine (ntext_any (HR.out.1.below hc) HR.out.2.1 HR.out.2.2.1 HR.out.2.2.2).mono ?_); rintro e wT ⟨rfl, hbT⟩; have kR := kR.below hbT; have k0 := k0.below hbT; have hs := hs.trans (hbT.mono hs.size); have hc := hc.trans (hbT.mono hc.size); have d0 := k0.c0; have f0 := k0.f 0; have d1 := k0.c1; have f1 := k0.f 1; have d2 := k0.c2; have f2 := k0.f 2; have d3 := k0.c3; have f3 := k0.f 3) | fail)
                  obtain ⟨WW, hWW⟩ : ∃ WW, (((wT.setCell ⟨w.heap.size, 0, none⟩ (.bool qb)).setCell ⟨w.heap.size, 1, none⟩ (.slice qa qk qc)).setCell ⟨w.heap.size, 2, none⟩ (.bool false)).setCell ⟨w.heap.size, 3, none⟩ (.slice pa pk pc) = WW := ⟨_, rfl⟩
                  rw [hWW]
                  obtain ⟨hx0, hx1, hx2⟩ := nrat_cells (HR.out.1.below hc)
                  obtain ⟨z0, z1, z2, z3, z4⟩ := ret_rat (q := Q) k0 hx0 hx1 hx2 hs (Nat.le_refl _) hWW
                  have HZ := Lib.hid z4
                  clear hs hc hWW z4 k0 kR d0 d1 d2 d3 f0 f1 f2 f3
                  go_wp2_with fail
                  obtain ⟨v9, e9, n9, b9⟩ := HZ.out
                  cases e9
                  obtain ⟨p1, p2⟩ := nrd_fin (s := s) (q := Q) rfl HALL.out
                  exact bodyPost_ret (v := .tuple #[.agg #[.bool qb, .slice qa qk qc, .bool false, .slice pa pk pc], .bool ((rs Q).toList == s.toList)]) (by simp [results, Tryz.results58, go_sem, z0, z1, z2, z3]) rfl ⟨_, _, _, rfl, n9, p1, p2, b9⟩
          · go_wp2_with fail
            go_roundw
            case rel => exact ⟨by first | rfl | trivial, by first | rfl | trivial, i + 1, by omega, by go_num, Lib.hid (by
              intro b hb
              rw [List.take_succ_eq_append_getElem (by have := HS.out.2; omega), ← HMEM.out] at hb
              rcases List.mem_append.1 hb with h1 | h1
              · exact HNS.out b h1
              · rw [List.mem_singleton.1 h1]; exact fun e => hc (by rw [e]; rfl))⟩
            case measure => simp [intOf]; omega
        · have he : i = s.size := by omega
          have HC : Hid (slash s.data.toList = none ∧ True) := Lib.hid ⟨slash_none (by have := HNS.out; rwa [List.take_of_length_le (by have := HS.out.2; omega)] at this), trivial⟩
          subst he
          have HFD := Lib.hid (nfromDigits_any s (by have := HS.out.1; omega))
          go_wp2_with fail
          refine (HFD.out _).mono ?_
          rintro e w1 ⟨v1, b1, n1, rfl, hd1, hv1, hn1, hb1⟩
          obtain ⟨nb, na, nk, nc, rfl, e1, h1⟩ := hv1.op
          obtain ⟨w2, hw2, hb2, kN, hz2⟩ := nbox1 w1 #[.bool nb, .slice na nk nc] 30 (cb2 nb (Cb.sl na nk nc))
          have kN : N2 w1.heap.size nb (.slice na nk nc) w2 := kN
          have hb12 := hb1.trans (hb2.mono hb1.size)
          have HKX := Lib.hid (And.intro (HK.out.1.below hb12) (HK.out.2.trans (hb12.mono HK.out.2.size)))
          have HZ2 := Lib.hid hz2
          have HLT := Lib.hid (show w.heap.size < w1.heap.size by have := hb1.size; have := HK.out.2.size; have := HZ0.out; omega)
          have HN1 := Lib.hid (And.intro hd1 (And.intro hn1 (h1.below hb2)))
          clear hv1 e1 h1 hb1 hb2 hb12 hz2 hd1 hn1 HFD
          cases b1 with
          | false =>
            clear kN
            obtain ⟨WW, hWW⟩ : ∃ WW, (((w2.setCell ⟨w.heap.size, 0, none⟩ (.bool false)).setCell ⟨w.heap.size, 1, none⟩ (.slice none 0 0)).setCell ⟨w.heap.size, 2, none⟩ (.bool false)).setCell ⟨w.heap.size, 3, none⟩ (.slice none 0 0) = WW := ⟨_, rfl⟩
            obtain ⟨z0, z1, z2, z3, z4⟩ := ret_rat (w := w) (q := (0 : Rat)) HKX.out.1 rfl (mag_nil _) (mag_nil _) HKX.out.2 (Nat.le_refl _) hWW
            have HZ := Lib.hid z4
            have d0 := HKX.out.1.c0
            have d1 := HKX.out.1.c1
            have d2 := HKX.out.1.c2
            have d3 := HKX.out.1.c3
            have f0 := HKX.out.1.f 0
            have f1 := HKX.out.1.f 1
            have f2 := HKX.out.1.f 2
            have f3 := HKX.out.1.f 3
            clear z4
            go_wp2_with fail
            obtain ⟨v9, e9, n9, b9⟩ := HZ.out
            cases e9
            exact bodyPost_ret (v := .tuple #[.agg #[.bool false, .slice none 0 0, .bool false, .slice none 0 0], .bool false]) (by simp [results, Tryz.results58, go_sem, z0, z1, z2, z3]) rfl ⟨_, _, _, rfl, n9, fun h => (by cases h), fun _ p hp => rd_badN HU.out HC.out.1 hp (fun h => by have := HN1.out.1.2 h; cases this), b9⟩
          | true =>
            have m1 := kN.c1
            have HMK := Lib.hid (make1_any false HN1.out.2.2)
            clear kN
            go_wp2_with fail
            refine HMK.out.mono ?_
            rintro e w3 ⟨v3, rfl, hv3, hb3⟩
            obtain ⟨rb, ra, rk, rc, rfl, e3, h3⟩ := hv3.op
            obtain ⟨wz, hwz, hbz, kZ, hz4⟩ := nbox1 w3 #[.bool rb, .slice ra rk rc, .bool false, .slice none 0 0] 32 (cb4 rb (Cb.sl ra rk rc) false cb_nil)
            have kZ : N4 w3.heap.size rb (.slice ra rk rc) false (.slice none 0 0) wz := kZ
            obtain ⟨w4, hw4⟩ : ∃ W, (wz.setCell ⟨w3.heap.size, 2, none⟩ (.bool false)).setCell ⟨w3.heap.size, 3, none⟩ (.slice none 0 0) = W := ⟨_, rfl⟩
            have kR : N4 w3.heap.size rb (.slice ra rk rc) false (.slice none 0 0) w4 := by rw [← hw4]; exact Bb.set (Bb.set kZ 2 (Cb.bool false)) 3 cb_nil
            have hb4 : Below w3.heap.size w3 w4 := by rw [← hw4]; exact (hbz.setCell (Nat.le_refl _) _).setCell (Nat.le_refl _) _
            have g2 := kZ.c2
            have g3 := kZ.c3
            have q2 := kZ.f 2
            have q3 := kZ.f 3
            have hb34 := hb3.trans (hb4.mono hb3.size)
            have HNE : Hid (w3.heap.size ≠ w.heap.size) := Lib.hid (by have := hb3.size; have := HLT.out; have := HZ2.out; omega)
            have HGE : Hid (w.heap.size ≤ w3.heap.size) := Lib.hid (by have := hb3.size; have := HLT.out; have := HZ2.out; omega)
            have HKX := Lib.hid (And.intro (HKX.out.1.below hb34) (HKX.out.2.trans (hb34.mono HKX.out.2.size)))
            have HKR := Lib.hid kR
            have HE3 := Lib.hid (And.intro e3 (h3.below hb4))
            clear hv3 e3 h3 hb3 hb4 hb34 hz4 kR HMK m1 hbz kZ
            obtain ⟨Q, hQ⟩ : ∃ Q : Rat, ((signed false n1.natAbs : Int) : Rat) = Q := ⟨_, rfl⟩
            have HALL : Hid (∀ p, s = rs p → p = Q) := Lib.hid (rd_allN HU.out HC.out.1 (HN1.out.2.1 (by trivial)) hQ)
            have HR : Hid (NRat w4 (.agg #[.bool rb, .slice ra rk rc, .bool false, .slice none 0 0]) Q ∧ s.size + 1 < 100000 ∧ Q.num.natAbs < B32 ^ (s.size + 1) ∧ Q.den < B32 ^ (s.size + 1)) := Lib.hid (by
              have hs := rd_sizeN (HN1.out.1.1 (by trivial)).1 (HN1.out.2.1 (by trivial)) hQ (by have := HS.out.2; omega)
              exact ⟨by rw [← hQ]; exact nrat_int HE3.out.1 HE3.out.2, by have := HS.out.1; omega, hs.1, hs.2⟩)
            clear hQ HE3 HN1
            have kR : N4 w3.heap.size rb (.slice ra rk rc) false (.slice none 0 0) w4.drew := HKR.out
            have k0 : N4 w.heap.size false (.slice none 0 0) false (.slice none 0 0) w4.drew := HKX.out.1
            have hc : Below w4.heap.size w4 w4.drew := (Below.refl _ _).drew
            have hs : Below w.heap.size w w4.drew := HKX.out.2.drew
            have y0 := HKR.out.c0
            have y1 := HKR.out.c1
            have y2 := HKR.out.c2
            have y3 := HKR.out.c3
            go_wp2_with fail
            go_region_held3 (fun w' => w'.cell? ⟨w3.heap.size, 0, none⟩ = some (.bool rb) ∧ w'.cell? ⟨w3.heap.size, 1, none⟩ = some (.slice ra rk rc) ∧ w'.cell? ⟨w3.heap.size, 2, none⟩ = some (.bool false) ∧ w'.cell? ⟨w3.heap.size, 3, none⟩ = some (.slice none 0 0) ∧ Below w.heap.size w w') (first | (with_reducible exact ⟨kR.c0, kR.c1, kR.c2, kR.c3, hs⟩) | (with_reducible exact ⟨(kR.o4 HNE.out _ _ _ _).c0, (kR.o4 HNE.out _ _ _ _).c1, (kR.o4 HNE.out _ _ _ _).c2, (kR.o4 HNE.out _ _ _ _).c3, hs.sn4 (Nat.le_refl _) _ _ _ _⟩) | fail) (first | (go_at_call 19; (with_reducible refine (ntext_any (HR.out.1.below hc) HR.out.2.1 HR.out.2.2.1 HR.out.2.2.2).mono ?_); rintro e wT ⟨rfl, hbT⟩; have kR := kR.below hbT; have k0 := k0.below hbT; have hs := hs.trans (hbT.mono hs.size); have hc := hc.trans (hbT.mono hc.size); have d0 := k0.c0; have f0 := k0.f 0; have d1 := k0.c1; have f1 := k0.f 1; have d2 := k0.c2; have f2 := k0.f 2; have d3 := k0.c3; have f3 := k0.f 3) | fail)
            obtain ⟨WW, hWW⟩ : ∃ WW, (((wT.setCell ⟨w.heap.size, 0, none⟩ (.bool rb)).setCell ⟨w.heap.size, 1, none⟩ (.slice ra rk rc)).setCell ⟨w.heap.size, 2, none⟩ (.bool false)).setCell ⟨w.heap.size, 3, none⟩ (.slice none 0 0) = WW := ⟨_, rfl⟩
            rw [hWW]
            obtain ⟨hx0, hx1, hx2⟩ := nrat_cells (HR.out.1.below hc)
            obtain ⟨z0, z1, z2, z3, z4⟩ := ret_rat (q := Q) k0 hx0 hx1 hx2 hs (Nat.le_refl _) hWW
            have HZ := Lib.hid z4
            clear hs hc hWW z4 k0 kR d0 d1 d2 d3 f0 f1 f2 f3
            go_wp2_with fail
            obtain ⟨v9, e9, n9, b9⟩ := HZ.out
            cases e9
            obtain ⟨p1, p2⟩ := nrd_fin (s := s) (q := Q) rfl HALL.out
            exact bodyPost_ret (v := .tuple #[.agg #[.bool rb, .slice ra rk rc, .bool false, .slice none 0 0], .bool ((rs Q).toList == s.toList)]) (by simp [results, Tryz.results58, go_sem, z0, z1, z2, z3]) rfl ⟨_, _, _, rfl, n9, p1, p2, b9⟩
  · have HU := Lib.hid (un_nil h0)
    have HS : Hid (s.size ≤ 10000 ∧ s.data.toList.length = s.size) := Lib.hid ⟨by first | exact HL.out | (rw [← HT.out, ext_size']; have := HL.out; omega), (Lib.size_eq s).symm⟩
    have hTs := HS.out.1
    go_enter Tryz.func58, Tryz.ntmps58
    go_wp2_with fail
    go_loopw [6, 7] (fun x y wr => w0 = wr ∧ x = .int .i64 s.size ∧ ∃ i : Nat, i ≤ s.size ∧ y = .int .i64 i ∧ Hid (∀ b ∈ s.data.toList.take i, b ≠ 47)) (fun _ y _ => s.size - (intOf y).toNat)
    case atStart => exact ⟨rfl, rfl, 0, by omega, rfl, Lib.hid (fun b hb => by simp at hb)⟩
    case round =>
      obtain ⟨rfl, rfl, i, hi, rfl, HNS⟩ := hrel
      by_cases h : i < s.size
      · exact absurd h (by omega)
      · have he : i = s.size := by omega
        have HC : Hid (slash s.data.toList = none ∧ True) := Lib.hid ⟨slash_none (by have := HNS.out; rwa [List.take_of_length_le (by have := HS.out.2; omega)] at this), trivial⟩
        subst he
        clear h0 h
        have HFD := Lib.hid (nfromDigits_any s (by have := HS.out.1; omega))
        go_wp2_with fail
        refine (HFD.out _).mono ?_
        rintro e w1 ⟨v1, b1, n1, rfl, hd1, hv1, hn1, hb1⟩
        obtain ⟨nb, na, nk, nc, rfl, e1, h1⟩ := hv1.op
        obtain ⟨w2, hw2, hb2, kN, hz2⟩ := nbox1 w1 #[.bool nb, .slice na nk nc] 30 (cb2 nb (Cb.sl na nk nc))
        have kN : N2 w1.heap.size nb (.slice na nk nc) w2 := kN
        have hb12 := hb1.trans (hb2.mono hb1.size)
        have HKX := Lib.hid (And.intro (HK.out.1.below hb12) (HK.out.2.trans (hb12.mono HK.out.2.size)))
        have HZ2 := Lib.hid hz2
        have HLT := Lib.hid (show w.heap.size < w1.heap.size by have := hb1.size; have := HK.out.2.size; have := HZ0.out; omega)
        have HN1 := Lib.hid (And.intro hd1 (And.intro hn1 (h1.below hb2)))
        clear hv1 e1 h1 hb1 hb2 hb12 hz2 hd1 hn1 HFD
        cases b1 with
        | false =>
          clear kN
          obtain ⟨WW, hWW⟩ : ∃ WW, (((w2.setCell ⟨w.heap.size, 0, none⟩ (.bool false)).setCell ⟨w.heap.size, 1, none⟩ (.slice none 0 0)).setCell ⟨w.heap.size, 2, none⟩ (.bool false)).setCell ⟨w.heap.size, 3, none⟩ (.slice none 0 0) = WW := ⟨_, rfl⟩
          obtain ⟨z0, z1, z2, z3, z4⟩ := ret_rat (w := w) (q := (0 : Rat)) HKX.out.1 rfl (mag_nil _) (mag_nil _) HKX.out.2 (Nat.le_refl _) hWW
          have HZ := Lib.hid z4
          have d0 := HKX.out.1.c0
          have d1 := HKX.out.1.c1
          have d2 := HKX.out.1.c2
          have d3 := HKX.out.1.c3
          have f0 := HKX.out.1.f 0
          have f1 := HKX.out.1.f 1
          have f2 := HKX.out.1.f 2
          have f3 := HKX.out.1.f 3
          clear z4
          go_wp2_with fail
          obtain ⟨v9, e9, n9, b9⟩ := HZ.out
          cases e9
          exact bodyPost_ret (v := .tuple #[.agg #[.bool false, .slice none 0 0, .bool false, .slice none 0 0], .bool false]) (by simp [results, Tryz.results58, go_sem, z0, z1, z2, z3]) rfl ⟨_, _, _, rfl, n9, fun h => (by cases h), fun _ p hp => rd_badN HU.out HC.out.1 hp (fun h => by have := HN1.out.1.2 h; cases this), b9⟩
        | true =>
          have m1 := kN.c1
          have HMK := Lib.hid (make1_any false HN1.out.2.2)
          clear kN
          go_wp2_with fail
          refine HMK.out.mono ?_
          rintro e w3 ⟨v3, rfl, hv3, hb3⟩
          obtain ⟨rb, ra, rk, rc, rfl, e3, h3⟩ := hv3.op
          obtain ⟨wz, hwz, hbz, kZ, hz4⟩ := nbox1 w3 #[.bool rb, .slice ra rk rc, .bool false, .slice none 0 0] 32 (cb4 rb (Cb.sl ra rk rc) false cb_nil)
          have kZ : N4 w3.heap.size rb (.slice ra rk rc) false (.slice none 0 0) wz := kZ
          obtain ⟨w4, hw4⟩ : ∃ W, (wz.setCell ⟨w3.heap.size, 2, none⟩ (.bool false)).setCell ⟨w3.heap.size, 3, none⟩ (.slice none 0 0) = W := ⟨_, rfl⟩
          have kR : N4 w3.heap.size rb (.slice ra rk rc) false (.slice none 0 0) w4 := by rw [← hw4]; exact Bb.set (Bb.set kZ 2 (Cb.bool false)) 3 cb_nil
          have hb4 : Below w3.heap.size w3 w4 := by rw [← hw4]; exact (hbz.setCell (Nat.le_refl _) _).setCell (Nat.le_refl _) _
          have g2 := kZ.c2
          have g3 := kZ.c3
          have q2 := kZ.f 2
          have q3 := kZ.f 3
          have hb34 := hb3.trans (hb4.mono hb3.size)
          have HNE : Hid (w3.heap.size ≠ w.heap.size) := Lib.hid (by have := hb3.size; have := HLT.out; have := HZ2.out; omega)
          have HGE : Hid (w.heap.size ≤ w3.heap.size) := Lib.hid (by have := hb3.size; have := HLT.out; have := HZ2.out; omega)
          have HKX := Lib.hid (And.intro (HKX.out.1.below hb34) (HKX.out.2.trans (hb34.mono HKX.out.2.size)))
          have HKR := Lib.hid kR
          have HE3 := Lib.hid (And.intro e3 (h3.below hb4))
          clear hv3 e3 h3 hb3 hb4 hb34 hz4 kR HMK m1 hbz kZ
          obtain ⟨Q, hQ⟩ : ∃ Q : Rat, ((signed false n1.natAbs : Int) : Rat) = Q := ⟨_, rfl⟩
          have HALL : Hid (∀ p, s = rs p → p = Q) := Lib.hid (rd_allN HU.out HC.out.1 (HN1.out.2.1 (by trivial)) hQ)
          have HR : Hid (NRat w4 (.agg #[.bool rb, .slice ra rk rc, .bool false, .slice none 0 0]) Q ∧ s.size + 1 < 100000 ∧ Q.num.natAbs < B32 ^ (s.size + 1) ∧ Q.den < B32 ^ (s.size + 1)) := Lib.hid (by
            have hs := rd_sizeN (HN1.out.1.1 (by trivial)).1 (HN1.out.2.1 (by trivial)) hQ (by have := HS.out.2; omega)
            exact ⟨by rw [← hQ]; exact nrat_int HE3.out.1 HE3.out.2, by have := HS.out.1; omega, hs.1, hs.2⟩)
          clear hQ HE3 HN1
          have kR : N4 w3.heap.size rb (.slice ra rk rc) false (.slice none 0 0) w4.drew := HKR.out
          have k0 : N4 w.heap.size false (.slice none 0 0) false (.slice none 0 0) w4.drew := HKX.out.1
          have hc : Below w4.heap.size w4 w4.drew := (Below.refl _ _).drew
          have hs : Below w.heap.size w w4.drew := HKX.out.2.drew
          have y0 := HKR.out.c0
          have y1 := HKR.out.c1
          have y2 := HKR.out.c2
          have y3 := HKR.out.c3
          go_wp2_with fail
          go_region_held3 (fun w' => w'.cell? ⟨w3.heap.size, 0, none⟩ = some (.bool rb) ∧ w'.cell? ⟨w3.heap.size, 1, none⟩ = some (.slice ra rk rc) ∧ w'.cell? ⟨w3.heap.size, 2, none⟩ = some (.bool false) ∧ w'.cell? ⟨w3.heap.size, 3, none⟩ = some (.slice none 0 0) ∧ Below w.heap.size w w') (first | (with_reducible exact ⟨kR.c0, kR.c1, kR.c2, kR.c3, hs⟩) | (with_reducible exact ⟨(kR.o4 HNE.out _ _ _ _).c0, (kR.o4 HNE.out _ _ _ _).c1, (kR.o4 HNE.out _ _ _ _).c2, (kR.o4 HNE.out _ _ _ _).c3, hs.sn4 (Nat.le_refl _) _ _ _ _⟩) | fail) (first | (go_at_call 19; (with_reducible refine (ntext_any (HR.out.1.below hc) HR.out.2.1 HR.out.2.2.1 HR.out.2.2.2).mono ?_); rintro e wT ⟨rfl, hbT⟩; have kR := kR.below hbT; have k0 := k0.below hbT; have hs := hs.trans (hbT.mono hs.size); have hc := hc.trans (hbT.mono hc.size); have d0 := k0.c0; have f0 := k0.f 0; have d1 := k0.c1; have f1 := k0.f 1; have d2 := k0.c2; have f2 := k0.f 2; have d3 := k0.c3; have f3 := k0.f 3) | fail)
          obtain ⟨WW, hWW⟩ : ∃ WW, (((wT.setCell ⟨w.heap.size, 0, none⟩ (.bool rb)).setCell ⟨w.heap.size, 1, none⟩ (.slice ra rk rc)).setCell ⟨w.heap.size, 2, none⟩ (.bool false)).setCell ⟨w.heap.size, 3, none⟩ (.slice none 0 0) = WW := ⟨_, rfl⟩
          rw [hWW]
          obtain ⟨hx0, hx1, hx2⟩ := nrat_cells (HR.out.1.below hc)
          obtain ⟨z0, z1, z2, z3, z4⟩ := ret_rat (q := Q) k0 hx0 hx1 hx2 hs (Nat.le_refl _) hWW
          have HZ := Lib.hid z4
          clear hs hc hWW z4 k0 kR d0 d1 d2 d3 f0 f1 f2 f3
          go_wp2_with fail
          obtain ⟨v9, e9, n9, b9⟩ := HZ.out
          cases e9
          obtain ⟨p1, p2⟩ := nrd_fin (s := s) (q := Q) rfl HALL.out
          exact bodyPost_ret (v := .tuple #[.agg #[.bool rb, .slice ra rk rc, .bool false, .slice none 0 0], .bool ((rs Q).toList == s.toList)]) (by simp [results, Tryz.results58, go_sem, z0, z1, z2, z3]) rfl ⟨_, _, _, rfl, n9, p1, p2, b9⟩
end Go.Proofs.YtekghemhccfhkaaGreatDoor
namespace Go.Big
open Go Go.RowKit
theorem qv_bad {s : ByteArray} (h : ∀ p, s ≠ rs p) : qv s = 0 := by
  unfold qv qval
  rw [dif_neg]
  rintro ⟨q, hq⟩
  exact h q (rs_iff.2 hq)
end Go.Big
namespace Go.Proofs.YtekghemhccfhkaaGreatDoor
open Go.RowKit Go.Big
set_option maxRecDepth 100000 in
set_option maxHeartbeats 4000000 in
/-- Num -/
theorem num_any (s : ByteArray) (hl : s.size ≤ 10000) (w : World) : Calls Tryz.prog 25 #[.string s] w (RetRat w (qv s)) := by
  obtain ⟨w0, hw0, hb0, k0, hz0⟩ := nbox1 w #[.bool false, .slice none 0 0, .bool false, .slice none 0 0] 32 (cb4 false cb_nil false cb_nil)
  have k0 : N4 w.heap.size false (.slice none 0 0) false (.slice none 0 0) w0 := k0
  have HRD := Lib.hid (nread_any s hl)
  have HK := Lib.hid (And.intro k0 hb0)
  clear k0 hb0 hz0 hl
  go_enter Tryz.func25, Tryz.ntmps25
  go_wp2_with fail
  refine (HRD.out _).mono ?_
  rintro e w1 ⟨v1, b1, q, rfl, hv1, p1, p2, hb1⟩
  obtain ⟨xb, xa, xk, xc, ya, yk, yc, rfl, e1, h1, h2⟩ := hv1.op
  obtain ⟨w2, hw2, hb2, kR, hz2⟩ := nbox1 w1 #[.bool xb, .slice xa xk xc, .bool false, .slice ya yk yc] 32 (cb4 xb (Cb.sl xa xk xc) false (Cb.sl ya yk yc))
  have kR : N4 w1.heap.size xb (.slice xa xk xc) false (.slice ya yk yc) w2 := kR
  have hb12 := hb1.trans (hb2.mono hb1.size)
  have k0 := HK.out.1.below hb12
  have hs := HK.out.2.trans (hb12.mono HK.out.2.size)
  have d0 := k0.c0
  have d1 := k0.c1
  have d2 := k0.c2
  have d3 := k0.c3
  have f0 := k0.f 0
  have f1 := k0.f 1
  have f2 := k0.f 2
  have f3 := k0.f 3
  cases b1 with
  | false =>
    have hq := qv_bad (p2 rfl)
    obtain ⟨WW, hWW⟩ : ∃ WW, (((w2.setCell ⟨w.heap.size, 0, none⟩ (.bool false)).setCell ⟨w.heap.size, 1, none⟩ (.slice none 0 0)).setCell ⟨w.heap.size, 2, none⟩ (.bool false)).setCell ⟨w.heap.size, 3, none⟩ (.slice none 0 0) = WW := ⟨_, rfl⟩
    obtain ⟨z0, z1, z2, z3, z4⟩ := ret_rat (w := w) (q := (0 : Rat)) k0 rfl (mag_nil _) (mag_nil _) hs (Nat.le_refl _) hWW
    have HZ := Lib.hid (And.intro z4 hq)
    clear z4 hs k0 kR hq p1 p2 hv1 e1 h1 h2 hb1 hb2 hb12 hz2 HRD
    go_wp2_with fail
    exact bodyPost_ret (v := .agg #[.bool false, .slice none 0 0, .bool false, .slice none 0 0]) (by simp [results, Tryz.results25, go_sem, z0, z1, z2, z3]) rfl (by rw [HZ.out.2]; exact HZ.out.1)
  | true =>
    have hq : qv s = q := by rw [p1 rfl, qv_rs]
    obtain ⟨WW, hWW⟩ : ∃ WW, (((w2.setCell ⟨w.heap.size, 0, none⟩ (.bool xb)).setCell ⟨w.heap.size, 1, none⟩ (.slice xa xk xc)).setCell ⟨w.heap.size, 2, none⟩ (.bool false)).setCell ⟨w.heap.size, 3, none⟩ (.slice ya yk yc) = WW := ⟨_, rfl⟩
    obtain ⟨z0, z1, z2, z3, z4⟩ := ret_rat (w := w) (q := q) k0 e1 (h1.below hb2) (h2.below hb2) hs (Nat.le_refl _) hWW
    have HZ := Lib.hid (And.intro z4 hq)
    have y0 := kR.c0
    have y1 := kR.c1
    have y2 := kR.c2
    have y3 := kR.c3
    clear z4 hs k0 kR hq p1 p2 hv1 e1 h1 h2 hb1 hb2 hb12 hz2 HRD
    go_wp2_with fail
    exact bodyPost_ret (v := .agg #[.bool xb, .slice xa xk xc, .bool false, .slice ya yk yc]) (by simp [results, Tryz.results25, go_sem, z0, z1, z2, z3]) rfl (by rw [HZ.out.2]; exact HZ.out.1)
end Go.Proofs.YtekghemhccfhkaaGreatDoor
namespace Go.Big
open Go Go.RowKit
theorem b64_32 (K : Nat) : B64 ^ K = B32 ^ (2 * K) := by
  rw [Nat.pow_mul]; exact congrArg (· ^ K) (by decide)
theorem sn_of_sz {K : Nat} {q : Rat} (h : Sz K q) : Sn (2 * K) q := by
  have e : Bw ^ K = B32 ^ (2 * K) := b64_32 K
  unfold Sz at h
  unfold Sn
  rw [← e]
  exact h
theorem b11 : 10 ^ 200 ≤ B64 ^ 11 := Nat.le_of_ble_eq_true (by kernel_rfl)
theorem qv_size2 {s : ByteArray} (h : s.size ≤ 200) : Sz 11 (qv s) := by
  have hsz : s.data.toList.length = s.size := (Lib.size_eq s).symm
  cases hr : rd s.data.toList with
  | none =>
    rw [qv_none hr]
    exact ⟨Nat.lt_of_lt_of_le (Nat.lt_of_lt_of_le (by decide : (0 : Nat) < 10 ^ 1) (Nat.pow_le_pow_right (by decide) (by decide))) b11, Nat.lt_of_lt_of_le (Nat.lt_of_lt_of_le (by decide : (1 : Nat) < 10 ^ 1) (Nat.pow_le_pow_right (by decide) (by decide))) b11⟩
  | some p =>
    obtain ⟨n, d⟩ := p
    obtain ⟨q, h1, h2, h3⟩ := rd_some hr
    have e : qv s = q := qv_rd (by rw [hr, h1, h2])
    rw [e]
    have hlen : (rtext q).length ≤ 200 := by rw [← h3]; omega
    unfold rtext at hlen
    rw [List.length_append] at hlen
    have hn : (Lib.decDigits q.num.natAbs).length ≤ (itext q.num).length := by unfold itext; split <;> simp
    refine ⟨Nat.lt_of_lt_of_le (dd_big_len (by omega)) b11, ?_⟩
    split at hlen
    · next h => rw [h]; exact Nat.lt_of_lt_of_le (Nat.lt_of_lt_of_le (by decide : (1 : Nat) < 10 ^ 1) (Nat.pow_le_pow_right (by decide) (by decide))) b11
    · next h => simp at hlen; exact Nat.lt_of_lt_of_le (dd_big_len (by omega)) b11
theorem nmb_arg2 {s : ByteArray} (h : s.size ≤ 200) : Nmb 11 s := ⟨by omega, qv_size2 h⟩
end Go.Big
namespace Go.Proofs.YtekghemhccfhkaaGreatDoor
open Go.RowKit Go.Big
def S200 : List ByteArray → Bool := fun l => decide (∀ x ∈ l, x.size ≤ 200)
theorem short22 {a b : ByteArray} {g cap : Nat} {w : World} (h0 : w.cell? ⟨g, 0, none⟩ = some (.string a)) (h1 : w.cell? ⟨g, 1, none⟩ = some (.string b)) {o : Bool} (ho : S200 [a, b] = o) :
    Calls Tryz.prog 24 #[.int .i64 200, .slice (some ⟨g, 0, none⟩) 2 cap] w fun e w' => e = .returned (.bool o) ∧ w' = w := by
  rw [← ho]
  exact short_any (l := [a, b]) (n := 200) (by simp) (fun i h => by
    rcases i with _ | _ | i
    · exact h0
    · exact h1
    · simp at h; omega)
/-- Text and the operations of the references, with the text as a name. -/
theorem textC {v : Value} {q : Rat} {K : Nat} {S : ByteArray} {w : World} (h : NRat w v q) (hK : K < 10000) (hm : Sn K q) (hS : rs q = S) : Calls Tryz.prog 19 #[v] w (RetB w S) := by
  rw [← hS]; exact ntext_any h (by omega) hm.1 hm.2
end Go.Proofs.YtekghemhccfhkaaGreatDoor
namespace Go.Big
open Go Go.RowKit
theorem sn_inv {K : Nat} {q : Rat} (h : Sn K q) (h0 : q.num ≠ 0) : Sn K (((1 : Int) : Rat) / q) := by
  have hq : q ≠ 0 := fun e => h0 (by rw [e]; rfl)
  have e : ((1 : Int) : Rat) / q = q⁻¹ := by rw [Rat.div_def]; exact Rat.one_mul _
  rw [e]
  obtain ⟨h1, h2⟩ := rat_inv q hq
  unfold Sn at *
  rw [h1, h2]
  refine ⟨?_, h.1⟩
  split
  · rw [Int.natAbs_neg, Int.natAbs_natCast]; exact h.2
  · rw [Int.natAbs_natCast]; exact h.2
end Go.Big
namespace Go.Proofs.YtekghemhccfhkaaGreatDoor
open Go.RowKit Go.Big
def RetT (w : World) (S : ByteArray) (b : Bool) (e : Ending) (w' : World) : Prop := e = .returned (.tuple #[.string S, .bool b]) ∧ Below w.heap.size w w'
theorem powC {v : Value} {A P : Rat} {N K : Nat} {w : World} (h : NRat w v A) (hK0 : 0 < K) (sA : Sn K A) (hN : N ≤ 1000) (hKN : K * (2 * N + 1) + 1 < 10000) {j : Int} (hj : j = (N : Int)) (hP : A ^ N = P) : Calls Tryz.prog 86 #[v, .int .i64 j] w (RetRat w P) := by
  subst hj; rw [← hP]; exact npower_any h hK0 sA hN hKN
set_option maxRecDepth 100000 in
set_option maxHeartbeats 4000000 in
/-- Pow of the reference: refused for its exponent -/
theorem powR_out {s : ByteArray} {n : Int} (hs : s.size ≤ 10000) (hn : n < -1000 ∨ 1000 < n) {w : World} : Calls Tryz.prog 44 #[.string s, .int .i64 n] w (RetT w ⟨#[]⟩ false) := by
  have HL := Lib.hid hs
  clear hs
  go_enter Tryz.func44, Tryz.ntmps44
  go_wp2_with fail
  refine (num_any s HL.out _).mono ?_
  rintro e w1 ⟨v1, rfl, hv1, hb1⟩
  obtain ⟨b1, a1, l1, p1, c1, m1, r1, rfl, e1, h1, i1⟩ := hv1.op
  obtain ⟨w2, hw2, hb2, k1, hz2⟩ := nbox1 w1 #[.bool b1, .slice a1 l1 p1, .bool false, .slice c1 m1 r1] 32 (cb4 b1 h1.cb false i1.cb)
  have HB := Lib.hid (hb1.trans (hb2.mono hb1.size))
  clear h1 i1 e1 hv1 hb1 hb2 hz2 k1
  rcases hn with hn | hn
  · go_wp2_with fail
    exact bodyPost_ret (v := .tuple #[.string ⟨#[]⟩, .bool false]) (by simp [results, Tryz.results44, go_sem]) rfl ⟨rfl, HB.out⟩
  · have hn2 : ¬ n < -1000 := by omega
    go_wp2_with fail
    exact bodyPost_ret (v := .tuple #[.string ⟨#[]⟩, .bool false]) (by simp [results, Tryz.results44, go_sem]) rfl ⟨rfl, HB.out⟩
set_option maxRecDepth 100000 in
set_option maxHeartbeats 4000000 in
/-- Pow of the reference: an exponent that is not negative -/
theorem powR_pos {s S : ByteArray} {N K : Nat} {q P : Rat} (hs : s.size ≤ 10000) (hq : qv s = q) (hK0 : 0 < K) (sA : Sn K q) (hN : N ≤ 1000) (hKN : K * (2 * N + 1) + 1 < 10000) (hP : q ^ N = P) (hS : rs P = S) {w : World} : Calls Tryz.prog 44 #[.string s, .int .i64 (N : Int)] w (RetT w S true) := by
  have HL := Lib.hid (And.intro hs hq)
  have HP := Lib.hid (And.intro hK0 (And.intro sA (And.intro hN (And.intro hKN hP))))
  have HS := Lib.hid hS
  have HZ : Hid (Sn (K * N + 1) P ∧ K * N + 1 < 10000) := Lib.hid ⟨by rw [← hP]; exact sn_pow hK0 sA N, by have := Nat.mul_le_mul_left K (show N ≤ 2 * N + 1 by omega); omega⟩
  have hn0 : ¬ (N : Int) < -1000 := by omega
  have hn1 : ¬ (1000 : Int) < (N : Int) := by omega
  have hn2 : ¬ (N : Int) < 0 := by omega
  clear hs hq hK0 sA hKN hP hS
  go_enter Tryz.func44, Tryz.ntmps44
  go_wp2_with fail
  refine (num_any s HL.out.1 _).mono ?_
  rintro e w1 ⟨v1, rfl, hv1, hb1⟩
  rw [HL.out.2] at hv1
  obtain ⟨b1, a1, l1, p1, c1, m1, r1, rfl, e1, h1, i1⟩ := hv1.op
  obtain ⟨w2, hw2, hb2, k1, hz2⟩ := nbox1 w1 #[.bool b1, .slice a1 l1 p1, .bool false, .slice c1 m1 r1] 32 (cb4 b1 h1.cb false i1.cb)
  have k1 : N4 w1.heap.size b1 (.slice a1 l1 p1) false (.slice c1 m1 r1) w2 := k1
  have HB := Lib.hid (hb1.trans (hb2.mono hb1.size))
  have HX := Lib.hid (hv1.below hb2)
  have y0 := k1.c0
  have y1 := k1.c1
  have y2 := k1.c2
  have y3 := k1.c3
  clear h1 i1 e1 hv1 hb1 hb2 hz2 k1
  go_wp2_with fail
  refine (powC HX.out HP.out.1 HP.out.2.1 HP.out.2.2.1 HP.out.2.2.2.1 rfl HP.out.2.2.2.2).mono ?_
  rintro e w3 ⟨v3, rfl, hv3, hb3⟩
  have HV := Lib.hid hv3
  have HB := Lib.hid (below_trans HB.out hb3)
  clear hv3 hb3 y0 y1 y2 y3
  go_wp2_with fail
  refine (textC HV.out HZ.out.2 HZ.out.1 HS.out).mono ?_
  rintro e w4 ⟨rfl, hb4⟩
  have HB := Lib.hid (below_trans HB.out hb4)
  clear hb4
  go_wp2_with fail
  exact bodyPost_ret (v := .tuple #[.string S, .bool true]) (by simp [results, Tryz.results44, go_sem]) rfl ⟨rfl, HB.out⟩
set_option maxRecDepth 100000 in
set_option maxHeartbeats 4000000 in
/-- Pow of the reference: a negative exponent of 0 -/
theorem powR_zero {s : ByteArray} {n : Int} {q : Rat} (hs : s.size ≤ 10000) (hq : qv s = q) (h0 : q.num = 0) (hn1 : -1000 ≤ n) (hn2 : n < 0) {w : World} : Calls Tryz.prog 44 #[.string s, .int .i64 n] w (RetT w ⟨#[]⟩ false) := by
  have HL := Lib.hid (And.intro hs hq)
  have HS := Lib.hid (show Int.sign q.num = 0 by rw [h0]; rfl)
  have hn3 : ¬ n < -1000 := by omega
  have hn4 : ¬ 1000 < n := by omega
  clear hs hq h0
  go_enter Tryz.func44, Tryz.ntmps44
  go_wp2_with fail
  refine (num_any s HL.out.1 _).mono ?_
  rintro e w1 ⟨v1, rfl, hv1, hb1⟩
  rw [HL.out.2] at hv1
  obtain ⟨b1, a1, l1, p1, c1, m1, r1, rfl, e1, h1, i1⟩ := hv1.op
  obtain ⟨w2, hw2, hb2, k1, hz2⟩ := nbox1 w1 #[.bool b1, .slice a1 l1 p1, .bool false, .slice c1 m1 r1] 32 (cb4 b1 h1.cb false i1.cb)
  have k1 : N4 w1.heap.size b1 (.slice a1 l1 p1) false (.slice c1 m1 r1) w2 := k1
  have HB := Lib.hid (hb1.trans (hb2.mono hb1.size))
  have HX := Lib.hid (hv1.below hb2)
  have y0 := k1.c0
  have y1 := k1.c1
  have y2 := k1.c2
  have y3 := k1.c3
  clear h1 i1 e1 hv1 hb1 hb2 hz2 k1
  go_wp2_with fail
  refine (rsign_any HX.out).mono ?_
  rintro e w3 ⟨rfl, hb3⟩
  rw [HS.out]
  have HB := Lib.hid (below_trans HB.out hb3)
  clear hb3 y0 y1 y2 y3
  go_wp2_with fail
  exact bodyPost_ret (v := .tuple #[.string ⟨#[]⟩, .bool false]) (by simp [results, Tryz.results44, go_sem]) rfl ⟨rfl, HB.out⟩
set_option maxRecDepth 100000 in
set_option maxHeartbeats 4000000 in
/-- Pow of the reference: a negative exponent -/
theorem powR_neg {s S : ByteArray} {N K : Nat} {q P : Rat} (hs : s.size ≤ 10000) (hq : qv s = q) (h0 : q.num ≠ 0) (hK0 : 0 < K) (sA : Sn K q) (hN : N ≤ 1000) (hN0 : 0 < N) (hKN : K * (2 * N + 1) + 1 < 10000) (hP : (((1 : Int) : Rat) / q) ^ N = P) (hS : rs P = S) {w : World} : Calls Tryz.prog 44 #[.string s, .int .i64 (-(N : Int))] w (RetT w S true) := by
  have HL := Lib.hid (And.intro hs hq)
  have hsi := sn_inv sA h0
  have HP := Lib.hid (And.intro hK0 (And.intro hsi (And.intro hN (And.intro hKN hP))))
  have HS := Lib.hid hS
  have HZ : Hid (Sn (K * N + 1) P ∧ K * N + 1 < 10000) := Lib.hid ⟨by rw [← hP]; exact sn_pow hK0 hsi N, by have := Nat.mul_le_mul_left K (show N ≤ 2 * N + 1 by omega); omega⟩
  have HSA : Hid (Sn K ((1 : Int) : Rat) ∧ Sn K q ∧ K < 10000) := Lib.hid ⟨sn_one hK0, sA, by have := Nat.mul_le_mul_left K (show 1 ≤ 2 * N + 1 by omega); omega⟩
  have HI1 : Hid (IsS 1) := Lib.hid ⟨by decide, by decide⟩
  obtain ⟨n, hn⟩ : ∃ n : Int, -(N : Int) = n := ⟨_, rfl⟩
  have hn0 : ¬ n < -1000 := by omega
  have hn1 : ¬ (1000 : Int) < n := by omega
  have hn2 : n < 0 := by omega
  have ew : IntKind.i64.wrap (-n) = (N : Int) := by rw [IntKind.wrap_i64]; omega
  have hsg : (q.num.sign == 0) = false := by rw [beq_eq_false_iff_ne]; exact fun e => h0 (Int.sign_eq_zero_iff_zero.1 e)
  have HSG := Lib.hid hsg
  rw [hn]
  clear hs hq hK0 sA hKN hP hS hsi hN hn hN0 h0 hsg
  go_enter Tryz.func44, Tryz.ntmps44
  go_wp2_with fail
  refine (num_any s HL.out.1 _).mono ?_
  rintro e w1 ⟨v1, rfl, hv1, hb1⟩
  rw [HL.out.2] at hv1
  obtain ⟨b1, a1, l1, p1, c1, m1, r1, rfl, e1, h1, i1⟩ := hv1.op
  obtain ⟨w2, hw2, hb2, k1, hz2⟩ := nbox1 w1 #[.bool b1, .slice a1 l1 p1, .bool false, .slice c1 m1 r1] 32 (cb4 b1 h1.cb false i1.cb)
  have k1 : N4 w1.heap.size b1 (.slice a1 l1 p1) false (.slice c1 m1 r1) w2 := k1
  have HB := Lib.hid (hb1.trans (hb2.mono hb1.size))
  have HX := Lib.hid (hv1.below hb2)
  have HK := Lib.hid k1
  have HG := Lib.hid hb1.size
  have y0 := k1.c0
  have y1 := k1.c1
  have y2 := k1.c2
  have y3 := k1.c3
  clear h1 i1 e1 hv1 hb1 hb2 hz2 k1
  go_wp2_with fail
  refine (rsign_any HX.out).mono ?_
  rintro e w3 ⟨rfl, hb3⟩
  have hsg := HSG.out
  generalize q.num.sign = sg at hsg
  have hs3 : ¬ sg = 0 := by intro e; rw [e] at hsg; cases hsg
  have HB := Lib.hid (below_trans HB.out hb3)
  have HX := Lib.hid (HX.out.below hb3)
  have HK := Lib.hid (HK.out.below hb3)
  clear hb3 y0 y1 y2 y3
  have y0 := HK.out.c0
  have y1 := HK.out.c1
  have y2 := HK.out.c2
  have y3 := HK.out.c3
  go_wp2_with fail
  have hc : Below w3.heap.size w3 w3.drew := (Below.refl _ _).drew
  have z0 := (HK.out.below hc).c0
  have z1 := (HK.out.below hc).c1
  have z2 := (HK.out.below hc).c2
  have z3 := (HK.out.below hc).c3
  go_region_with (first | (go_at_call 20; (with_reducible refine (nR_any HI1.out _).mono ?_); rintro e w4 ⟨v4, rfl, hv4, hb4⟩; have hc := hc.trans (hb4.mono hc.size); have z0 := (HK.out.below hc).c0; have z1 := (HK.out.below hc).c1; have z2 := (HK.out.below hc).c2; have z3 := (HK.out.below hc).c3) | (go_at_call 36; (with_reducible refine (rdiv_any (K := K) hv4 (HX.out.below hc) HSA.out.2.2 HSA.out.1 HSA.out.2.1).mono ?_); rintro e w5 ⟨v5, rfl, hv5, hb5⟩; have hc := hc.trans (hb5.mono hc.size); obtain ⟨qb, qa, qk, qc, pa, pk, pc, rfl, eq, hq1, hq2⟩ := hv5.op; clear eq; have d0 := (HK.out.below hc).c0; have d1 := (HK.out.below hc).c1; have d2 := (HK.out.below hc).c2; have d3 := (HK.out.below hc).c3; have f0 := (HK.out.below hc).f 0; have f1 := (HK.out.below hc).f 1; have f2 := (HK.out.below hc).f 2; have f3 := (HK.out.below hc).f 3) | fail)
  all_goals
    obtain ⟨WW, hWW⟩ : ∃ WW, (((w5.setCell ⟨w1.heap.size, 0, none⟩ (.bool qb)).setCell ⟨w1.heap.size, 1, none⟩ (.slice qa qk qc)).setCell ⟨w1.heap.size, 2, none⟩ (.bool false)).setCell ⟨w1.heap.size, 3, none⟩ (.slice pa pk pc) = WW := ⟨_, rfl⟩
    rw [hWW]
    have hw : WW = sn4 w5 w1.heap.size qb (.slice qa qk qc) false (.slice pa pk pc) := hWW.symm
    have k5 := HK.out.below hc
    have HKW : Hid (N4 w1.heap.size qb (.slice qa qk qc) false (.slice pa pk pc) WW) := Lib.hid (by subst hw; exact k5.st qb (Cb.sl _ _ _) false (Cb.sl _ _ _))
    have HXW : Hid (NRat WW (.agg #[.bool qb, .slice qa qk qc, .bool false, .slice pa pk pc]) (((1 : Int) : Rat) / q)) := Lib.hid (by subst hw; exact hv5.sn4 k5 (Cb.sl _ _ _))
    have HBW : Hid (Below w.heap.size w WW) := Lib.hid (by subst hw; exact (HB.out.trans (hc.mono HB.out.size)).sn4 HG.out _ _ _ _)
    have x0 := HKW.out.c0
    have x1 := HKW.out.c1
    have x2 := HKW.out.c2
    have x3 := HKW.out.c3
    clear hc hw k5 hq1 hq2 hv4 hv5 hb4 hb5 d0 d1 d2 d3 f0 f1 f2 f3
    go_wp2_with fail
    refine (powC HXW.out HP.out.1 HP.out.2.1 HP.out.2.2.1 HP.out.2.2.2.1 rfl HP.out.2.2.2.2).mono ?_
    rintro e w6 ⟨v6, rfl, hv6, hb6⟩
    have HV := Lib.hid hv6
    have HBW := Lib.hid (below_trans HBW.out hb6)
    clear hv6 hb6 x0 x1 x2 x3
    go_wp2_with fail
    refine (textC HV.out HZ.out.2 HZ.out.1 HS.out).mono ?_
    rintro e w7 ⟨rfl, hb7⟩
    have HBW := Lib.hid (below_trans HBW.out hb7)
    clear hb7
    go_wp2_with fail
    exact bodyPost_ret (v := .tuple #[.string S, .bool true]) (by simp [results, Tryz.results44, go_sem]) rfl ⟨rfl, HBW.out⟩
end Go.Proofs.YtekghemhccfhkaaGreatDoor
namespace Go.Big
open Go Go.RowKit
theorem qv_size12 {s : ByteArray} (h : s.size ≤ 12) : (qv s).num.natAbs < 10 ^ 12 ∧ (qv s).den < 10 ^ 12 := by
  have hsz : s.data.toList.length = s.size := (Lib.size_eq s).symm
  cases hr : rd s.data.toList with
  | none =>
    rw [qv_none hr]
    exact ⟨by decide, by decide⟩
  | some p =>
    obtain ⟨n, d⟩ := p
    obtain ⟨q, h1, h2, h3⟩ := rd_some hr
    have e : qv s = q := qv_rd (by rw [hr, h1, h2])
    rw [e]
    have hlen : (rtext q).length ≤ 12 := by rw [← h3]; omega
    unfold rtext at hlen
    rw [List.length_append] at hlen
    have hn : (Lib.decDigits q.num.natAbs).length ≤ (itext q.num).length := by unfold itext; split <;> simp
    refine ⟨dd_big_len (by omega), ?_⟩
    split at hlen
    · next h => rw [h]; decide
    · next h => simp at hlen; exact dd_big_len (by omega)
theorem b38 : (10 ^ 12) ^ 60 < B64 ^ 38 := Nat.lt_of_lt_of_le (Nat.lt_succ_self _) (Nat.le_of_ble_eq_true (by kernel_rfl))
theorem pow_b38 {x N : Nat} (h : x < 10 ^ 12) (hN : N ≤ 60) : x ^ N < B64 ^ 38 := by
  refine Nat.lt_of_le_of_lt (Nat.le_trans (Nat.pow_le_pow_left (Nat.le_of_lt h) N) (Nat.pow_le_pow_right (by decide) hN)) b38
theorem sn2q {q : Rat} (h : q.num.natAbs < 10 ^ 12 ∧ q.den < 10 ^ 12) : Sn 2 q := by
  have : (10 : Nat) ^ 12 ≤ B32 ^ 2 := by decide
  exact ⟨by omega, by omega⟩
end Go.Big
