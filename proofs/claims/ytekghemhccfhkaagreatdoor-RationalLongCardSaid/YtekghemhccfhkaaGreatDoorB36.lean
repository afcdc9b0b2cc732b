/-
  Walks of the program's functions: FracH, FracI, FracJ, FracK, Api.
-/
import Derived.Test.YtekghemhccfhkaaGreatDoorB35
import Derived.Test.YtekghemhccfhkaaGreatDoorShelf
import Derived.Deep.CutRange
namespace Go.Proofs.YtekghemhccfhkaaGreatDoor
open Go.RowKit Go.Big
def RiPost (s : ByteArray) (w : World) (e : Ending) (w' : World) : Prop :=
  ∃ (v : Value) (b : Bool) (n : Nat), e = .returned (.tuple #[v, .bool b]) ∧ Below w.heap.size w w' ∧ IntV w' v (n : Int) ∧ (b = true ∧ rdInt s.data.toList = some n ∨ b = false ∧ rdInt s.data.toList = none)
set_option maxRecDepth 100000 in
set_option maxHeartbeats 1000000 in
theorem ri_tail (s : ByteArray) (hl : s.size ≤ 608) (hc : 1 < s.size → s.data.toList.head? ≠ some 48) {e : Ending} {w w1 : World} (h : FdPost s w e w1) : RiPost s w e w1 := by
  obtain ⟨v, b, rfl, hb, hor⟩ := h
  have hsz : s.data.toList.length = s.size := (Lib.size_eq s).symm
  rcases hor with ⟨rfl, hd, h0, hv⟩ | ⟨rfl, hn, hv⟩
  · refine ⟨v, true, _, rfl, hb, hv, .inl ⟨rfl, ?_⟩⟩
    unfold rdInt
    rw [if_pos ⟨hd, fun e => (by rw [e] at hsz; simp at hsz; omega), fun h => hc (by omega)⟩]
  · refine ⟨v, false, 0, rfl, hb, hv, .inr ⟨rfl, ?_⟩⟩
    unfold rdInt
    rw [if_neg]
    rintro ⟨h1, h2, h3⟩
    refine hn ⟨h1, ?_⟩
    rcases Nat.eq_zero_or_pos s.size with h | h
    · exact absurd (List.length_eq_zero_iff.1 (hsz.trans h)) h2
    · exact h
theorem ri_lead (s : ByteArray) (h1 : 1 < s.size) (h : s.data.toList.head? = some 48) : rdInt s.data.toList = none := by
  have hsz : s.data.toList.length = s.size := (Lib.size_eq s).symm
  unfold rdInt
  rw [if_neg]
  rintro ⟨_, _, h3⟩
  exact h3 (by omega) h
theorem head_get (s : ByteArray) (h : 0 < s.size) : s.data.toList.head? = some s[0] := by
  have hsz : s.data.toList.length = s.size := (Lib.size_eq s).symm
  have hb : s[0] = s.data.toList[0]'(by omega) := by simp [ByteArray.getElem_eq_getElem_data]
  rw [hb, List.head?_eq_getElem?, List.getElem?_eq_getElem]
set_option maxRecDepth 100000 in
set_option maxHeartbeats 1000000 in
theorem readInteger_any (s : ByteArray) (hl : s.size ≤ 608) (w : World) : Calls Tryz.prog 97 #[.string s] w (RiPost s w) := by
  have HX := Lib.hid (Bx.new w (cs := #[.int .i64 0, .pointer none]) 63 (by simp [IP]))
  have HF := Lib.hid (fun w => fromDigits_any s hl w)
  by_cases h1 : 1 < s.size
  · have HH := Lib.hid (head_get s (by omega))
    obtain ⟨c, hc⟩ : ∃ c, s[0] = c := ⟨_, rfl⟩
    obtain ⟨d, hd⟩ : ∃ d : Nat, c.toNat = d := ⟨_, rfl⟩
    by_cases hz : d = 48
    · subst hz
      have HN := Lib.hid (ri_lead s h1 (by rw [HH.out, hc]; exact congrArg some (UInt8.toNat_inj.1 hd)))
      clear HF
      go_enter Tryz.func97, Tryz.ntmps97
      go_wp2_with fail
      refine bodyPost_ret (v := .tuple #[smInt 0, .bool false]) (by simp [results, Tryz.results97, go_sem, smInt]) rfl ⟨_, _, 0, rfl, below_box _ _ _, .inl ⟨⟨by omega, by omega⟩, rfl⟩, .inr ⟨rfl, HN.out⟩⟩
    · have HC := Lib.hid (show 1 < s.size → s.data.toList.head? ≠ some 48 from fun _ h => by rw [HH.out, hc] at h; simp at h; subst h; exact hz hd.symm)
      go_enter Tryz.func97, Tryz.ntmps97
      go_wp2_with fail
      refine (HF.out _).mono ?_
      intro e w1 h
      obtain ⟨v, b, n, rfl, hb, hv, hor⟩ := ri_tail s hl HC.out h
      obtain ⟨y, p, rfl⟩ := hv.two
      have hx1 := HX.out.below hb
      have HV := Lib.hid (hv.set2 (i := 0) (x := y) (p := p) hx1)
      have HB1 := Lib.hid (((below_trans (below_box _ _ _) hb).setCell (p := ⟨w.heap.size, 0, none⟩) (Nat.le_refl _) (.int .i64 y)).setCell (p := ⟨w.heap.size, 0 + 1, none⟩) (Nat.le_refl _) (.pointer p))
      have HOR := Lib.hid hor
      have c0 := hx1.cell 0
      have c1 := hx1.cell 1
      have f0 := hx1.frozen 0
      have f1 := hx1.frozen 1
      have HX2 := Lib.hid ((hx1.set 0 (IP.int y)).set 1 (IP.ptr p))
      clear hv hx1 h hb hor
      go_wp2_with fail
      refine bodyPost_ret (v := .tuple #[.agg #[.int .i64 y, .pointer p], .bool b]) (by
        have g0 := HX2.out.cell 0
        have g1 := HX2.out.cell 1
        simp [results, Tryz.results97, go_sem, g0, g1]) rfl ⟨_, _, n, rfl, HB1.out, HV.out, HOR.out⟩
  · have HC := Lib.hid (show 1 < s.size → s.data.toList.head? ≠ some 48 from fun h => absurd h h1)
    go_enter Tryz.func97, Tryz.ntmps97
    go_wp2_with fail
    refine (HF.out _).mono ?_
    intro e w1 h
    obtain ⟨v, b, n, rfl, hb, hv, hor⟩ := ri_tail s hl HC.out h
    obtain ⟨y, p, rfl⟩ := hv.two
    have hx1 := HX.out.below hb
    have HV := Lib.hid (hv.set2 (i := 0) (x := y) (p := p) hx1)
    have HB1 := Lib.hid (((below_trans (below_box _ _ _) hb).setCell (p := ⟨w.heap.size, 0, none⟩) (Nat.le_refl _) (.int .i64 y)).setCell (p := ⟨w.heap.size, 0 + 1, none⟩) (Nat.le_refl _) (.pointer p))
    have HOR := Lib.hid hor
    have c0 := hx1.cell 0
    have c1 := hx1.cell 1
    have f0 := hx1.frozen 0
    have f1 := hx1.frozen 1
    have HX2 := Lib.hid ((hx1.set 0 (IP.int y)).set 1 (IP.ptr p))
    clear hv hx1 h hb hor
    go_wp2_with fail
    refine bodyPost_ret (v := .tuple #[.agg #[.int .i64 y, .pointer p], .bool b]) (by
      have g0 := HX2.out.cell 0
      have g1 := HX2.out.cell 1
      simp [results, Tryz.results97, go_sem, g0, g1]) rfl ⟨_, _, n, rfl, HB1.out, HV.out, HOR.out⟩
end Go.Proofs.YtekghemhccfhkaaGreatDoor
namespace Go.Big
open Go Go.RowKit
theorem index_slash {l : List UInt8} : (slash l = none → Lib.indexByte l 47 = -1) ∧ (∀ a b, slash l = some (a, b) → Lib.indexByte l 47 = (a.length : Int)) := by
  induction l with
  | nil => exact ⟨fun _ => rfl, fun a b h => by simp [slash] at h⟩
  | cons x m ih =>
    rw [slash, Lib.indexByte]
    by_cases hx : x = 47
    · rw [if_pos hx, if_pos (by simp [hx])]
      exact ⟨fun h => (by cases h), fun a b h => by simp at h; rw [h.1]; rfl⟩
    · rw [if_neg hx, if_neg (by simp [hx])]
      constructor
      · intro h
        have h1 : slash m = none := (by cases hs : slash m with
          | none => rfl
          | some p => rw [hs] at h; simp at h)
        rw [ih.1 h1]; rfl
      · intro a b h
        cases hs : slash m with
        | none => rw [hs] at h; simp at h
        | some p =>
          rw [hs] at h; simp at h
          have := ih.2 p.1 p.2 (by rw [hs])
          rw [this, if_neg (by simp), ← h.1]
          simp
theorem unsign_cut (l : List UInt8) : Lib.trimPrefix l [45] = (unsign l).1 ∧ Lib.hasPrefix l [45] = (unsign l).2 := by
  cases l with
  | nil => exact ⟨rfl, rfl⟩
  | cons x m =>
    by_cases hx : x = 45
    · subst hx; exact ⟨rfl, rfl⟩
    · have hb : Lib.hasPrefix (x :: m) [45] = false := by
        have : ((45 : UInt8) == x) = false := by rw [beq_eq_false_iff_ne]; exact fun e => hx e.symm
        simp [Lib.hasPrefix, List.isPrefixOf, this]
      have hu : unsign (x :: m) = (x :: m, false) := by
        unfold unsign
        split
        · next h => simp at h; exact absurd h.1 hx
        · rfl
      unfold Lib.trimPrefix
      rw [hu, hb]; exact ⟨rfl, rfl⟩
theorem slash_len {l a b : List UInt8} (h : slash l = some (a, b)) : l.length = a.length + 1 + b.length := by
  rw [slash_eq h]; simp; omega
end Go.Big
namespace Go.Proofs.YtekghemhccfhkaaGreatDoor
open Go.RowKit Go.Big
def CutPost (s : ByteArray) (w : World) (e : Ending) (w' : World) : Prop :=
  ∃ (a b : ByteArray) (c : Bool), e = .returned (.tuple #[.string a, .string b, .bool c]) ∧ Below w.heap.size w w' ∧ (c = true ∧ slash s.data.toList = some (a.data.toList, b.data.toList) ∨ c = false ∧ a = s ∧ slash s.data.toList = none)
theorem cut_parts {s : ByteArray} {a b : List UInt8} {k : Nat} (h : slash s.data.toList = some (a, b)) (hk : a.length = k) : slash s.data.toList = some ((s.extract 0 k).data.toList, (s.extract (k + 1) s.size).data.toList) := by
  have hsz : s.data.toList.length = s.size := (Lib.size_eq s).symm
  rw [h]
  have e := slash_eq h
  have e1 : (s.extract 0 k).data.toList = a := by
    simp only [ByteArray.data_extract, Array.toList_extract, List.extract_eq_take_drop, e]
    rw [List.drop_zero, ← hk]; simp
  have e2 : (s.extract (k + 1) s.size).data.toList = b := by
    simp only [ByteArray.data_extract, Array.toList_extract, List.extract_eq_take_drop]
    rw [List.take_of_length_le (by rw [List.length_drop]; omega), e, ← hk]
    simp
  rw [e1, e2]
set_option maxRecDepth 100000 in
set_option maxHeartbeats 1000000 in
theorem cut1_any (s : ByteArray) (hl : s.size ≤ 1000000) (w : World) : Calls Tryz.prog 132 #[.string s, .string ⟨#[47]⟩] w (CutPost s w) := by
  have hsz : s.data.toList.length = s.size := (Lib.size_eq s).symm
  cases hs : slash s.data.toList with
  | none =>
    have HI := Lib.hid (fun w => Proofs.Tryz.stringslite_Index_one s 47 w)
    rw [index_slash.1 hs] at HI
    have HN := Lib.hid hs
    clear hs hsz
    go_enter Tryz.func132, Tryz.ntmps132
    go_wp2_with fail
    refine (HI.out _).mono ?_
    rintro e w1 ⟨rfl, rfl⟩
    go_wp2_with fail
    exact bodyPost_ret (v := .tuple #[.string s, .string ⟨#[]⟩, .bool false]) (by simp [results, Tryz.results132, go_sem]) rfl ⟨s, ⟨#[]⟩, false, rfl, Below.refl _ _, .inr ⟨rfl, rfl, HN.out⟩⟩
  | some p =>
    obtain ⟨a, b⟩ := p
    have HI := Lib.hid (fun w => Proofs.Tryz.stringslite_Index_one s 47 w)
    rw [index_slash.2 a b hs] at HI
    obtain ⟨k, hk⟩ : ∃ k, a.length = k := ⟨_, rfl⟩
    rw [hk] at HI
    have hlt : k < s.size := by have := slash_len hs; omega
    have HN := Lib.hid (And.intro hs hk)
    clear hs hsz hk
    go_enter Tryz.func132, Tryz.ntmps132
    go_wp2_with fail
    refine (HI.out _).mono ?_
    rintro e w1 ⟨rfl, rfl⟩
    go_wp2_with fail
    have e1 : (k : Int).toNat = k := by simp
    have e2 : ((k : Int) + 1).toNat = k + 1 := by omega
    go_quiet (fail)
    go_wp2_with fail
    exact bodyPost_ret (v := .tuple #[.string (s.extract 0 k), .string (s.extract (k + 1) s.size), .bool true]) (by simp [results, Tryz.results132, go_sem]) rfl ⟨_, _, true, rfl, below_drewN (Below.refl _ _) _, .inl ⟨rfl, cut_parts HN.out.1 HN.out.2⟩⟩
set_option maxRecDepth 100000 in
set_option maxHeartbeats 1000000 in
theorem cut_any (s : ByteArray) (hl : s.size ≤ 1000000) (w : World) : Calls Tryz.prog 96 #[.string s, .string ⟨#[47]⟩] w (CutPost s w) := by
  have HI := Lib.hid (fun w => cut1_any s hl w)
  go_enter Tryz.func96, Tryz.ntmps96
  go_wp2_with fail
  refine (HI.out _).mono ?_
  rintro e w1 ⟨a, b, c, rfl, hb, hor⟩
  have HB := Lib.hid (And.intro hb hor)
  clear hb hor
  go_wp2_with fail
  exact bodyPost_ret (v := .tuple #[.string a, .string b, .bool c]) (by simp [results, Tryz.results96, go_sem]) rfl ⟨a, b, c, rfl, HB.out⟩
end Go.Proofs.YtekghemhccfhkaaGreatDoor
namespace Go.Proofs.YtekghemhccfhkaaGreatDoor
open Go.RowKit Go.Big
def RdPost (s : ByteArray) (w : World) (e : Ending) (w' : World) : Prop :=
  ∃ x p y q b, e = .returned (.tuple #[.agg #[.int .i64 x, .pointer p, .int .i64 y, .pointer q], .bool b]) ∧ Below w.heap.size w w' ∧ (b = true ∧ (∃ r : Rat, rd s.data.toList = some (r.num, r.den) ∧ FracV w' (.agg #[.int .i64 x, .pointer p, .int .i64 y, .pointer q]) r) ∨ b = false ∧ rd s.data.toList = none)
theorem cutPrefix_at (s m : ByteArray) (neg : Bool) (hm : (unsign s.data.toList).1 = m.data.toList) (hn : (unsign s.data.toList).2 = neg) (w : World) :
    Calls Tryz.prog 63 #[.string s, .string ⟨#[45]⟩] w fun e w' => e = .returned (.tuple #[.string m, .bool neg]) ∧ w' = w := by
  have h := Proofs.Tryz.strings_CutPrefix s ⟨#[45]⟩ w
  have e1 := unsign_cut s.data.toList
  rw [show (⟨#[45]⟩ : ByteArray).data.toList = [45] from rfl, e1.1, e1.2, hm, hn] at h
  exact h
theorem unsign_len (l : List UInt8) : (unsign l).1.length ≤ l.length := by
  unfold unsign; split <;> simp
theorem rd_noslash {l m : List UInt8} {neg : Bool} (hm : (unsign l).1 = m) (hn : (unsign l).2 = neg) (h : slash m = none) :
    rd l = match rdInt m with | none => none | some n => if n = 0 ∧ l ≠ [48] then none else some (signed neg n, 1) := by
  unfold rd; rw [hm, hn, h]; rfl
theorem rd_slash {l m a b : List UInt8} {neg : Bool} (hm : (unsign l).1 = m) (hn : (unsign l).2 = neg) (h : slash m = some (a, b)) :
    rd l = match rdInt a, rdInt b with | some n, some d => if n = 0 ∨ d = 0 ∨ d = 1 ∨ Nat.gcd n d ≠ 1 then none else some (signed neg n, d) | _, _ => none := by
  unfold rd; rw [hm, hn, h]; rfl
def CT (m a b : ByteArray) (c : Bool) : Prop := c = true ∧ slash m.data.toList = some (a.data.toList, b.data.toList) ∨ c = false ∧ a = m ∧ slash m.data.toList = none
theorem rd_numfail {l : List UInt8} {m a b : ByteArray} {neg c : Bool} (hm : (unsign l).1 = m.data.toList) (hn : (unsign l).2 = neg) (h : CT m a b c) (ha : rdInt a.data.toList = none) : rd l = none := by
  rcases h with ⟨_, h⟩ | ⟨_, rfl, h⟩
  · rw [rd_slash hm hn h, ha]
  · rw [rd_noslash hm hn h, ha]
theorem rd_zero {l : List UInt8} {m a b : ByteArray} {neg c : Bool} (hm : (unsign l).1 = m.data.toList) (hn : (unsign l).2 = neg) (h : CT m a b c) (ha : rdInt a.data.toList = some 0) (h0 : l ≠ [48]) : rd l = none := by
  rcases h with ⟨_, h⟩ | ⟨_, rfl, h⟩
  · rw [rd_slash hm hn h, ha]
    cases rdInt b.data.toList with
    | none => rfl
    | some d => exact if_pos (.inl rfl)
  · rw [rd_noslash hm hn h, ha]; exact if_pos ⟨rfl, h0⟩
theorem ct_nz {l : List UInt8} {m a b : ByteArray} {n : Nat} (hm : (unsign l).1 = m.data.toList) (h : CT m a b true) (hp : n ≠ 0 ∨ l = [48]) : n ≠ 0 := by
  rcases hp with hp | rfl
  · exact hp
  · rcases h with ⟨_, h⟩ | ⟨h, _⟩
    · rw [← hm, show slash (unsign [48]).1 = none by decide] at h; cases h
    · cases h
theorem rd_whole {l : List UInt8} {m a b : ByteArray} {n : Nat} {neg : Bool} (hm : (unsign l).1 = m.data.toList) (hn : (unsign l).2 = neg) (h : CT m a b false) (ha : rdInt a.data.toList = some n) (hp : n ≠ 0 ∨ l = [48]) :
    rd l = some (((signed neg n : Int) : Rat).num, ((signed neg n : Int) : Rat).den) := by
  rcases h with ⟨h, _⟩ | ⟨_, rfl, h⟩
  · cases h
  · rw [rd_noslash hm hn h, ha, Rat.num_intCast, Rat.den_intCast]
    exact if_neg (fun hc => hp.elim (fun h => h hc.1) (fun h => hc.2 h))
theorem rd_frac {l : List UInt8} {m a b : ByteArray} {n : Nat} {neg : Bool} (hm : (unsign l).1 = m.data.toList) (hn : (unsign l).2 = neg) (h : CT m a b true) (ha : rdInt a.data.toList = some n) (h0 : n ≠ 0) :
    (rdInt b.data.toList = none → rd l = none) ∧ ∀ d, rdInt b.data.toList = some d → ((d = 0 ∨ d = 1 ∨ Nat.gcd n d ≠ 1) → rd l = none) ∧ (¬ (d = 0 ∨ d = 1 ∨ Nat.gcd n d ≠ 1) → ∃ q : Rat, rd l = some (q.num, q.den) ∧ q.num = signed neg n ∧ q.den = d) := by
  rcases h with ⟨_, h⟩ | ⟨h, _⟩
  · have e := rd_slash hm hn h
    rw [ha] at e
    refine ⟨fun hb => by rw [e, hb], fun d hb => ⟨fun hc => ?_, fun hc => ?_⟩⟩
    · rw [e, hb]; exact if_pos (.inr hc)
    · have e2 : rd l = some (signed neg n, d) := by rw [e, hb]; exact if_neg (fun hx => hx.elim h0 hc)
      obtain ⟨q, h1, h2, _⟩ := rd_some e2
      exact ⟨q, by rw [h1, h2]; exact e2, h1, h2⟩
  · cases h
theorem rd_bound {a : ByteArray} {n : Nat} (hl : a.size ≤ 608) (h : rdInt a.data.toList = some n) : n < B64 ^ 32 := by
  have h1 := rdInt_some h
  have h2 := dec_lt (dd_dig n)
  rw [dd_dec, ← h1, ← Lib.size_eq] at h2
  exact Nat.lt_of_lt_of_le h2 (Nat.le_trans (Nat.pow_le_pow_right (by decide) hl) (Nat.le_of_ble_eq_true (by kernel_rfl)))
theorem signed_natAbs (neg : Bool) (n : Nat) : (signed neg n).natAbs = n := by unfold signed; split <;> omega
set_option maxRecDepth 100000 in
set_option maxHeartbeats 4000000 in
theorem read_any (s : ByteArray) (hl : s.size ≤ 608) (w : World) (hT : Tabs w) : Calls Tryz.prog 55 #[.string s] w (RdPost s w) := by
  obtain ⟨m, hm⟩ : ∃ m : ByteArray, (unsign s.data.toList).1 = m.data.toList := ⟨⟨(unsign s.data.toList).1.toArray⟩, rfl⟩
  obtain ⟨neg, hn⟩ : ∃ neg, (unsign s.data.toList).2 = neg := ⟨_, rfl⟩
  have hml : m.size ≤ 608 := by
    have h1 := unsign_len s.data.toList
    have h2 : s.data.toList.length = s.size := (Lib.size_eq s).symm
    have h3 : m.data.toList.length = m.size := (Lib.size_eq m).symm
    rw [hm] at h1; omega
  have HP := Lib.hid (fun w => cutPrefix_at s m neg hm hn w)
  have HC := Lib.hid (fun w => cut_any m (by omega) w)
  have HS := Lib.hid (And.intro hm (And.intro hn hml))
  obtain ⟨w0, hw0, hs, k0, hz⟩ := box1 w #[.int .i64 0, .pointer none, .int .i64 0, .pointer none] 65 (ip4 _ _ _ _)
  have k0 : K4 w.heap.size 0 none 0 none w0 := k0
  clear hm hn hml hz
  have HT := Lib.hid (tabs_below hT hs)
  go_enter Tryz.func55, Tryz.ntmps55
  go_wp2_with fail
  refine (HP.out _).mono ?_
  rintro e w1 ⟨rfl, rfl⟩
  go_wp2_with fail
  refine (HC.out _).mono ?_
  rintro e w2 ⟨a, b, c, rfl, hb2, hor⟩
  have HCT := Lib.hid (show CT m a b c from hor)
  have hal : a.size ≤ 608 := by
    have h1 := HS.out.2.2
    have h3 : m.data.toList.length = m.size := (Lib.size_eq m).symm
    have h2 : a.data.toList.length = a.size := (Lib.size_eq a).symm
    rcases hor with ⟨_, h⟩ | ⟨_, rfl, _⟩
    · have := slash_len h; omega
    · exact h1
  have k0 := k0.below hb2
  have hs := below_trans hs hb2
  have HT := Lib.hid (tabs_below HT.out hb2)
  clear hor hb2
  have hbl : b.size ≤ 608 ∨ c = false := by
    have h1 := HS.out.2.2
    have h3 : m.data.toList.length = m.size := (Lib.size_eq m).symm
    have h2 : b.data.toList.length = b.size := (Lib.size_eq b).symm
    rcases HCT.out with ⟨_, h⟩ | ⟨h, _, _⟩
    · have := slash_len h; exact .inl (by omega)
    · exact .inr h
  have HBL := Lib.hid hbl
  clear hbl
  have HT0 := Lib.hid hT
  clear hT
  go_wp2_with fail
  refine (readInteger_any a hal _).mono ?_
  rintro e w3 ⟨v, ok, n, rfl, hb3, hv, hor⟩
  obtain ⟨y, p, rfl⟩ := hv.two
  obtain ⟨w4, hw4, hb4, j9, hz4⟩ := box1 w3 #[.int .i64 y, .pointer p] 63 (ip2 _ _)
  have j9 : K2 w3.heap.size y p w4 := j9
  have hlt := Bx.lt (K4.below k0 hb3)
  have hb5 := below_trans hb3 hb4
  have k0 := k0.below hb5
  have hs := below_trans hs hb5
  have HT := Lib.hid (tabs_below HT.out hb5)
  have HV := Lib.hid (hv.below hb4)
  have hlt9 : w3.heap.size < w4.heap.size := Bx.lt j9
  have HOR := Lib.hid hor
  clear hv hb3 hb4 hb5 hz4 hw0 hor
  go_upto_region 4 with (fail)
  go_cut [38] (fun s38 wx => ∃ b : Bool, s38 = .bool b ∧ Below w4.heap.size w4 wx ∧ (b = true ∧ rd s.data.toList = none ∨ b = false ∧ ok = true ∧ rdInt a.data.toList = some n ∧ (n ≠ 0 ∨ s.data.toList = [48])))
  case first =>
    cases ok with
    | true =>
      have hor : rdInt a.data.toList = some n := by
        rcases HOR.out with ⟨_, h⟩ | ⟨h, _⟩
        · exact h
        · cases h
      have HN := Lib.hid (And.intro hor (rd_bound hal hor))
      clear hor hal HOR
      have ej0 := j9.c0
      have ej1 := j9.c1
      by_cases hz : n = 0
      · subst hz
        go_wp2_with fail
        refine (sign_at HV.out (s := 0) rfl).mono ?_
        rintro e w5 ⟨rfl, hb5⟩
        clear ej0 ej1
        have HB5 := Lib.hid hb5
        clear hb5
        go_wp2_with fail
        go_meet
        case rel =>
          refine ⟨_, rfl, HB5.out, ?_⟩
          by_cases hs0 : s.data.toList = [48]
          · exact .inr ⟨by simp [Lib.toList_data, hs0], (by first | rfl | trivial), HN.out.1, .inr hs0⟩
          · exact .inl ⟨by simp [Lib.toList_data, hs0], rd_zero HS.out.1 HS.out.2.1 HCT.out HN.out.1 hs0⟩
      · have HSG := Lib.hid (show Int.sign (n : Int) = 1 from Int.sign_eq_one_of_pos (by omega))
        have HNZ := Lib.hid hz
        clear hz
        go_wp2_with fail
        refine (sign_at HV.out HSG.out).mono ?_
        rintro e w5 ⟨rfl, hb5⟩
        clear ej0 ej1
        have HB5 := Lib.hid hb5
        clear hb5
        go_wp2_with fail
        go_meet
        case rel => exact ⟨false, (by first | rfl | trivial), HB5.out, .inr ⟨rfl, (by first | rfl | trivial), HN.out.1, .inl HNZ.out⟩⟩
    | false =>
      have HN := Lib.hid (show rdInt a.data.toList = none by
        rcases HOR.out with ⟨h, _⟩ | ⟨_, h⟩
        · cases h
        · exact h)
      clear HOR hal
      go_wp2_with fail
      go_meet
      case rel => exact ⟨true, (by first | rfl | trivial), Below.refl _ _, .inl ⟨rfl, rd_numfail HS.out.1 HS.out.2.1 HCT.out HN.out⟩⟩
  case rest =>
    obtain ⟨bb, rfl, hbc, hor⟩ := hcut
    obtain ⟨wa, hwa⟩ : ∃ wa, wa = wc := ⟨_, rfl⟩
    subst hwa
    have k0 := k0.below hbc
    have j9 := j9.below hbc
    have hs := below_trans hs hbc
    have HV := Lib.hid (HV.out.below hbc)
    have HT := Lib.hid (tabs_below HT.out hbc)
    have hltc := Bx.lt j9
    clear hlt9 HOR hbc
    rcases hor with ⟨rfl, hno⟩ | ⟨rfl, rfl, hrd, hnz⟩
    · have HN := Lib.hid hno
      clear hno hal
      have c0 := k0.c0
      have c1 := k0.c1
      have c2 := k0.c2
      have c3 := k0.c3
      have f0 := k0.f 0
      have f1 := k0.f 1
      have f2 := k0.f 2
      have f3 := k0.f 3
      obtain ⟨WW, hWW⟩ : ∃ WW, (((wa.setCell ⟨w.heap.size, 0, none⟩ (.int .i64 0)).setCell ⟨w.heap.size, 1, none⟩ (.pointer none)).setCell ⟨w.heap.size, 2, none⟩ (.int .i64 0)).setCell ⟨w.heap.size, 3, none⟩ (.pointer none) = WW := ⟨_, rfl⟩
      obtain ⟨z0, z1, z2, z3, hbb⟩ := zero_box4 k0 hs (Nat.le_refl _) hWW
      have HF := Lib.hid (show RdPost s w (.returned (.tuple #[.agg #[.int .i64 0, .pointer none, .int .i64 0, .pointer none], .bool false])) WW from ⟨_, _, _, _, _, rfl, hbb, .inr ⟨rfl, HN.out⟩⟩)
      clear hs k0 hbb j9 hlt hltc
      go_wp2_with fail
      exact bodyPost_ret (v := .tuple #[.agg #[.int .i64 0, .pointer none, .int .i64 0, .pointer none], .bool false]) (by simp [results, Tryz.results55, go_sem, z0, z1, z2, z3]) rfl HF.out
    · have HN := Lib.hid (And.intro hrd (And.intro (rd_bound hal hrd) hnz))
      clear hrd hal hnz
      go_upto_if 40 with (fail)
      go_cut [9] (fun s9 wx => ∃ g9 y p, s9 = .pointer (some ⟨g9, 0, none⟩) ∧ w.heap.size < g9 ∧ K2 g9 y p wx ∧ IntV wx (.agg #[.int .i64 y, .pointer p]) (signed neg n) ∧ Below w.heap.size w wx ∧ K4 w.heap.size 0 none 0 none wx ∧ Tabs wx)
      case first =>
        have ej0 := j9.c0
        have ej1 := j9.c1
        have ef0 := j9.f 0
        have ef1 := j9.f 1
        cases neg with
        | false =>
          have HJ := Lib.hid j9
          have HKK := Lib.hid (And.intro hs k0)
          clear hs k0 j9
          go_wp2_with fail
          go_meet
          case rel => exact ⟨w3.heap.size, y, p, (by first | rfl | trivial), hlt, HJ.out, HV.out, HKK.out.1, HKK.out.2, HT.out⟩
        | true =>
          go_wp2_with fail
          refine (negI_any HV.out).mono ?_
          rintro e w6 ⟨v6, rfl, hv6, hb6⟩
          obtain ⟨y6, p6, rfl⟩ := hv6.two
          clear ej0 ej1 ef0 ef1
          have j6 := j9.below hb6
          have ej0 := j6.c0
          have ej1 := j6.c1
          have ef0 := j6.f 0
          have ef1 := j6.f 1
          have hs6 := below_trans hs hb6
          have k6 := k0.below hb6
          have hne : w.heap.size ≠ w3.heap.size := by omega
          have hle : w.heap.size ≤ w3.heap.size := by omega
          have HG := Lib.hid (show K2 w3.heap.size y6 p6 (Go.Big.st2 w6 w3.heap.size y6 p6) ∧ IntV (Go.Big.st2 w6 w3.heap.size y6 p6) (.agg #[.int .i64 y6, .pointer p6]) (-(n : Int)) ∧ Below w.heap.size w (Go.Big.st2 w6 w3.heap.size y6 p6) ∧ K4 w.heap.size 0 none 0 none (Go.Big.st2 w6 w3.heap.size y6 p6) from
            ⟨Bx.set (Bx.set j6 0 (IP.int y6)) 1 (IP.ptr p6), hv6.set2 (i := 0) j6, (hs6.setCell (p := ⟨w3.heap.size, 0, none⟩) hle (.int .i64 y6)).setCell (p := ⟨w3.heap.size, 1, none⟩) hle (.pointer p6), Bx.other (Bx.other k6 hne _ _) hne _ _⟩)
          clear hb6 hv6 j6 hs6 k6 hs k0 j9
          go_wp2_with fail
          go_meet
          case rel => exact ⟨w3.heap.size, y6, p6, (by first | rfl | trivial), hlt, HG.out.1, HG.out.2.1, HG.out.2.2.1, HG.out.2.2.2, tabs_below HT0.out HG.out.2.2.1⟩
      case rest =>
        clear hs k0 j9 hltc HV HT
        obtain ⟨g9, y9, p9, rfl, hlt9, i9, hv9, hs, k0, hT⟩ := hcut
        have HT := Lib.hid hT
        have HV9 := Lib.hid hv9
        clear hT hv9
        have ei0 := i9.c0
        have ei1 := i9.c1
        cases c with
        | false =>
          go_wp2_with fail
          refine (whole_any HV9.out).mono ?_
          rintro e w6 ⟨v6, rfl, hv6, hb6⟩
          obtain ⟨ya, pa, yb, pb, rfl, h1, h2⟩ := hv6
          have k0 := k0.below hb6
          have hs := below_trans hs hb6
          clear ei0 ei1 i9 hb6
          have c0 := k0.c0
          have c1 := k0.c1
          have c2 := k0.c2
          have c3 := k0.c3
          have f0 := k0.f 0
          have f1 := k0.f 1
          have f2 := k0.f 2
          have f3 := k0.f 3
          obtain ⟨WW, hWW⟩ : ∃ WW, (((w6.setCell ⟨w.heap.size, 0, none⟩ (.int .i64 ya)).setCell ⟨w.heap.size, 1, none⟩ (.pointer pa)).setCell ⟨w.heap.size, 2, none⟩ (.int .i64 yb)).setCell ⟨w.heap.size, 3, none⟩ (.pointer pb) = WW := ⟨_, rfl⟩
          obtain ⟨z0, z1, z2, z3, vv, hvv, hf, hbb⟩ := ret_box4 (r := ((signed neg n : Int) : Rat)) k0 (h1) (h2) hs (Nat.le_refl _) hWW
          cases hvv
          have HF := Lib.hid (show RdPost s w (.returned (.tuple #[.agg #[.int .i64 ya, .pointer pa, .int .i64 yb, .pointer pb], .bool true])) WW from ⟨_, _, _, _, _, rfl, hbb, .inl ⟨rfl, _, rd_whole HS.out.1 HS.out.2.1 HCT.out HN.out.1 HN.out.2.2, hf⟩⟩)
          clear hs k0 hbb hf h1 h2
          go_wp2_with fail
          exact bodyPost_ret (v := .tuple #[.agg #[.int .i64 ya, .pointer pa, .int .i64 yb, .pointer pb], .bool true]) (by simp [results, Tryz.results55, go_sem, z0, z1, z2, z3]) rfl HF.out
        | true =>
          go_wp2_with fail
          refine (readInteger_any b (HBL.out.resolve_right (fun h => by cases h)) _).mono ?_
          rintro e w7 ⟨v7, ok2, d, rfl, hb7, hv7, hor⟩
          obtain ⟨y7, p7, rfl⟩ := hv7.two
          obtain ⟨w8, hw8, hb8, j7, hz8⟩ := box1 w7 #[.int .i64 y7, .pointer p7] 63 (ip2 _ _)
          have j7 : K2 w7.heap.size y7 p7 w8 := j7
          have hb9 := below_trans hb7 hb8
          have hlt7 := Bx.lt (K2.below i9 hb7)
          have i9 := i9.below hb9
          have k0 := k0.below hb9
          have hs := below_trans hs hb9
          have HT := Lib.hid (tabs_below HT.out hb9)
          have HV9 := Lib.hid (HV9.out.below hb9)
          have HV7 := Lib.hid (hv7.below hb8)
          have HOR := Lib.hid hor
          clear ei0 ei1 hb7 hb8 hb9 hz8 hv7 hor
          have ei0 := i9.c0
          have ei1 := i9.c1
          have ej0 := j7.c0
          have ej1 := j7.c1
          go_upto_region 11 with (fail)
          go_cut [69] (fun s69 wx => ∃ bb : Bool, s69 = .bool bb ∧ Below w8.heap.size w8 wx ∧ (bb = true ∧ rd s.data.toList = none ∨ bb = false ∧ ∃ q : Rat, rd s.data.toList = some (q.num, q.den) ∧ q.num = signed neg n ∧ (q.den : Int) = d))
          case first =>
            clear hs k0
            have HR := Lib.hid (rd_frac HS.out.1 HS.out.2.1 HCT.out HN.out.1 (ct_nz HS.out.1 HCT.out HN.out.2.2))
            cases ok2 with
            | false =>
              have HNO := Lib.hid (show rdInt b.data.toList = none by
                rcases HOR.out with ⟨h, _⟩ | ⟨_, h⟩
                · cases h
                · exact h)
              clear HOR
              go_wp2_with fail
              go_meet
              case rel => exact ⟨true, (by first | rfl | trivial), Below.refl _ _, .inl ⟨(by first | rfl | trivial), HR.out.1 HNO.out⟩⟩
            | true =>
              have hor : rdInt b.data.toList = some d := by
                rcases HOR.out with ⟨_, h⟩ | ⟨h, _⟩
                · exact h
                · cases h
              have HD := Lib.hid (And.intro hor (rd_bound (HBL.out.resolve_right (fun h => by cases h)) hor))
              have HRD := Lib.hid (HR.out.2 d hor)
              clear hor HOR HR
              by_cases h0 : d = 0
              · subst h0
                go_wp2_with fail
                refine (sign_at HV7.out (s := 0) rfl).mono ?_
                rintro e wb ⟨rfl, hbb⟩
                have HB := Lib.hid hbb
                clear ei0 ei1 ej0 ej1 hbb i9 j7
                go_wp2_with fail
                go_meet
                case rel => exact ⟨true, (by first | rfl | trivial), HB.out, .inl ⟨(by first | rfl | trivial), HRD.out.1 (.inl (by first | rfl | trivial))⟩⟩
              · have HSG := Lib.hid (show Int.sign (d : Int) = 1 from Int.sign_eq_one_of_pos (by omega))
                have H0 := Lib.hid h0
                clear h0
                go_wp2_with fail
                refine (sign_at HV7.out HSG.out).mono ?_
                rintro e wb ⟨rfl, hbb⟩
                have i9 := i9.below hbb
                have j7 := j7.below hbb
                have HB := Lib.hid hbb
                have HV7 := Lib.hid (HV7.out.below hbb)
                have HV9 := Lib.hid (HV9.out.below hbb)
                have HT := Lib.hid (tabs_below HT.out hbb)
                clear ei0 ei1 ej0 ej1 hbb
                have ei0 := i9.c0
                have ei1 := i9.c1
                have ej0 := j7.c0
                have ej1 := j7.c1
                by_cases h1 : d = 1
                · subst h1
                  go_wp2_with fail
                  refine (isOne_at HV7.out (b := true) rfl).mono ?_
                  rintro e wd ⟨rfl, hbd⟩
                  have HB2 := Lib.hid (below_trans HB.out hbd)
                  clear ei0 ei1 ej0 ej1 hbd i9 j7
                  go_wp2_with fail
                  go_meet
                  case rel => exact ⟨true, (by first | rfl | trivial), HB2.out, .inl ⟨(by first | rfl | trivial), HRD.out.1 (.inr (.inl (by first | rfl | trivial)))⟩⟩
                · have H1 := Lib.hid h1
                  have HDO := Lib.hid (show decide ((d : Int) = 1) = false from decide_eq_false (by omega))
                  clear h1
                  go_wp2_with fail
                  refine (isOne_at HV7.out (b := false) HDO.out).mono ?_
                  rintro e wd ⟨rfl, hbd⟩
                  have i9 := i9.below hbd
                  have j7 := j7.below hbd
                  have HB2 := Lib.hid (below_trans HB.out hbd)
                  have HV7 := Lib.hid (HV7.out.below hbd)
                  have HV9 := Lib.hid (HV9.out.below hbd)
                  have HT := Lib.hid (tabs_below HT.out hbd)
                  clear ei0 ei1 ej0 ej1 hbd
                  have ei0 := i9.c0
                  have ei1 := i9.c1
                  have ej0 := j7.c0
                  have ej1 := j7.c1
                  obtain ⟨G, hG⟩ : ∃ G, Nat.gcd n d = G := ⟨_, rfl⟩
                  have HG := Lib.hid hG
                  have HGC := Lib.hid (gcd_in (K := 32) (G := G) HV9.out HV7.out HT.out (by decide) (by rw [signed_natAbs]; exact HN.out.2.1) HD.out.2 (by rw [signed_natAbs]; exact hG))
                  clear hG
                  go_wp2_with fail
                  refine HGC.out.mono ?_
                  rintro e wf ⟨vg, rfl, hvg, hbf⟩
                  obtain ⟨yg, pg, rfl⟩ := hvg.two
                  have HVG := Lib.hid hvg
                  have HB3 := Lib.hid (below_trans HB2.out hbf)
                  clear ei0 ei1 ej0 ej1 hbf hvg i9 j7
                  obtain ⟨o, ho⟩ : ∃ o, decide ((G : Int) = 1) = o := ⟨_, rfl⟩
                  have HO := Lib.hid ho
                  clear ho
                  go_wp2_with fail
                  refine (isOne_at HVG.out HO.out).mono ?_
                  rintro e wg ⟨rfl, hbg⟩
                  have HB4 := Lib.hid (below_trans HB3.out hbg)
                  clear hbg
                  cases o with
                  | true =>
                    go_wp2_with fail
                    go_meet
                    case rel =>
                      have e1 : G = 1 := by have := of_decide_eq_true HO.out; omega
                      obtain ⟨q, hq1, hq2, hq3⟩ := HRD.out.2 (by rintro (h | h | h); exact H0.out h; exact H1.out h; exact h (by rw [HG.out]; exact e1))
                      exact ⟨false, (by first | rfl | trivial), HB4.out, .inr ⟨(by first | rfl | trivial), q, hq1, hq2, by rw [hq3]⟩⟩
                  | false =>
                    go_wp2_with fail
                    go_meet
                    case rel =>
                      have e1 : Nat.gcd n d ≠ 1 := by have := of_decide_eq_false HO.out; rw [HG.out]; omega
                      exact ⟨true, (by first | rfl | trivial), HB4.out, .inl ⟨(by first | rfl | trivial), HRD.out.1 (.inr (.inr e1))⟩⟩
          case rest =>
            obtain ⟨bb, rfl, hbc, hor⟩ := hcut
            have k0 := k0.below hbc
            have i9 := i9.below hbc
            have j7 := j7.below hbc
            have hs := below_trans hs hbc
            have HV7 := Lib.hid (HV7.out.below hbc)
            have HV9 := Lib.hid (HV9.out.below hbc)
            clear ei0 ei1 ej0 ej1 hbc HOR
            rcases hor with ⟨rfl, hno⟩ | ⟨rfl, q, hq1, hq2, hq3⟩
            · have HNO := Lib.hid hno
              clear hno
              have c0 := k0.c0
              have c1 := k0.c1
              have c2 := k0.c2
              have c3 := k0.c3
              have f0 := k0.f 0
              have f1 := k0.f 1
              have f2 := k0.f 2
              have f3 := k0.f 3
              obtain ⟨WW, hWW⟩ : ∃ WW, (((wc.setCell ⟨w.heap.size, 0, none⟩ (.int .i64 0)).setCell ⟨w.heap.size, 1, none⟩ (.pointer none)).setCell ⟨w.heap.size, 2, none⟩ (.int .i64 0)).setCell ⟨w.heap.size, 3, none⟩ (.pointer none) = WW := ⟨_, rfl⟩
              obtain ⟨z0, z1, z2, z3, hbb⟩ := zero_box4 k0 hs (Nat.le_refl _) hWW
              have HF := Lib.hid (show RdPost s w (.returned (.tuple #[.agg #[.int .i64 0, .pointer none, .int .i64 0, .pointer none], .bool false])) WW from ⟨_, _, _, _, _, rfl, hbb, .inr ⟨rfl, HNO.out⟩⟩)
              clear hs k0 hbb i9 j7 hlt9 hlt7
              go_wp2_with fail
              exact bodyPost_ret (v := .tuple #[.agg #[.int .i64 0, .pointer none, .int .i64 0, .pointer none], .bool false]) (by simp [results, Tryz.results55, go_sem, z0, z1, z2, z3]) rfl HF.out
            · have HQ := Lib.hid (And.intro hq1 (And.intro hq2 hq3))
              clear hq1 hq2 hq3
              have ei0 := i9.c0
              have ei1 := i9.c1
              have ej0 := j7.c0
              have ej1 := j7.c1
              have c0 := k0.c0
              have c1 := k0.c1
              have c2 := k0.c2
              have c3 := k0.c3
              have f0 := k0.f 0
              have f1 := k0.f 1
              have f2 := k0.f 2
              have f3 := k0.f 3
              obtain ⟨WW, hWW⟩ : ∃ WW, (((wc.setCell ⟨w.heap.size, 0, none⟩ (.int .i64 y9)).setCell ⟨w.heap.size, 1, none⟩ (.pointer p9)).setCell ⟨w.heap.size, 2, none⟩ (.int .i64 y7)).setCell ⟨w.heap.size, 3, none⟩ (.pointer p7) = WW := ⟨_, rfl⟩
              obtain ⟨z0, z1, z2, z3, vv, hvv, hf, hbb⟩ := ret_box4 (r := q) k0 (by rw [HQ.out.2.1]; exact HV9.out) (by rw [HQ.out.2.2]; exact HV7.out) hs (Nat.le_refl _) hWW
              cases hvv
              have HF := Lib.hid (show RdPost s w (.returned (.tuple #[.agg #[.int .i64 y9, .pointer p9, .int .i64 y7, .pointer p7], .bool true])) WW from ⟨_, _, _, _, _, rfl, hbb, .inl ⟨rfl, _, HQ.out.1, hf⟩⟩)
              clear hs k0 hbb hf 
              go_wp2_with fail
              exact bodyPost_ret (v := .tuple #[.agg #[.int .i64 y9, .pointer p9, .int .i64 y7, .pointer p7], .bool true]) (by simp [results, Tryz.results55, go_sem, z0, z1, z2, z3]) rfl HF.out
end Go.Proofs.YtekghemhccfhkaaGreatDoor
namespace Go.Big
open Go Go.RowKit
/-- The value of a text, and the canonical text of a number, as Go strings. -/
noncomputable def qv (s : ByteArray) : Rat := qval s.data.toList
def rs (q : Rat) : ByteArray := ⟨(rtext q).toArray⟩
theorem qv_rd {s : ByteArray} {r : Rat} (h : rd s.data.toList = some (r.num, r.den)) : qv s = r := by
  have := qval_rd h
  exact Rat.ext this.1 this.2
theorem qv_none {s : ByteArray} (h : rd s.data.toList = none) : qv s = 0 := qval_none h
end Go.Big
namespace Go.Proofs.YtekghemhccfhkaaGreatDoor
open Go.RowKit Go.Big
set_option maxRecDepth 100000 in
set_option maxHeartbeats 4000000 in
theorem value_any (s : ByteArray) (hl : s.size ≤ 608) (w : World) (hT : Tabs w) : Calls Tryz.prog 76 #[.string s] w (RetF w (qv s)) := by
  obtain ⟨w0, hw0, hs, k0, hz⟩ := box1 w #[.int .i64 0, .pointer none, .int .i64 0, .pointer none] 65 (ip4 _ _ _ _)
  have k0 : K4 w.heap.size 0 none 0 none w0 := k0
  have HR := Lib.hid (read_any s hl w0 (tabs_below hT hs))
  clear hT hz
  go_enter Tryz.func76, Tryz.ntmps76
  go_wp2_with fail
  refine HR.out.mono ?_
  rintro e w1 ⟨x, p, y, q, b, rfl, hb1, hor⟩
  obtain ⟨w2, hw2, hb2, j3, hz2⟩ := box1 w1 #[.int .i64 x, .pointer p, .int .i64 y, .pointer q] 65 (ip4 _ _ _ _)
  have j3 : K4 w1.heap.size x p y q w2 := j3
  have hb3 := below_trans hb1 hb2
  have k0 := k0.below hb3
  have hs := below_trans hs hb3
  rcases hor with ⟨rfl, r, hrd, hv⟩ | ⟨rfl, hrd⟩
  · have HF := Lib.hid (And.intro (qv_rd hrd) (hv.below hb2))
    clear hb1 hb2 hb3 hz2 hv hrd HR
    have e0 := j3.c0
    have e1 := j3.c1
    have e2 := j3.c2
    have e3 := j3.c3
    have c0 := k0.c0
    have c1 := k0.c1
    have c2 := k0.c2
    have c3 := k0.c3
    have f0 := k0.f 0
    have f1 := k0.f 1
    have f2 := k0.f 2
    have f3 := k0.f 3
    obtain ⟨WW, hWW⟩ : ∃ WW, (((w2.setCell ⟨w.heap.size, 0, none⟩ (.int .i64 x)).setCell ⟨w.heap.size, 1, none⟩ (.pointer p)).setCell ⟨w.heap.size, 2, none⟩ (.int .i64 y)).setCell ⟨w.heap.size, 3, none⟩ (.pointer q) = WW := ⟨_, rfl⟩
    obtain ⟨x', p', y', q', e, h1, h2⟩ := HF.out.2
    cases e
    obtain ⟨z0, z1, z2, z3, z4⟩ := ret_box4 (r := r) k0 h1 h2 hs (Nat.le_refl _) hWW
    have HZ := Lib.hid z4
    clear hs k0 h1 h2 z4 j3
    go_wp2_with fail
    exact bodyPost_ret (v := .agg #[.int .i64 x, .pointer p, .int .i64 y, .pointer q]) (by simp [results, Tryz.results76, go_sem, z0, z1, z2, z3]) rfl (by rw [HF.out.1]; exact HZ.out)
  · have HN := Lib.hid (qv_none hrd)
    have HW := Lib.hid (whole_any (n := 0) (v := .agg #[.int .i64 0, .pointer none]) (w := w2) (.inl ⟨⟨by omega, by omega⟩, rfl⟩))
    clear hb1 hb2 hb3 hz2 hrd HR j3
    go_wp2_with fail
    refine HW.out.mono ?_
    rintro e w6 ⟨v6, rfl, hv6, hb6⟩
    obtain ⟨ya, pa, yb, pb, rfl, h1, h2⟩ := hv6
    have k0 := k0.below hb6
    have hs := below_trans hs hb6
    have c0 := k0.c0
    have c1 := k0.c1
    have c2 := k0.c2
    have c3 := k0.c3
    have f0 := k0.f 0
    have f1 := k0.f 1
    have f2 := k0.f 2
    have f3 := k0.f 3
    obtain ⟨WW, hWW⟩ : ∃ WW, (((w6.setCell ⟨w.heap.size, 0, none⟩ (.int .i64 ya)).setCell ⟨w.heap.size, 1, none⟩ (.pointer pa)).setCell ⟨w.heap.size, 2, none⟩ (.int .i64 yb)).setCell ⟨w.heap.size, 3, none⟩ (.pointer pb) = WW := ⟨_, rfl⟩
    obtain ⟨z0, z1, z2, z3, z4⟩ := ret_box4 (r := ((0 : Int) : Rat)) k0 h1 h2 hs (Nat.le_refl _) hWW
    have HZ := Lib.hid z4
    clear hs k0 h1 h2 z4 hb6 HW
    go_wp2_with fail
    exact bodyPost_ret (v := .agg #[.int .i64 ya, .pointer pa, .int .i64 yb, .pointer pb]) (by simp [results, Tryz.results76, go_sem, z0, z1, z2, z3]) rfl (by rw [HN.out]; exact HZ.out)
end Go.Proofs.YtekghemhccfhkaaGreatDoor
namespace Go.Proofs.YtekghemhccfhkaaGreatDoor
open Go.RowKit Go.Big
def RetQ (w : World) (q : Rat) (e : Ending) (w' : World) : Prop := e = .returned (.string (rs q)) ∧ Below w.heap.size w w'
theorem text_at {v : Value} {q : Rat} {w : World} (h : FracV w v q) (hT : TabsA w) (sq : Sz 31 q) : Calls Tryz.prog 68 #[v] w (RetQ w q) := textF_any h hT sq
theorem itext_rs (n : Int) : itext n = rtext (n : Rat) := by unfold rtext; rw [Rat.num_intCast, Rat.den_intCast, if_pos rfl, List.append_nil]
set_option maxRecDepth 100000 in
set_option maxHeartbeats 1000000 in
theorem mulA {s t : ByteArray} {K : Nat} (hs : s.size ≤ 608) (ht : t.size ≤ 608) (hK : K < 100) (s1 : Sz K (qv s)) (s2 : Sz K (qv t)) (sr : Sz 31 (qv s * qv t)) {w : World} (hT : TabsA w) : Calls Tryz.prog 41 #[.string s, .string t] w (RetQ w (qv s * qv t)) := by
  have HL := Lib.hid (And.intro hs ht)
  have HK := Lib.hid hK
  have HZ := Lib.hid (And.intro s1 s2)
  have HR := Lib.hid sr
  have HT := Lib.hid hT
  clear hT hs ht hK s1 s2 sr
  go_enter Tryz.func41, Tryz.ntmps41
  go_wp2_with fail
  refine (value_any s HL.out.1 _ HT.out.1).mono ?_
  rintro e w1 ⟨v1, rfl, hv1, hb1⟩
  have HV1 := Lib.hid hv1
  have HT := Lib.hid (HT.out.below hb1)
  have HB := Lib.hid hb1
  clear hv1 hb1
  go_wp2_with fail
  refine (value_any t HL.out.2 _ HT.out.1).mono ?_
  rintro e w2 ⟨v2, rfl, hv2, hb2⟩
  have HV1 := Lib.hid (HV1.out.below hb2)
  have HV2 := Lib.hid hv2
  have HT := Lib.hid (HT.out.below hb2)
  have HB := Lib.hid (below_trans HB.out hb2)
  clear hv2 hb2
  go_wp2_with fail
  refine (mulF_any HV1.out HV2.out HT.out.1 HK.out HZ.out.1 HZ.out.2).mono ?_
  rintro e w3 ⟨v3, rfl, hv3, hb3⟩
  have HV1 := Lib.hid (HV1.out.below hb3)
  have HV2 := Lib.hid (HV2.out.below hb3)
  have HV3 := Lib.hid hv3
  have HT := Lib.hid (HT.out.below hb3)
  have HB := Lib.hid (below_trans HB.out hb3)
  clear hv3 hb3
  go_wp2_with fail
  refine (text_at HV3.out HT.out HR.out).mono ?_
  rintro e w4 ⟨rfl, hb4⟩
  have HV1 := Lib.hid (HV1.out.below hb4)
  have HV2 := Lib.hid (HV2.out.below hb4)
  have HV3 := Lib.hid (HV3.out.below hb4)
  have HT := Lib.hid (HT.out.below hb4)
  have HB := Lib.hid (below_trans HB.out hb4)
  clear hb4
  go_wp2_with fail
  go_ret
  exact ⟨rfl, HB.out⟩
set_option maxRecDepth 100000 in
set_option maxHeartbeats 1000000 in
theorem addA {s t : ByteArray} {K : Nat} (hs : s.size ≤ 608) (ht : t.size ≤ 608) (hK : K < 100) (s1 : Sz K (qv s)) (s2 : Sz K (qv t)) (sr : Sz 31 (qv s + qv t)) {w : World} (hT : TabsA w) : Calls Tryz.prog 37 #[.string s, .string t] w (RetQ w (qv s + qv t)) := by
  have HL := Lib.hid (And.intro hs ht)
  have HK := Lib.hid hK
  have HZ := Lib.hid (And.intro s1 s2)
  have HR := Lib.hid sr
  have HT := Lib.hid hT
  clear hT hs ht hK s1 s2 sr
  go_enter Tryz.func37, Tryz.ntmps37
  go_wp2_with fail
  refine (value_any s HL.out.1 _ HT.out.1).mono ?_
  rintro e w1 ⟨v1, rfl, hv1, hb1⟩
  have HV1 := Lib.hid hv1
  have HT := Lib.hid (HT.out.below hb1)
  have HB := Lib.hid hb1
  clear hv1 hb1
  go_wp2_with fail
  refine (value_any t HL.out.2 _ HT.out.1).mono ?_
  rintro e w2 ⟨v2, rfl, hv2, hb2⟩
  have HV1 := Lib.hid (HV1.out.below hb2)
  have HV2 := Lib.hid hv2
  have HT := Lib.hid (HT.out.below hb2)
  have HB := Lib.hid (below_trans HB.out hb2)
  clear hv2 hb2
  go_wp2_with fail
  refine (addF_any HV1.out HV2.out HT.out.1 HK.out HZ.out.1 HZ.out.2).mono ?_
  rintro e w3 ⟨v3, rfl, hv3, hb3⟩
  have HV1 := Lib.hid (HV1.out.below hb3)
  have HV2 := Lib.hid (HV2.out.below hb3)
  have HV3 := Lib.hid hv3
  have HT := Lib.hid (HT.out.below hb3)
  have HB := Lib.hid (below_trans HB.out hb3)
  clear hv3 hb3
  go_wp2_with fail
  refine (text_at HV3.out HT.out HR.out).mono ?_
  rintro e w4 ⟨rfl, hb4⟩
  have HV1 := Lib.hid (HV1.out.below hb4)
  have HV2 := Lib.hid (HV2.out.below hb4)
  have HV3 := Lib.hid (HV3.out.below hb4)
  have HT := Lib.hid (HT.out.below hb4)
  have HB := Lib.hid (below_trans HB.out hb4)
  clear hb4
  go_wp2_with fail
  go_ret
  exact ⟨rfl, HB.out⟩
set_option maxRecDepth 100000 in
set_option maxHeartbeats 1000000 in
theorem compareA {s t : ByteArray} {K : Nat} (hs : s.size ≤ 608) (ht : t.size ≤ 608) (hK : K < 100) (s1 : Sz K (qv s)) (s2 : Sz K (qv t)) {w : World} (hT : TabsA w) : Calls Tryz.prog 31 #[.string s, .string t] w (RetI w (cmpInt ((qv s).num * (qv t).den) ((qv t).num * (qv s).den))) := by
  have HL := Lib.hid (And.intro hs ht)
  have HK := Lib.hid hK
  have HZ := Lib.hid (And.intro s1 s2)
  have HT := Lib.hid hT
  clear hT hs ht hK s1 s2
  go_enter Tryz.func31, Tryz.ntmps31
  go_wp2_with fail
  refine (value_any s HL.out.1 _ HT.out.1).mono ?_
  rintro e w1 ⟨v1, rfl, hv1, hb1⟩
  have HV1 := Lib.hid hv1
  have HT := Lib.hid (HT.out.below hb1)
  have HB := Lib.hid hb1
  clear hv1 hb1
  go_wp2_with fail
  refine (value_any t HL.out.2 _ HT.out.1).mono ?_
  rintro e w2 ⟨v2, rfl, hv2, hb2⟩
  have HV1 := Lib.hid (HV1.out.below hb2)
  have HV2 := Lib.hid hv2
  have HT := Lib.hid (HT.out.below hb2)
  have HB := Lib.hid (below_trans HB.out hb2)
  clear hv2 hb2
  go_wp2_with fail
  refine (compareF_any HV1.out HV2.out HK.out HZ.out.1 HZ.out.2).mono ?_
  rintro e w3 ⟨rfl, hb3⟩
  have HV1 := Lib.hid (HV1.out.below hb3)
  have HV2 := Lib.hid (HV2.out.below hb3)
  have HT := Lib.hid (HT.out.below hb3)
  have HB := Lib.hid (below_trans HB.out hb3)
  clear hb3
  go_wp2_with fail
  go_ret
  exact ⟨rfl, HB.out⟩
end Go.Proofs.YtekghemhccfhkaaGreatDoor
