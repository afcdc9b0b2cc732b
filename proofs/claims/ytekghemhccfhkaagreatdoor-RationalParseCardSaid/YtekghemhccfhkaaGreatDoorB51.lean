/-
  Walks of the program's functions: PMath, NPA, NPB, NPC.
-/
import Derived.Test.YtekghemhccfhkaaGreatDoorB41
import Derived.Test.YtekghemhccfhkaaGreatDoorB34
import Derived.Test.YtekghemhccfhkaaGreatDoorB50
import Derived.Test.YtekghemhccfhkaaGreatDoorB47
namespace Go.Big
open Go Go.RowKit
def IsD (x : UInt8) : Prop := 48 ≤ x.toNat ∧ x.toNat ≤ 57
/-- n digits stand at the beginning. -/
def DgN (l : List UInt8) (n : Nat) : Prop := n ≤ l.length ∧ Dig (l.take n) ∧ ∀ h : n < l.length, ¬ IsD l[n]
theorem dg_ex : ∀ l : List UInt8, ∃ n, DgN l n
  | [] => ⟨0, Nat.le_refl _, fun _ h => by simp at h, fun h => by simp at h⟩
  | x :: l => by
    by_cases hx : IsD x
    · obtain ⟨n, h1, h2, h3⟩ := dg_ex l
      refine ⟨n + 1, by simp; omega, ?_, fun h => ?_⟩
      · intro y hy
        simp at hy
        rcases hy with rfl | hy
        · exact hx
        · exact h2 y hy
      · simp
        exact h3 (by simpa using h)
    · exact ⟨0, Nat.zero_le _, fun _ h => by simp at h, fun _ => hx⟩
theorem dg_uniq {l : List UInt8} {n n' : Nat} (h : DgN l n) (h' : DgN l n') : n = n' := by
  have aux : ∀ {a b : Nat}, DgN l a → DgN l b → ¬ a < b := fun {a b} ha hb hlt => by
    have h1 : a < l.length := Nat.lt_of_lt_of_le hlt hb.1
    have h2 := hb.2.1 l[a] (by
      rw [List.mem_iff_getElem?]
      exact ⟨a, by rw [List.getElem?_take_of_lt hlt, List.getElem?_eq_getElem h1]⟩)
    exact ha.2.2 h1 h2
  rcases Nat.lt_trichotomy n n' with h1 | h1 | h1
  · exact absurd h1 (aux h h')
  · exact h1
  · exact absurd h1 (aux h' h)
theorem split_at' {l : List UInt8} {n : Nat} (h : n < l.length) : l = l.take n ++ l[n] :: l.drop (n + 1) := by
  rw [← List.drop_eq_getElem_cons h, List.take_append_drop]
theorem nosep_dig {l : List UInt8} (h : Dig l) : NoSep l := fun x hx => by
  have := h x hx
  exact ⟨fun e => by rw [e] at this; exact absurd this.1 (by decide), fun e => by rw [e] at this; exact absurd this.1 (by decide)⟩
/-- No digit at the beginning. -/
theorem u_zero {l : List UInt8} (h : DgN l 0) (n d : Nat) : ¬ UForm l n d := by
  have key : ∀ {a : List UInt8} {t : List UInt8}, FdOk a → l = a ++ t → False := fun {a t} ha e => by
    cases a with
    | nil => exact ha.2 rfl
    | cons x a =>
      have hl : 0 < l.length := by rw [e]; simp
      have hx : l[0] = x := by simp [e]
      have := h.2.2 hl
      rw [hx] at this
      exact this (ha.1 x (by simp))
  rintro (h1 | ⟨a, b, e, h1⟩ | ⟨a, b, e, h1⟩)
  · exact key (t := []) h1.1 (by simp)
  · exact key h1.1 e
  · exact key h1.1 e
/-- Another byte behind the digits. -/
theorem u_other {l : List UInt8} {k : Nat} (h : DgN l k) (hk : k < l.length) (h1 : l[k] ≠ 47) (h2 : l[k] ≠ 46) (n d : Nat) : ¬ UForm l n d := by
  have key : ∀ {a b : List UInt8} {x : UInt8}, Dig a → ¬ IsD x → l = a ++ x :: b → l[k] = x := fun {a b x} ha hx e => by
    have hd : DgN l a.length := by
      refine ⟨by rw [e]; simp, by rw [e]; simpa using ha, fun h => ?_⟩
      have : l[a.length] = x := by simp [e]
      rw [this]; exact hx
    have := dg_uniq h hd
    subst this
    simp [e]
  rintro (h3 | ⟨a, b, e, h3⟩ | ⟨a, b, e, h3⟩)
  · exact h.2.2 hk (h3.1.1 _ (List.getElem_mem hk))
  · exact h1 (key h3.1.1 (by unfold IsD; decide) e)
  · exact h2 (key h3.1.1 (by unfold IsD; decide) e)
theorem u_sep {l : List UInt8} {k : Nat} (h : DgN l k) (h0 : 0 < k) (hk : k < l.length) {j : Nat} (hj : DgN (l.drop (k + 1)) j) :
    (j = 0 ∨ k + 1 + j < l.length → ∀ n d, ¬ UForm l n d) ∧ (0 < j → k + 1 + j = l.length → FdOk (l.take k) ∧ FdOk (l.drop (k + 1)) ∧
      (l[k] = 47 → UForm l (dec (l.take k)) (dec (l.drop (k + 1)))) ∧ (l[k] = 46 → UForm l (dec (l.take k ++ l.drop (k + 1))) (10 ^ j))) := by
  have el := split_at' hk
  have fa : FdOk (l.take k) := ⟨h.2.1, fun e => by have := congrArg List.length e; rw [List.length_take, List.length_nil] at this; omega⟩
  have hdl : (l.drop (k + 1)).length = l.length - (k + 1) := List.length_drop
  constructor
  · intro hbad n d hu
    have hnb : ¬ FdOk (l.drop (k + 1)) := fun hb => by
      have : DgN (l.drop (k + 1)) (l.drop (k + 1)).length := ⟨Nat.le_refl _, by rw [List.take_length]; exact hb.1, fun h => absurd h (Nat.lt_irrefl _)⟩
      have hjl := dg_uniq hj this
      have h2 : (l.drop (k + 1)).length ≠ 0 := fun e => hb.2 (List.length_eq_zero_iff.1 e)
      omega
    by_cases h47 : l[k] = 47
    · rw [h47] at el
      exact hnb ((uform_slash el (nosep_dig h.2.1) n d).1 hu).2.1
    · by_cases h46 : l[k] = 46
      · rw [h46] at el
        exact hnb ((uform_dot el (nosep_dig h.2.1) n d).1 hu).2.1
      · exact u_other h hk h47 h46 n d hu
  · intro hj0 hjl
    have fb : FdOk (l.drop (k + 1)) := by
      refine ⟨?_, fun e => by have := congrArg List.length e; simp at this; omega⟩
      have := hj.2.1
      rw [List.take_of_length_le (by omega)] at this
      exact this
    refine ⟨fa, fb, fun e => ?_, fun e => ?_⟩
    · rw [e] at el
      exact .inr (.inl ⟨_, _, el, fa, fb, rfl, rfl⟩)
    · rw [e] at el
      exact .inr (.inr ⟨_, _, el, fa, fb, rfl, by rw [hdl]; congr 1; omega⟩)
theorem u_uniq {l : List UInt8} {n d n' d' : Nat} (h : UForm l n d) (h' : UForm l n' d') : n = n' ∧ d = d' := by
  rcases h with h1 | ⟨a, b, e, h1⟩ | ⟨a, b, e, h1⟩
  · have := (uform_none (fd_nosep h1.1) n' d').1 h'
    exact ⟨by rw [h1.2.1, this.2.1], by rw [h1.2.2, this.2.2]⟩
  · have := (uform_slash e (fd_nosep h1.1) n' d').1 h'
    exact ⟨by rw [h1.2.2.1, this.2.2.1], by rw [h1.2.2.2, this.2.2.2]⟩
  · have := (uform_dot e (fd_nosep h1.1) n' d').1 h'
    exact ⟨by rw [h1.2.2.1, this.2.2.1], by rw [h1.2.2.2, this.2.2.2]⟩
theorem pow_two_step (a b : Nat) {k : Nat} (h : k ≤ a * b) : 10 ^ k ≤ (10 ^ a) ^ b := by
  rw [← Nat.pow_mul]; exact Nat.pow_le_pow_right (by decide) h
theorem p31 {k : Nat} (h : k ≤ 400) : 10 ^ k < B64 ^ 31 :=
  Nat.lt_of_le_of_lt (pow_two_step 19 31 (by omega)) (Nat.pow_lt_pow_left (by decide) (by decide))
theorem u_bound {l : List UInt8} {n d : Nat} (hl : l.length ≤ 400) (h : UForm l n d) : n < B64 ^ 31 ∧ d < B64 ^ 31 := by
  have db : ∀ {a : List UInt8}, Dig a → a.length ≤ 400 → dec a < B64 ^ 31 := fun h h' => Nat.lt_trans (dec_lt h) (p31 h')
  rcases h with h1 | ⟨a, b, e, h1⟩ | ⟨a, b, e, h1⟩
  · exact ⟨by rw [h1.2.1]; exact db h1.1.1 hl, by rw [h1.2.2]; exact p31 (k := 0) (by omega)⟩
  · have hlen : a.length + (b.length + 1) = l.length := by rw [e]; simp
    exact ⟨by rw [h1.2.2.1]; exact db h1.1.1 (by omega), by rw [h1.2.2.2]; exact db h1.2.1.1 (by omega)⟩
  · have hlen : a.length + (b.length + 1) = l.length := by rw [e]; simp
    refine ⟨by rw [h1.2.2.1]; exact db (h1.1.1.append h1.2.1.1) (by simp; omega), ?_⟩
    rw [h1.2.2.2]
    exact p31 (by omega)
end Go.Big
namespace Go.Big
open Go Go.RowKit
theorem NumV.sn2 {g : Nat} {b b1 : Bool} {s s1 v : Value} {w : World} {n : Int} (hk : N2 g b s w) (hs : Cb s1) (h : NumV w v n) : NumV (Go.Big.sn2 w g b1 s1) v n := by
  obtain ⟨x, e, h1⟩ := h
  exact ⟨x, e, h1.sn2 hk hs⟩
end Go.Big
namespace Go.Proofs.YtekghemhccfhkaaGreatDoor
open Go.RowKit Go.Big
theorem digits_at {s : ByteArray} {k : Nat} (hl : s.size ≤ 1000000) (h : DgN s.data.toList k) (w : World) : Calls Tryz.prog 69 #[.string s] w fun e w' => e = .returned (.int .i64 (k : Int)) ∧ w' = w := by
  refine (digits_any s hl w).mono ?_
  rintro e w' ⟨rfl, n, rfl, h1, h2, h3⟩
  have hn : DgN s.data.toList n := ⟨by rw [← Lib.size_eq]; exact h1, h2, h3⟩
  rw [dg_uniq hn h]; exact ⟨rfl, rfl⟩
theorem nfd_at {s : ByteArray} {l : List UInt8} (hl : s.size ≤ 1000000) (hs : s.data.toList = l) (h : FdOk l) (w : World) : Calls Tryz.prog 70 #[.string s] w fun e w' => ∃ v, e = .returned (.tuple #[v, .bool true]) ∧ NumV w' v (dec l : Nat) ∧ Below w.heap.size w w' := by
  subst hs
  refine (nfromDigits_any s hl w).mono ?_
  rintro e w' ⟨v, b, n, rfl, h1, h2, h3, h4⟩
  have hb : b = true := h1.2 ⟨h.1, by
    rcases Nat.eq_zero_or_pos s.size with h0 | h0
    · exact absurd (List.length_eq_zero_iff.1 ((Lib.size_eq s).symm.trans h0)) h.2
    · exact h0⟩
  subst hb
  exact ⟨v, rfl, by rw [← h3 rfl]; exact h2, h4⟩
/-- How the two ways of the sign begin. -/
structure Beg (s m : ByteArray) (neg : Bool) : Prop where
  ne : s.toList.isEmpty = false
  pos : 0 < s.size
  le : s.size ≤ 400
  sign : (neg = false ∧ m = s ∧ ((s[0]'pos).toNat : Int) ≠ 45) ∨ (neg = true ∧ s.extract 1 s.size = m ∧ ((s[0]'pos).toNat : Int) = 45)
def PaE (neg : Bool) (m : ByteArray) : World → Ending → World → Prop := PaPost neg (UForm m.data.toList)
theorem paE_none {neg : Bool} {m : ByteArray} {w w' : World} (hb : Below w.heap.size w w') (h : ∀ n d, ¬ UForm m.data.toList n d) : PaE neg m w (.returned (.tuple #[.string ⟨#[]⟩, .int .i64 6])) w' := ⟨hb, .inr (.inr ⟨h, rfl⟩)⟩
set_option maxRecDepth 100000 in
set_option maxHeartbeats 4000000 in
/-- No digit. -/
theorem nparse_zero {s m : ByteArray} {neg : Bool} (hs : Beg s m neg) (hk : DgN m.data.toList 0) (w : World) : Calls Tryz.prog 22 #[.string s] w (PaE neg m w) := by
  obtain ⟨he, hp, hle, hsg⟩ := hs
  have HU := Lib.hid (u_zero hk)
  rcases hsg with ⟨rfl, rfl, hc⟩ | ⟨rfl, hm, hc⟩
  · obtain ⟨c, hcc⟩ : ∃ c : Int, ((m[0]'hp).toNat : Int) = c := ⟨_, rfl⟩
    rw [hcc] at hc
    have hcb : (c == 45) = false := by rw [beq_eq_false_iff_ne]; exact hc
    have HD := Lib.hid (fun w => digits_at (show m.size ≤ 1000000 by omega) hk w)
    clear hk
    go_enter Tryz.func22, Tryz.ntmps22
    go_wp2_with fail
    refine (HD.out _).mono ?_
    rintro e w1 ⟨rfl, rfl⟩
    go_wp2_with fail
    exact bodyPost_ret (v := .tuple #[.string ⟨#[]⟩, .int .i64 6]) (by simp [results, Tryz.results22, go_sem]) rfl (paE_none (Below.refl _ _) HU.out)
  · have hml : m.size ≤ 1000000 := by rw [← hm, ByteArray.size_extract]; omega
    have HD := Lib.hid (fun w => digits_at hml hk w)
    have hi1 : (1 : Int) ≤ (s.size : Int) := by omega
    clear hk
    go_enter Tryz.func22, Tryz.ntmps22
    go_wp2_with fail
    refine (HD.out _).mono ?_
    rintro e w1 ⟨rfl, rfl⟩
    go_wp2_with fail
    exact bodyPost_ret (v := .tuple #[.string ⟨#[]⟩, .int .i64 6]) (by simp [results, Tryz.results22, go_sem]) rfl (paE_none (Below.refl _ _) HU.out)
end Go.Proofs.YtekghemhccfhkaaGreatDoor
namespace Go.Proofs.YtekghemhccfhkaaGreatDoor
open Go.RowKit Go.Big
theorem paE_ok {neg : Bool} {m S : ByteArray} {n d : Nat} {q : Rat} {w w' : World} (hb : Below w.heap.size w w') (hu : UForm m.data.toList n d) (hd : 0 < d) (hq : q.num * d = signed neg n * q.den) (hS : rs q = S) : PaE neg m w (.returned (.tuple #[.string S, .int .i64 0])) w' := by
  rw [← hS]; exact ⟨hb, .inl ⟨n, d, q, hu, hd, hq, rfl⟩⟩
/-- The number that is to come out, and all bounds. -/
structure Fin (neg : Bool) (m S : ByteArray) (n d : Nat) (q : Rat) : Prop where
  u : UForm m.data.toList n d
  dpos : 0 < d
  eq : q.num * d = signed neg n * q.den
  S : rs q = S
  n62 : n < B32 ^ 62
  d62 : d < B32 ^ 62
  q62 : Sn 62 q
theorem fin_ex {neg : Bool} {m : ByteArray} {n d : Nat} (hl : m.size ≤ 400) (hu : UForm m.data.toList n d) (hd : 0 < d) : ∃ S q, Fin neg m S n d q := by
  obtain ⟨q, hq⟩ := exists_rat (signed neg n) hd
  have hb := u_bound (by rw [← Lib.size_eq]; exact hl) hu
  have e := b64_32 31
  refine ⟨_, q, hu, hd, hq, rfl, by rw [← e]; exact hb.1, by rw [← e]; exact hb.2, ?_⟩
  exact sn_of_sz (K := 31) (rat_small hd hq (by rw [signed_natAbs]; exact hb.1) hb.2)
set_option maxRecDepth 100000 in
set_option maxHeartbeats 8000000 in
/-- Digits alone. -/
theorem nparse_whole {s m S : ByteArray} {neg : Bool} {k : Nat} {q : Rat} (hs : Beg s m neg) (hk : DgN m.data.toList k) (h0 : 0 < k) (hkm : m.size = k) (hfk : FdOk (m.data.toList.take k)) (hf : Fin neg m S (dec (m.data.toList.take k)) 1 q) (w : World) : Calls Tryz.prog 22 #[.string s] w (PaE neg m w) := by
  have HF := Lib.hid hf
  have HFK := Lib.hid hfk
  clear hf hfk
  obtain ⟨he, hp, hle, hsg⟩ := hs
  rcases hsg with ⟨rfl, rfl, hc⟩ | ⟨rfl, hm, hc⟩
  · obtain ⟨c, hcc⟩ : ∃ c : Int, ((m[0]'hp).toNat : Int) = c := ⟨_, rfl⟩
    rw [hcc] at hc
    have hcb : (c == 45) = false := by rw [beq_eq_false_iff_ne]; exact hc
    have hml : m.size ≤ 400 := hle
    obtain ⟨l, hll⟩ : ∃ l, m.data.toList = l := ⟨_, rfl⟩
    have hkn : ¬ (k : Int) < (m.size : Int) := by omega
    have HD := Lib.hid (fun w => digits_at (show m.size ≤ 1000000 by omega) hk w)
    obtain ⟨ta, hta⟩ : ∃ t, m.extract 0 k = t := ⟨_, rfl⟩
    have hkl : k ≤ m.size := by have := hk.1; rw [← Lib.size_eq] at this; exact this
    have htl : ta.data.toList = m.data.toList.take k := by rw [← hta]; simp
    have hts : ta.size ≤ 1000000 := by rw [← hta, ByteArray.size_extract]; omega
    have HFA := Lib.hid (fun w => nfd_at hts htl HFK.out w)
    have hk1 : (0 : Int) ≤ (k : Int) := by omega
    have hk2 : (k : Int) ≤ (m.size : Int) := by omega
    have hk3 : k ≤ 400 := by omega
    have HI1 : Hid (IsS 1) := Lib.hid ⟨by decide, by decide⟩
    clear hk htl hts
    go_enter Tryz.func22, Tryz.ntmps22
    go_wp2_with fail
    refine (HD.out _).mono ?_
    rintro e w1 ⟨rfl, rfl⟩
    clear HD
    go_wp2_with fail
    refine (HFA.out _).mono ?_
    rintro e w2 ⟨v2, rfl, hv2, hb2⟩
    obtain ⟨b1, a1, l1, c1, rfl, e1, h1⟩ := hv2.op
    obtain ⟨w3, hw3, hb3, k7, hz3⟩ := nbox1 w2 #[.bool b1, .slice a1 l1 c1] 30 (cb2 b1 h1.cb)
    have k7 : N2 w2.heap.size b1 (.slice a1 l1 c1) w3 := k7
    have HA := Lib.hid (hv2.below hb3)
    have HC1 : Hid (Cb (.slice a1 l1 c1)) := Lib.hid h1.cb
    have HB := Lib.hid (below_trans hb2 hb3)
    have hg7 : w1.heap.size ≤ w2.heap.size := hb2.size
    have hg37 : w2.heap.size < w3.heap.size := by omega
    clear e1 h1 hv2 hb2 hb3 HFA hz3
    go_wp2_with fail
    refine (nfromInt_any HI1.out _).mono ?_
    rintro e w4 ⟨v4, rfl, hv4, hb4⟩
    obtain ⟨b2, a2, l2, c2, rfl, e2, h2⟩ := hv4.op
    obtain ⟨w5, hw5, hb5, k9, hz5⟩ := nbox1 w4 #[.bool b2, .slice a2 l2 c2] 30 (cb2 b2 h2.cb)
    have k9 : N2 w4.heap.size b2 (.slice a2 l2 c2) w5 := k9
    have hb45 := below_trans hb4 hb5
    have k7 := k7.below hb45
    have HA := Lib.hid (HA.out.below hb45)
    have HN9 := Lib.hid (hv4.below hb5)
    have HB := Lib.hid (below_trans HB.out hb45)
    have hg4 := hb4.size
    have hg9 : w1.heap.size ≤ w4.heap.size := by omega
    have h79 : w2.heap.size ≠ w4.heap.size := by omega
    have y0 := k7.c0
    have y1 := k7.c1
    have y2 := k9.c0
    have y3 := k9.c1
    have f0 := k7.f 0
    have f1 := k7.f 1
    have HK := Lib.hid (And.intro k7 k9)
    clear e2 h2 hv4 hb4 hb5 hb45 hz5 k7 k9
    have HND := HN9
    go_wp2_with fail
    refine (frac_pos (K := 62) HA.out HND.out (by have := HF.out.dpos; omega) (by decide) (by rw [Int.natAbs_natCast]; exact HF.out.n62) (by first | (rw [Int.natAbs_natCast]; exact HF.out.d62) | exact HF.out.d62) (by have := HF.out.eq; exact this)).mono ?_
    rintro e wf ⟨vf, rfl, hvf, hbf⟩
    have HV := Lib.hid hvf
    have HB := Lib.hid (below_trans HB.out hbf)
    clear hvf hbf
    go_wp2_with fail
    refine (textC (K := 62) HV.out (by decide) HF.out.q62 HF.out.S).mono ?_
    rintro e wt ⟨rfl, hbt⟩
    have HB := Lib.hid (below_trans HB.out hbt)
    clear hbt
    go_wp2_with fail
    exact bodyPost_ret (v := .tuple #[.string S, .int .i64 0]) (by simp [results, Tryz.results22, go_sem]) rfl (paE_ok HB.out HF.out.u HF.out.dpos HF.out.eq HF.out.S)
  · have hml : m.size ≤ 400 := by rw [← hm, ByteArray.size_extract]; omega
    have hi1 : (1 : Int) ≤ (s.size : Int) := by omega
    obtain ⟨l, hll⟩ : ∃ l, m.data.toList = l := ⟨_, rfl⟩
    have hkn : ¬ (k : Int) < (m.size : Int) := by omega
    have HD := Lib.hid (fun w => digits_at (show m.size ≤ 1000000 by omega) hk w)
    obtain ⟨ta, hta⟩ : ∃ t, m.extract 0 k = t := ⟨_, rfl⟩
    have hkl : k ≤ m.size := by have := hk.1; rw [← Lib.size_eq] at this; exact this
    have htl : ta.data.toList = m.data.toList.take k := by rw [← hta]; simp
    have hts : ta.size ≤ 1000000 := by rw [← hta, ByteArray.size_extract]; omega
    have HFA := Lib.hid (fun w => nfd_at hts htl HFK.out w)
    have hk1 : (0 : Int) ≤ (k : Int) := by omega
    have hk2 : (k : Int) ≤ (m.size : Int) := by omega
    have hk3 : k ≤ 400 := by omega
    have HI1 : Hid (IsS 1) := Lib.hid ⟨by decide, by decide⟩
    clear hk htl hts
    go_enter Tryz.func22, Tryz.ntmps22
    go_wp2_with fail
    refine (HD.out _).mono ?_
    rintro e w1 ⟨rfl, rfl⟩
    clear HD
    go_wp2_with fail
    refine (HFA.out _).mono ?_
    rintro e w2 ⟨v2, rfl, hv2, hb2⟩
    obtain ⟨b1, a1, l1, c1, rfl, e1, h1⟩ := hv2.op
    obtain ⟨w3, hw3, hb3, k7, hz3⟩ := nbox1 w2 #[.bool b1, .slice a1 l1 c1] 30 (cb2 b1 h1.cb)
    have k7 : N2 w2.heap.size b1 (.slice a1 l1 c1) w3 := k7
    have HA := Lib.hid (hv2.below hb3)
    have HC1 : Hid (Cb (.slice a1 l1 c1)) := Lib.hid h1.cb
    have HB := Lib.hid (below_trans hb2 hb3)
    have hg7 : w1.heap.size ≤ w2.heap.size := hb2.size
    have hg37 : w2.heap.size < w3.heap.size := by omega
    clear e1 h1 hv2 hb2 hb3 HFA hz3
    go_wp2_with fail
    refine (nfromInt_any HI1.out _).mono ?_
    rintro e w4 ⟨v4, rfl, hv4, hb4⟩
    obtain ⟨b2, a2, l2, c2, rfl, e2, h2⟩ := hv4.op
    obtain ⟨w5, hw5, hb5, k9, hz5⟩ := nbox1 w4 #[.bool b2, .slice a2 l2 c2] 30 (cb2 b2 h2.cb)
    have k9 : N2 w4.heap.size b2 (.slice a2 l2 c2) w5 := k9
    have hb45 := below_trans hb4 hb5
    have k7 := k7.below hb45
    have HA := Lib.hid (HA.out.below hb45)
    have HN9 := Lib.hid (hv4.below hb5)
    have HB := Lib.hid (below_trans HB.out hb45)
    have hg4 := hb4.size
    have hg9 : w1.heap.size ≤ w4.heap.size := by omega
    have h79 : w2.heap.size ≠ w4.heap.size := by omega
    have y0 := k7.c0
    have y1 := k7.c1
    have y2 := k9.c0
    have y3 := k9.c1
    have f0 := k7.f 0
    have f1 := k7.f 1
    have HK := Lib.hid (And.intro k7 k9)
    clear e2 h2 hv4 hb4 hb5 hb45 hz5 k7 k9
    have HND := HN9
    go_wp2_with fail
    refine (nneg_any HA.out).mono ?_
    rintro e wn ⟨vn, rfl, hvn, hbn⟩
    obtain ⟨bn, an, ln, cn, rfl, en, hn⟩ := hvn.op
    have k7 := HK.out.1.below hbn
    have k9 := HK.out.2.below hbn
    have z0 := k7.c0
    have z1 := k7.c1
    have z2 := k9.c0
    have z3 := k9.c1
    have g0 := k7.f 0
    have g1 := k7.f 1
    obtain ⟨WN, hWN⟩ : ∃ WN, (wn.setCell ⟨w2.heap.size, 0, none⟩ (.bool bn)).setCell ⟨w2.heap.size, 1, none⟩ (.slice an ln cn) = WN := ⟨_, rfl⟩
    have j7 : N2 w2.heap.size bn (.slice an ln cn) WN := by rw [← hWN]; exact k7.st bn hn.cb
    have j9 : N2 w4.heap.size b2 (.slice a2 l2 c2) WN := by rw [← hWN]; exact k9.o2 h79.symm bn (.slice an ln cn)
    have x0 := j7.c0
    have x1 := j7.c1
    have x2 := j9.c0
    have x3 := j9.c1
    have HAN := Lib.hid (show NumV WN (.agg #[.bool bn, .slice an ln cn]) (-(dec (m.data.toList.take k) : Nat)) from by rw [← hWN]; exact NumV.sn2 k7 hn.cb hvn)
    have HND := Lib.hid (show NumV WN (.agg #[.bool b2, (.slice a2 l2 c2)]) ((1 : Nat) : Int) from by rw [← hWN]; exact NumV.sn2 k7 hn.cb (HND.out.below hbn))
    have HB := Lib.hid (show Below w1.heap.size w1 WN from by rw [← hWN]; exact Below.sn2 (below_trans HB.out hbn) hg7 bn (.slice an ln cn))
    clear en hn hvn hbn k7 k9 j7 j9 y0 y1 y2 y3 f0 f1 HK
    go_wp2_with fail
    refine (frac_pos (K := 62) HAN.out HND.out (by have := HF.out.dpos; omega) (by decide) (by rw [Int.natAbs_neg, Int.natAbs_natCast]; exact HF.out.n62) (by first | (rw [Int.natAbs_natCast]; exact HF.out.d62) | exact HF.out.d62) (by have := HF.out.eq; exact this)).mono ?_
    rintro e wf ⟨vf, rfl, hvf, hbf⟩
    have HV := Lib.hid hvf
    have HB := Lib.hid (below_trans HB.out hbf)
    clear hvf hbf
    go_wp2_with fail
    refine (textC (K := 62) HV.out (by decide) HF.out.q62 HF.out.S).mono ?_
    rintro e wt ⟨rfl, hbt⟩
    have HB := Lib.hid (below_trans HB.out hbt)
    clear hbt
    go_wp2_with fail
    exact bodyPost_ret (v := .tuple #[.string S, .int .i64 0]) (by simp [results, Tryz.results22, go_sem]) rfl (paE_ok HB.out HF.out.u HF.out.dpos HF.out.eq HF.out.S)
end Go.Proofs.YtekghemhccfhkaaGreatDoor
namespace Go.Proofs.YtekghemhccfhkaaGreatDoor
open Go.RowKit Go.Big
theorem paE_zero {neg : Bool} {m : ByteArray} {n : Nat} {w w' : World} (hb : Below w.heap.size w w') (hu : UForm m.data.toList n 0) : PaE neg m w (.returned (.tuple #[.string ⟨#[]⟩, .int .i64 5])) w' := ⟨hb, .inr (.inl ⟨n, hu, rfl⟩)⟩
set_option maxRecDepth 100000 in
set_option maxHeartbeats 8000000 in
/-- Nothing behind the sign in the middle. -/
theorem nparse_bad1 {s m : ByteArray} {neg : Bool} {k j : Nat} (hs : Beg s m neg) (hk : DgN m.data.toList k) (h0 : 0 < k) (hkm : k < m.size) (hfk : FdOk (m.data.toList.take k)) (hj : DgN (m.data.toList.drop (k + 1)) j) (hj0 : j = 0) (hu : ∀ n d, ¬ UForm m.data.toList n d) (w : World) : Calls Tryz.prog 22 #[.string s] w (PaE neg m w) := by
  have HU := Lib.hid hu
  have HFK := Lib.hid hfk
  have HJ := Lib.hid hj
  have hjm : j ≤ m.size - (k + 1) := by
    have := hj.1
    rw [List.length_drop, ← Lib.size_eq] at this
    exact this
  clear hfk hj
  obtain ⟨he, hp, hle, hsg⟩ := hs
  rcases hsg with ⟨rfl, rfl, hc⟩ | ⟨rfl, hm, hc⟩
  · obtain ⟨c, hcc⟩ : ∃ c : Int, ((m[0]'hp).toNat : Int) = c := ⟨_, rfl⟩
    rw [hcc] at hc
    have hcb : (c == 45) = false := by rw [beq_eq_false_iff_ne]; exact hc
    have hml : m.size ≤ 400 := hle
    obtain ⟨tb, htb⟩ : ∃ t, m.extract (k + 1) m.size = t := ⟨_, rfl⟩
    have htbl : tb.data.toList = m.data.toList.drop (k + 1) := by
      rw [← htb]; simp
      rw [List.take_of_length_le (by rw [List.length_drop, ← Lib.size_eq]; omega)]
    have htbs : tb.size ≤ 1000000 := by rw [← htb, ByteArray.size_extract]; omega
    have HDJ := Lib.hid (fun w => digits_at htbs (by rw [htbl]; exact HJ.out) w)
    have hk4 : (k : Int) < (m.size : Int) := by omega
    have hk5 : (k : Int) + 1 ≤ (m.size : Int) := by omega
    have hk6 : (0 : Int) ≤ (k : Int) + 1 := by omega
    have e2 : ((k : Int) + 1).toNat = k + 1 := by omega
    have hj3 : j ≤ 400 := by omega
    subst hj0
    clear htbl htbs
    have HD := Lib.hid (fun w => digits_at (show m.size ≤ 1000000 by omega) hk w)
    obtain ⟨ta, hta⟩ : ∃ t, m.extract 0 k = t := ⟨_, rfl⟩
    have hkl : k ≤ m.size := by have := hk.1; rw [← Lib.size_eq] at this; exact this
    have htl : ta.data.toList = m.data.toList.take k := by rw [← hta]; simp
    have hts : ta.size ≤ 1000000 := by rw [← hta, ByteArray.size_extract]; omega
    have HFA := Lib.hid (fun w => nfd_at hts htl HFK.out w)
    have hk1 : (0 : Int) ≤ (k : Int) := by omega
    have hk2 : (k : Int) ≤ (m.size : Int) := by omega
    have hk3 : k ≤ 400 := by omega
    have HI1 : Hid (IsS 1) := Lib.hid ⟨by decide, by decide⟩
    clear hk htl hts
    go_enter Tryz.func22, Tryz.ntmps22
    go_wp2_with fail
    refine (HD.out _).mono ?_
    rintro e w1 ⟨rfl, rfl⟩
    clear HD
    go_wp2_with fail
    refine (HFA.out _).mono ?_
    rintro e w2 ⟨v2, rfl, hv2, hb2⟩
    obtain ⟨b1, a1, l1, c1, rfl, e1, h1⟩ := hv2.op
    obtain ⟨w3, hw3, hb3, k7, hz3⟩ := nbox1 w2 #[.bool b1, .slice a1 l1 c1] 30 (cb2 b1 h1.cb)
    have k7 : N2 w2.heap.size b1 (.slice a1 l1 c1) w3 := k7
    have HA := Lib.hid (hv2.below hb3)
    have HC1 : Hid (Cb (.slice a1 l1 c1)) := Lib.hid h1.cb
    have HB := Lib.hid (below_trans hb2 hb3)
    have hg7 : w1.heap.size ≤ w2.heap.size := hb2.size
    have hg37 : w2.heap.size < w3.heap.size := by omega
    clear e1 h1 hv2 hb2 hb3 HFA hz3
    go_wp2_with fail
    refine (nfromInt_any HI1.out _).mono ?_
    rintro e w4 ⟨v4, rfl, hv4, hb4⟩
    obtain ⟨b2, a2, l2, c2, rfl, e2, h2⟩ := hv4.op
    obtain ⟨w5, hw5, hb5, k9, hz5⟩ := nbox1 w4 #[.bool b2, .slice a2 l2 c2] 30 (cb2 b2 h2.cb)
    have k9 : N2 w4.heap.size b2 (.slice a2 l2 c2) w5 := k9
    have hb45 := below_trans hb4 hb5
    have k7 := k7.below hb45
    have HA := Lib.hid (HA.out.below hb45)
    have HN9 := Lib.hid (hv4.below hb5)
    have HB := Lib.hid (below_trans HB.out hb45)
    have hg4 := hb4.size
    have hg9 : w1.heap.size ≤ w4.heap.size := by omega
    have h79 : w2.heap.size ≠ w4.heap.size := by omega
    have y0 := k7.c0
    have y1 := k7.c1
    have y2 := k9.c0
    have y3 := k9.c1
    have f0 := k7.f 0
    have f1 := k7.f 1
    have HK := Lib.hid (And.intro k7 k9)
    clear e2 h2 hv4 hb4 hb5 hb45 hz5 k7 k9
    clear y0 y1 y2 y3 f0 f1 HK
    go_wp2_with fail
    refine (HDJ.out _).mono ?_
    rintro e w6 ⟨rfl, rfl⟩
    clear HDJ
    go_wp2_with fail
    exact bodyPost_ret (v := .tuple #[.string ⟨#[]⟩, .int .i64 6]) (by simp [results, Tryz.results22, go_sem]) rfl (paE_none HB.out HU.out)
  · have hml : m.size ≤ 400 := by rw [← hm, ByteArray.size_extract]; omega
    have hi1 : (1 : Int) ≤ (s.size : Int) := by omega
    obtain ⟨tb, htb⟩ : ∃ t, m.extract (k + 1) m.size = t := ⟨_, rfl⟩
    have htbl : tb.data.toList = m.data.toList.drop (k + 1) := by
      rw [← htb]; simp
      rw [List.take_of_length_le (by rw [List.length_drop, ← Lib.size_eq]; omega)]
    have htbs : tb.size ≤ 1000000 := by rw [← htb, ByteArray.size_extract]; omega
    have HDJ := Lib.hid (fun w => digits_at htbs (by rw [htbl]; exact HJ.out) w)
    have hk4 : (k : Int) < (m.size : Int) := by omega
    have hk5 : (k : Int) + 1 ≤ (m.size : Int) := by omega
    have hk6 : (0 : Int) ≤ (k : Int) + 1 := by omega
    have e2 : ((k : Int) + 1).toNat = k + 1 := by omega
    have hj3 : j ≤ 400 := by omega
    subst hj0
    clear htbl htbs
    have HD := Lib.hid (fun w => digits_at (show m.size ≤ 1000000 by omega) hk w)
    obtain ⟨ta, hta⟩ : ∃ t, m.extract 0 k = t := ⟨_, rfl⟩
    have hkl : k ≤ m.size := by have := hk.1; rw [← Lib.size_eq] at this; exact this
    have htl : ta.data.toList = m.data.toList.take k := by rw [← hta]; simp
    have hts : ta.size ≤ 1000000 := by rw [← hta, ByteArray.size_extract]; omega
    have HFA := Lib.hid (fun w => nfd_at hts htl HFK.out w)
    have hk1 : (0 : Int) ≤ (k : Int) := by omega
    have hk2 : (k : Int) ≤ (m.size : Int) := by omega
    have hk3 : k ≤ 400 := by omega
    have HI1 : Hid (IsS 1) := Lib.hid ⟨by decide, by decide⟩
    clear hk htl hts
    go_enter Tryz.func22, Tryz.ntmps22
    go_wp2_with fail
    refine (HD.out _).mono ?_
    rintro e w1 ⟨rfl, rfl⟩
    clear HD
    go_wp2_with fail
    refine (HFA.out _).mono ?_
    rintro e w2 ⟨v2, rfl, hv2, hb2⟩
    obtain ⟨b1, a1, l1, c1, rfl, e1, h1⟩ := hv2.op
    obtain ⟨w3, hw3, hb3, k7, hz3⟩ := nbox1 w2 #[.bool b1, .slice a1 l1 c1] 30 (cb2 b1 h1.cb)
    have k7 : N2 w2.heap.size b1 (.slice a1 l1 c1) w3 := k7
    have HA := Lib.hid (hv2.below hb3)
    have HC1 : Hid (Cb (.slice a1 l1 c1)) := Lib.hid h1.cb
    have HB := Lib.hid (below_trans hb2 hb3)
    have hg7 : w1.heap.size ≤ w2.heap.size := hb2.size
    have hg37 : w2.heap.size < w3.heap.size := by omega
    clear e1 h1 hv2 hb2 hb3 HFA hz3
    go_wp2_with fail
    refine (nfromInt_any HI1.out _).mono ?_
    rintro e w4 ⟨v4, rfl, hv4, hb4⟩
    obtain ⟨b2, a2, l2, c2, rfl, e2, h2⟩ := hv4.op
    obtain ⟨w5, hw5, hb5, k9, hz5⟩ := nbox1 w4 #[.bool b2, .slice a2 l2 c2] 30 (cb2 b2 h2.cb)
    have k9 : N2 w4.heap.size b2 (.slice a2 l2 c2) w5 := k9
    have hb45 := below_trans hb4 hb5
    have k7 := k7.below hb45
    have HA := Lib.hid (HA.out.below hb45)
    have HN9 := Lib.hid (hv4.below hb5)
    have HB := Lib.hid (below_trans HB.out hb45)
    have hg4 := hb4.size
    have hg9 : w1.heap.size ≤ w4.heap.size := by omega
    have h79 : w2.heap.size ≠ w4.heap.size := by omega
    have y0 := k7.c0
    have y1 := k7.c1
    have y2 := k9.c0
    have y3 := k9.c1
    have f0 := k7.f 0
    have f1 := k7.f 1
    have HK := Lib.hid (And.intro k7 k9)
    clear e2 h2 hv4 hb4 hb5 hb45 hz5 k7 k9
    clear y0 y1 y2 y3 f0 f1 HK
    go_wp2_with fail
    refine (HDJ.out _).mono ?_
    rintro e w6 ⟨rfl, rfl⟩
    clear HDJ
    go_wp2_with fail
    exact bodyPost_ret (v := .tuple #[.string ⟨#[]⟩, .int .i64 6]) (by simp [results, Tryz.results22, go_sem]) rfl (paE_none HB.out HU.out)
set_option maxRecDepth 100000 in
set_option maxHeartbeats 8000000 in
/-- More behind the second digits. -/
theorem nparse_bad2 {s m : ByteArray} {neg : Bool} {k j : Nat} (hs : Beg s m neg) (hk : DgN m.data.toList k) (h0 : 0 < k) (hkm : k < m.size) (hfk : FdOk (m.data.toList.take k)) (hj : DgN (m.data.toList.drop (k + 1)) j) (hj0 : 0 < j) (hjl : k + 1 + j < m.size) (hu : ∀ n d, ¬ UForm m.data.toList n d) (w : World) : Calls Tryz.prog 22 #[.string s] w (PaE neg m w) := by
  have HU := Lib.hid hu
  have HFK := Lib.hid hfk
  have HJ := Lib.hid hj
  have hjm : j ≤ m.size - (k + 1) := by
    have := hj.1
    rw [List.length_drop, ← Lib.size_eq] at this
    exact this
  clear hfk hj
  obtain ⟨he, hp, hle, hsg⟩ := hs
  rcases hsg with ⟨rfl, rfl, hc⟩ | ⟨rfl, hm, hc⟩
  · obtain ⟨c, hcc⟩ : ∃ c : Int, ((m[0]'hp).toNat : Int) = c := ⟨_, rfl⟩
    rw [hcc] at hc
    have hcb : (c == 45) = false := by rw [beq_eq_false_iff_ne]; exact hc
    have hml : m.size ≤ 400 := hle
    obtain ⟨tb, htb⟩ : ∃ t, m.extract (k + 1) m.size = t := ⟨_, rfl⟩
    have htbl : tb.data.toList = m.data.toList.drop (k + 1) := by
      rw [← htb]; simp
      rw [List.take_of_length_le (by rw [List.length_drop, ← Lib.size_eq]; omega)]
    have htbs : tb.size ≤ 1000000 := by rw [← htb, ByteArray.size_extract]; omega
    have HDJ := Lib.hid (fun w => digits_at htbs (by rw [htbl]; exact HJ.out) w)
    have hk4 : (k : Int) < (m.size : Int) := by omega
    have hk5 : (k : Int) + 1 ≤ (m.size : Int) := by omega
    have hk6 : (0 : Int) ≤ (k : Int) + 1 := by omega
    have e2 : ((k : Int) + 1).toNat = k + 1 := by omega
    have hj3 : j ≤ 400 := by omega
    have hjn : ¬ (j : Int) = 0 := by omega
    have hjz : ((j : Int) == 0) = false := by rw [beq_eq_false_iff_ne]; exact hjn
    have hjl2 : (k : Int) + 1 + (j : Int) < (m.size : Int) := by omega
    clear htbl htbs
    have HD := Lib.hid (fun w => digits_at (show m.size ≤ 1000000 by omega) hk w)
    obtain ⟨ta, hta⟩ : ∃ t, m.extract 0 k = t := ⟨_, rfl⟩
    have hkl : k ≤ m.size := by have := hk.1; rw [← Lib.size_eq] at this; exact this
    have htl : ta.data.toList = m.data.toList.take k := by rw [← hta]; simp
    have hts : ta.size ≤ 1000000 := by rw [← hta, ByteArray.size_extract]; omega
    have HFA := Lib.hid (fun w => nfd_at hts htl HFK.out w)
    have hk1 : (0 : Int) ≤ (k : Int) := by omega
    have hk2 : (k : Int) ≤ (m.size : Int) := by omega
    have hk3 : k ≤ 400 := by omega
    have HI1 : Hid (IsS 1) := Lib.hid ⟨by decide, by decide⟩
    clear hk htl hts
    go_enter Tryz.func22, Tryz.ntmps22
    go_wp2_with fail
    refine (HD.out _).mono ?_
    rintro e w1 ⟨rfl, rfl⟩
    clear HD
    go_wp2_with fail
    refine (HFA.out _).mono ?_
    rintro e w2 ⟨v2, rfl, hv2, hb2⟩
    obtain ⟨b1, a1, l1, c1, rfl, e1, h1⟩ := hv2.op
    obtain ⟨w3, hw3, hb3, k7, hz3⟩ := nbox1 w2 #[.bool b1, .slice a1 l1 c1] 30 (cb2 b1 h1.cb)
    have k7 : N2 w2.heap.size b1 (.slice a1 l1 c1) w3 := k7
    have HA := Lib.hid (hv2.below hb3)
    have HC1 : Hid (Cb (.slice a1 l1 c1)) := Lib.hid h1.cb
    have HB := Lib.hid (below_trans hb2 hb3)
    have hg7 : w1.heap.size ≤ w2.heap.size := hb2.size
    have hg37 : w2.heap.size < w3.heap.size := by omega
    clear e1 h1 hv2 hb2 hb3 HFA hz3
    go_wp2_with fail
    refine (nfromInt_any HI1.out _).mono ?_
    rintro e w4 ⟨v4, rfl, hv4, hb4⟩
    obtain ⟨b2, a2, l2, c2, rfl, e2, h2⟩ := hv4.op
    obtain ⟨w5, hw5, hb5, k9, hz5⟩ := nbox1 w4 #[.bool b2, .slice a2 l2 c2] 30 (cb2 b2 h2.cb)
    have k9 : N2 w4.heap.size b2 (.slice a2 l2 c2) w5 := k9
    have hb45 := below_trans hb4 hb5
    have k7 := k7.below hb45
    have HA := Lib.hid (HA.out.below hb45)
    have HN9 := Lib.hid (hv4.below hb5)
    have HB := Lib.hid (below_trans HB.out hb45)
    have hg4 := hb4.size
    have hg9 : w1.heap.size ≤ w4.heap.size := by omega
    have h79 : w2.heap.size ≠ w4.heap.size := by omega
    have y0 := k7.c0
    have y1 := k7.c1
    have y2 := k9.c0
    have y3 := k9.c1
    have f0 := k7.f 0
    have f1 := k7.f 1
    have HK := Lib.hid (And.intro k7 k9)
    clear e2 h2 hv4 hb4 hb5 hb45 hz5 k7 k9
    clear y0 y1 y2 y3 f0 f1 HK
    go_wp2_with fail
    refine (HDJ.out _).mono ?_
    rintro e w6 ⟨rfl, rfl⟩
    clear HDJ
    go_wp2_with fail
    exact bodyPost_ret (v := .tuple #[.string ⟨#[]⟩, .int .i64 6]) (by simp [results, Tryz.results22, go_sem]) rfl (paE_none HB.out HU.out)
  · have hml : m.size ≤ 400 := by rw [← hm, ByteArray.size_extract]; omega
    have hi1 : (1 : Int) ≤ (s.size : Int) := by omega
    obtain ⟨tb, htb⟩ : ∃ t, m.extract (k + 1) m.size = t := ⟨_, rfl⟩
    have htbl : tb.data.toList = m.data.toList.drop (k + 1) := by
      rw [← htb]; simp
      rw [List.take_of_length_le (by rw [List.length_drop, ← Lib.size_eq]; omega)]
    have htbs : tb.size ≤ 1000000 := by rw [← htb, ByteArray.size_extract]; omega
    have HDJ := Lib.hid (fun w => digits_at htbs (by rw [htbl]; exact HJ.out) w)
    have hk4 : (k : Int) < (m.size : Int) := by omega
    have hk5 : (k : Int) + 1 ≤ (m.size : Int) := by omega
    have hk6 : (0 : Int) ≤ (k : Int) + 1 := by omega
    have e2 : ((k : Int) + 1).toNat = k + 1 := by omega
    have hj3 : j ≤ 400 := by omega
    have hjn : ¬ (j : Int) = 0 := by omega
    have hjz : ((j : Int) == 0) = false := by rw [beq_eq_false_iff_ne]; exact hjn
    have hjl2 : (k : Int) + 1 + (j : Int) < (m.size : Int) := by omega
    clear htbl htbs
    have HD := Lib.hid (fun w => digits_at (show m.size ≤ 1000000 by omega) hk w)
    obtain ⟨ta, hta⟩ : ∃ t, m.extract 0 k = t := ⟨_, rfl⟩
    have hkl : k ≤ m.size := by have := hk.1; rw [← Lib.size_eq] at this; exact this
    have htl : ta.data.toList = m.data.toList.take k := by rw [← hta]; simp
    have hts : ta.size ≤ 1000000 := by rw [← hta, ByteArray.size_extract]; omega
    have HFA := Lib.hid (fun w => nfd_at hts htl HFK.out w)
    have hk1 : (0 : Int) ≤ (k : Int) := by omega
    have hk2 : (k : Int) ≤ (m.size : Int) := by omega
    have hk3 : k ≤ 400 := by omega
    have HI1 : Hid (IsS 1) := Lib.hid ⟨by decide, by decide⟩
    clear hk htl hts
    go_enter Tryz.func22, Tryz.ntmps22
    go_wp2_with fail
    refine (HD.out _).mono ?_
    rintro e w1 ⟨rfl, rfl⟩
    clear HD
    go_wp2_with fail
    refine (HFA.out _).mono ?_
    rintro e w2 ⟨v2, rfl, hv2, hb2⟩
    obtain ⟨b1, a1, l1, c1, rfl, e1, h1⟩ := hv2.op
    obtain ⟨w3, hw3, hb3, k7, hz3⟩ := nbox1 w2 #[.bool b1, .slice a1 l1 c1] 30 (cb2 b1 h1.cb)
    have k7 : N2 w2.heap.size b1 (.slice a1 l1 c1) w3 := k7
    have HA := Lib.hid (hv2.below hb3)
    have HC1 : Hid (Cb (.slice a1 l1 c1)) := Lib.hid h1.cb
    have HB := Lib.hid (below_trans hb2 hb3)
    have hg7 : w1.heap.size ≤ w2.heap.size := hb2.size
    have hg37 : w2.heap.size < w3.heap.size := by omega
    clear e1 h1 hv2 hb2 hb3 HFA hz3
    go_wp2_with fail
    refine (nfromInt_any HI1.out _).mono ?_
    rintro e w4 ⟨v4, rfl, hv4, hb4⟩
    obtain ⟨b2, a2, l2, c2, rfl, e2, h2⟩ := hv4.op
    obtain ⟨w5, hw5, hb5, k9, hz5⟩ := nbox1 w4 #[.bool b2, .slice a2 l2 c2] 30 (cb2 b2 h2.cb)
    have k9 : N2 w4.heap.size b2 (.slice a2 l2 c2) w5 := k9
    have hb45 := below_trans hb4 hb5
    have k7 := k7.below hb45
    have HA := Lib.hid (HA.out.below hb45)
    have HN9 := Lib.hid (hv4.below hb5)
    have HB := Lib.hid (below_trans HB.out hb45)
    have hg4 := hb4.size
    have hg9 : w1.heap.size ≤ w4.heap.size := by omega
    have h79 : w2.heap.size ≠ w4.heap.size := by omega
    have y0 := k7.c0
    have y1 := k7.c1
    have y2 := k9.c0
    have y3 := k9.c1
    have f0 := k7.f 0
    have f1 := k7.f 1
    have HK := Lib.hid (And.intro k7 k9)
    clear e2 h2 hv4 hb4 hb5 hb45 hz5 k7 k9
    clear y0 y1 y2 y3 f0 f1 HK
    go_wp2_with fail
    refine (HDJ.out _).mono ?_
    rintro e w6 ⟨rfl, rfl⟩
    clear HDJ
    go_wp2_with fail
    exact bodyPost_ret (v := .tuple #[.string ⟨#[]⟩, .int .i64 6]) (by simp [results, Tryz.results22, go_sem]) rfl (paE_none HB.out HU.out)
set_option maxRecDepth 100000 in
set_option maxHeartbeats 8000000 in
/-- Another byte in the middle. -/
theorem nparse_other {s m : ByteArray} {neg : Bool} {k j : Nat} (hs : Beg s m neg) (hk : DgN m.data.toList k) (h0 : 0 < k) (hkm : k < m.size) (hfk : FdOk (m.data.toList.take k)) (hj : DgN (m.data.toList.drop (k + 1)) j) (hj0 : 0 < j) (hjl : k + 1 + j = m.size) (hfd : FdOk (m.data.toList.drop (k + 1))) (hne7 : ((m[k].toNat : Nat) : Int) ≠ 47) (hne6 : ((m[k].toNat : Nat) : Int) ≠ 46) (hu : ∀ n d, ¬ UForm m.data.toList n d) (w : World) : Calls Tryz.prog 22 #[.string s] w (PaE neg m w) := by
  have HU := Lib.hid hu
  have HFK := Lib.hid hfk
  have HJ := Lib.hid hj
  have hjm : j ≤ m.size - (k + 1) := by
    have := hj.1
    rw [List.length_drop, ← Lib.size_eq] at this
    exact this
  clear hfk hj
  have HFD := Lib.hid hfd
  clear hfd
  obtain ⟨he, hp, hle, hsg⟩ := hs
  rcases hsg with ⟨rfl, rfl, hc⟩ | ⟨rfl, hm, hc⟩
  · obtain ⟨c, hcc⟩ : ∃ c : Int, ((m[0]'hp).toNat : Int) = c := ⟨_, rfl⟩
    rw [hcc] at hc
    have hcb : (c == 45) = false := by rw [beq_eq_false_iff_ne]; exact hc
    have hml : m.size ≤ 400 := hle
    obtain ⟨cc, hccc⟩ : ∃ c : Int, ((m[k].toNat : Nat) : Int) = c := ⟨_, rfl⟩
    rw [hccc] at hne7 hne6
    have hq7 : (cc == 47) = false := by rw [beq_eq_false_iff_ne]; exact hne7
    have hq6 : (cc == 46) = false := by rw [beq_eq_false_iff_ne]; exact hne6
    obtain ⟨tb, htb⟩ : ∃ t, m.extract (k + 1) m.size = t := ⟨_, rfl⟩
    have htbl : tb.data.toList = m.data.toList.drop (k + 1) := by
      rw [← htb]; simp
      rw [List.take_of_length_le (by rw [List.length_drop, ← Lib.size_eq]; omega)]
    have htbs : tb.size ≤ 1000000 := by rw [← htb, ByteArray.size_extract]; omega
    have HDJ := Lib.hid (fun w => digits_at htbs (by rw [htbl]; exact HJ.out) w)
    have hk4 : (k : Int) < (m.size : Int) := by omega
    have hk5 : (k : Int) + 1 ≤ (m.size : Int) := by omega
    have hk6 : (0 : Int) ≤ (k : Int) + 1 := by omega
    have e2 : ((k : Int) + 1).toNat = k + 1 := by omega
    have hj3 : j ≤ 400 := by omega
    have hjn : ¬ (j : Int) = 0 := by omega
    have hjz : ((j : Int) == 0) = false := by rw [beq_eq_false_iff_ne]; exact hjn
    have hjl2 : ¬ (k : Int) + 1 + (j : Int) < (m.size : Int) := by omega
    have HFB := Lib.hid (fun w => nfd_at htbs htbl HFD.out w)
    clear htbl htbs
    have HD := Lib.hid (fun w => digits_at (show m.size ≤ 1000000 by omega) hk w)
    obtain ⟨ta, hta⟩ : ∃ t, m.extract 0 k = t := ⟨_, rfl⟩
    have hkl : k ≤ m.size := by have := hk.1; rw [← Lib.size_eq] at this; exact this
    have htl : ta.data.toList = m.data.toList.take k := by rw [← hta]; simp
    have hts : ta.size ≤ 1000000 := by rw [← hta, ByteArray.size_extract]; omega
    have HFA := Lib.hid (fun w => nfd_at hts htl HFK.out w)
    have hk1 : (0 : Int) ≤ (k : Int) := by omega
    have hk2 : (k : Int) ≤ (m.size : Int) := by omega
    have hk3 : k ≤ 400 := by omega
    have HI1 : Hid (IsS 1) := Lib.hid ⟨by decide, by decide⟩
    clear hk htl hts
    go_enter Tryz.func22, Tryz.ntmps22
    go_wp2_with fail
    refine (HD.out _).mono ?_
    rintro e w1 ⟨rfl, rfl⟩
    clear HD
    go_wp2_with fail
    refine (HFA.out _).mono ?_
    rintro e w2 ⟨v2, rfl, hv2, hb2⟩
    obtain ⟨b1, a1, l1, c1, rfl, e1, h1⟩ := hv2.op
    obtain ⟨w3, hw3, hb3, k7, hz3⟩ := nbox1 w2 #[.bool b1, .slice a1 l1 c1] 30 (cb2 b1 h1.cb)
    have k7 : N2 w2.heap.size b1 (.slice a1 l1 c1) w3 := k7
    have HA := Lib.hid (hv2.below hb3)
    have HC1 : Hid (Cb (.slice a1 l1 c1)) := Lib.hid h1.cb
    have HB := Lib.hid (below_trans hb2 hb3)
    have hg7 : w1.heap.size ≤ w2.heap.size := hb2.size
    have hg37 : w2.heap.size < w3.heap.size := by omega
    clear e1 h1 hv2 hb2 hb3 HFA hz3
    go_wp2_with fail
    refine (nfromInt_any HI1.out _).mono ?_
    rintro e w4 ⟨v4, rfl, hv4, hb4⟩
    obtain ⟨b2, a2, l2, c2, rfl, e2, h2⟩ := hv4.op
    obtain ⟨w5, hw5, hb5, k9, hz5⟩ := nbox1 w4 #[.bool b2, .slice a2 l2 c2] 30 (cb2 b2 h2.cb)
    have k9 : N2 w4.heap.size b2 (.slice a2 l2 c2) w5 := k9
    have hb45 := below_trans hb4 hb5
    have k7 := k7.below hb45
    have HA := Lib.hid (HA.out.below hb45)
    have HN9 := Lib.hid (hv4.below hb5)
    have HB := Lib.hid (below_trans HB.out hb45)
    have hg4 := hb4.size
    have hg9 : w1.heap.size ≤ w4.heap.size := by omega
    have h79 : w2.heap.size ≠ w4.heap.size := by omega
    have y0 := k7.c0
    have y1 := k7.c1
    have y2 := k9.c0
    have y3 := k9.c1
    have f0 := k7.f 0
    have f1 := k7.f 1
    have HK := Lib.hid (And.intro k7 k9)
    clear e2 h2 hv4 hb4 hb5 hb45 hz5 k7 k9
    have HC2 : Hid (Cb (.slice a2 l2 c2)) := Lib.hid (Cb.sl _ _ _)
    go_wp2_with fail
    refine (HDJ.out _).mono ?_
    rintro e w6 ⟨rfl, rfl⟩
    clear HDJ
    go_wp2_with fail
    refine (HFB.out _).mono ?_
    rintro e w7 ⟨v7, rfl, hv7, hb7⟩
    obtain ⟨b3, a3, l3, c3, rfl, e3, h3⟩ := hv7.op
    obtain ⟨w8, hw8, hb8, k11, hz8⟩ := nbox1 w7 #[.bool b3, .slice a3 l3 c3] 30 (cb2 b3 h3.cb)
    have k11 : N2 w7.heap.size b3 (.slice a3 l3 c3) w8 := k11
    have hb78 := below_trans hb7 hb8
    have k7 := HK.out.1.below hb78
    have k9 := HK.out.2.below hb78
    have HA := Lib.hid (HA.out.below hb78)
    have HN9 := Lib.hid (HN9.out.below hb78)
    have HNB := Lib.hid (hv7.below hb8)
    have HB := Lib.hid (below_trans HB.out hb78)
    have hlt9 : w4.heap.size < w7.heap.size := Nat.lt_of_lt_of_le (World.block_lt_of_cell? _ _ y2) hb7.size
    have h911 : w4.heap.size ≠ w7.heap.size := by omega
    have h711 : w2.heap.size ≠ w7.heap.size := by omega
    have hg11 : w1.heap.size ≤ w7.heap.size := by omega
    clear y0 y1 y2 y3 f0 f1 HK
    have y0 := k7.c0
    have y1 := k7.c1
    have y2 := k9.c0
    have y3 := k9.c1
    have y4 := k11.c0
    have y5 := k11.c1
    have f0 := k7.f 0
    have f1 := k7.f 1
    have f2 := k9.f 0
    have f3 := k9.f 1
    have HK := Lib.hid (And.intro k7 (And.intro k9 k11))
    clear hb7 e3 h3 hv7 hb8 hb78 hz8 k7 k9 k11 HFB
    clear y0 y1 y2 y3 y4 y5 f0 f1 f2 f3 HK
    go_wp2_with fail
    exact bodyPost_ret (v := .tuple #[.string ⟨#[]⟩, .int .i64 6]) (by simp [results, Tryz.results22, go_sem]) rfl (paE_none HB.out HU.out)
  · have hml : m.size ≤ 400 := by rw [← hm, ByteArray.size_extract]; omega
    have hi1 : (1 : Int) ≤ (s.size : Int) := by omega
    obtain ⟨cc, hccc⟩ : ∃ c : Int, ((m[k].toNat : Nat) : Int) = c := ⟨_, rfl⟩
    rw [hccc] at hne7 hne6
    have hq7 : (cc == 47) = false := by rw [beq_eq_false_iff_ne]; exact hne7
    have hq6 : (cc == 46) = false := by rw [beq_eq_false_iff_ne]; exact hne6
    obtain ⟨tb, htb⟩ : ∃ t, m.extract (k + 1) m.size = t := ⟨_, rfl⟩
    have htbl : tb.data.toList = m.data.toList.drop (k + 1) := by
      rw [← htb]; simp
      rw [List.take_of_length_le (by rw [List.length_drop, ← Lib.size_eq]; omega)]
    have htbs : tb.size ≤ 1000000 := by rw [← htb, ByteArray.size_extract]; omega
    have HDJ := Lib.hid (fun w => digits_at htbs (by rw [htbl]; exact HJ.out) w)
    have hk4 : (k : Int) < (m.size : Int) := by omega
    have hk5 : (k : Int) + 1 ≤ (m.size : Int) := by omega
    have hk6 : (0 : Int) ≤ (k : Int) + 1 := by omega
    have e2 : ((k : Int) + 1).toNat = k + 1 := by omega
    have hj3 : j ≤ 400 := by omega
    have hjn : ¬ (j : Int) = 0 := by omega
    have hjz : ((j : Int) == 0) = false := by rw [beq_eq_false_iff_ne]; exact hjn
    have hjl2 : ¬ (k : Int) + 1 + (j : Int) < (m.size : Int) := by omega
    have HFB := Lib.hid (fun w => nfd_at htbs htbl HFD.out w)
    clear htbl htbs
    have HD := Lib.hid (fun w => digits_at (show m.size ≤ 1000000 by omega) hk w)
    obtain ⟨ta, hta⟩ : ∃ t, m.extract 0 k = t := ⟨_, rfl⟩
    have hkl : k ≤ m.size := by have := hk.1; rw [← Lib.size_eq] at this; exact this
    have htl : ta.data.toList = m.data.toList.take k := by rw [← hta]; simp
    have hts : ta.size ≤ 1000000 := by rw [← hta, ByteArray.size_extract]; omega
    have HFA := Lib.hid (fun w => nfd_at hts htl HFK.out w)
    have hk1 : (0 : Int) ≤ (k : Int) := by omega
    have hk2 : (k : Int) ≤ (m.size : Int) := by omega
    have hk3 : k ≤ 400 := by omega
    have HI1 : Hid (IsS 1) := Lib.hid ⟨by decide, by decide⟩
    clear hk htl hts
    go_enter Tryz.func22, Tryz.ntmps22
    go_wp2_with fail
    refine (HD.out _).mono ?_
    rintro e w1 ⟨rfl, rfl⟩
    clear HD
    go_wp2_with fail
    refine (HFA.out _).mono ?_
    rintro e w2 ⟨v2, rfl, hv2, hb2⟩
    obtain ⟨b1, a1, l1, c1, rfl, e1, h1⟩ := hv2.op
    obtain ⟨w3, hw3, hb3, k7, hz3⟩ := nbox1 w2 #[.bool b1, .slice a1 l1 c1] 30 (cb2 b1 h1.cb)
    have k7 : N2 w2.heap.size b1 (.slice a1 l1 c1) w3 := k7
    have HA := Lib.hid (hv2.below hb3)
    have HC1 : Hid (Cb (.slice a1 l1 c1)) := Lib.hid h1.cb
    have HB := Lib.hid (below_trans hb2 hb3)
    have hg7 : w1.heap.size ≤ w2.heap.size := hb2.size
    have hg37 : w2.heap.size < w3.heap.size := by omega
    clear e1 h1 hv2 hb2 hb3 HFA hz3
    go_wp2_with fail
    refine (nfromInt_any HI1.out _).mono ?_
    rintro e w4 ⟨v4, rfl, hv4, hb4⟩
    obtain ⟨b2, a2, l2, c2, rfl, e2, h2⟩ := hv4.op
    obtain ⟨w5, hw5, hb5, k9, hz5⟩ := nbox1 w4 #[.bool b2, .slice a2 l2 c2] 30 (cb2 b2 h2.cb)
    have k9 : N2 w4.heap.size b2 (.slice a2 l2 c2) w5 := k9
    have hb45 := below_trans hb4 hb5
    have k7 := k7.below hb45
    have HA := Lib.hid (HA.out.below hb45)
    have HN9 := Lib.hid (hv4.below hb5)
    have HB := Lib.hid (below_trans HB.out hb45)
    have hg4 := hb4.size
    have hg9 : w1.heap.size ≤ w4.heap.size := by omega
    have h79 : w2.heap.size ≠ w4.heap.size := by omega
    have y0 := k7.c0
    have y1 := k7.c1
    have y2 := k9.c0
    have y3 := k9.c1
    have f0 := k7.f 0
    have f1 := k7.f 1
    have HK := Lib.hid (And.intro k7 k9)
    clear e2 h2 hv4 hb4 hb5 hb45 hz5 k7 k9
    have HC2 : Hid (Cb (.slice a2 l2 c2)) := Lib.hid (Cb.sl _ _ _)
    go_wp2_with fail
    refine (HDJ.out _).mono ?_
    rintro e w6 ⟨rfl, rfl⟩
    clear HDJ
    go_wp2_with fail
    refine (HFB.out _).mono ?_
    rintro e w7 ⟨v7, rfl, hv7, hb7⟩
    obtain ⟨b3, a3, l3, c3, rfl, e3, h3⟩ := hv7.op
    obtain ⟨w8, hw8, hb8, k11, hz8⟩ := nbox1 w7 #[.bool b3, .slice a3 l3 c3] 30 (cb2 b3 h3.cb)
    have k11 : N2 w7.heap.size b3 (.slice a3 l3 c3) w8 := k11
    have hb78 := below_trans hb7 hb8
    have k7 := HK.out.1.below hb78
    have k9 := HK.out.2.below hb78
    have HA := Lib.hid (HA.out.below hb78)
    have HN9 := Lib.hid (HN9.out.below hb78)
    have HNB := Lib.hid (hv7.below hb8)
    have HB := Lib.hid (below_trans HB.out hb78)
    have hlt9 : w4.heap.size < w7.heap.size := Nat.lt_of_lt_of_le (World.block_lt_of_cell? _ _ y2) hb7.size
    have h911 : w4.heap.size ≠ w7.heap.size := by omega
    have h711 : w2.heap.size ≠ w7.heap.size := by omega
    have hg11 : w1.heap.size ≤ w7.heap.size := by omega
    clear y0 y1 y2 y3 f0 f1 HK
    have y0 := k7.c0
    have y1 := k7.c1
    have y2 := k9.c0
    have y3 := k9.c1
    have y4 := k11.c0
    have y5 := k11.c1
    have f0 := k7.f 0
    have f1 := k7.f 1
    have f2 := k9.f 0
    have f3 := k9.f 1
    have HK := Lib.hid (And.intro k7 (And.intro k9 k11))
    clear hb7 e3 h3 hv7 hb8 hb78 hz8 k7 k9 k11 HFB
    clear y0 y1 y2 y3 y4 y5 f0 f1 f2 f3 HK
    go_wp2_with fail
    exact bodyPost_ret (v := .tuple #[.string ⟨#[]⟩, .int .i64 6]) (by simp [results, Tryz.results22, go_sem]) rfl (paE_none HB.out HU.out)
set_option maxRecDepth 100000 in
set_option maxHeartbeats 8000000 in
/-- A denominator 0. -/
theorem nparse_slash0 {s m : ByteArray} {neg : Bool} {k j : Nat} (hs : Beg s m neg) (hk : DgN m.data.toList k) (h0 : 0 < k) (hkm : k < m.size) (hfk : FdOk (m.data.toList.take k)) (hj : DgN (m.data.toList.drop (k + 1)) j) (hj0 : 0 < j) (hjl : k + 1 + j = m.size) (hfd : FdOk (m.data.toList.drop (k + 1))) (hc7 : ((m[k].toNat : Nat) : Int) = 47) (hz : dec (m.data.toList.drop (k + 1)) = 0) {n : Nat} (hu : UForm m.data.toList n 0) (w : World) : Calls Tryz.prog 22 #[.string s] w (PaE neg m w) := by
  have HU := Lib.hid hu
  have HZ := Lib.hid hz
  clear hz
  have HFK := Lib.hid hfk
  have HJ := Lib.hid hj
  have hjm : j ≤ m.size - (k + 1) := by
    have := hj.1
    rw [List.length_drop, ← Lib.size_eq] at this
    exact this
  clear hfk hj
  have HFD := Lib.hid hfd
  clear hfd
  obtain ⟨he, hp, hle, hsg⟩ := hs
  rcases hsg with ⟨rfl, rfl, hc⟩ | ⟨rfl, hm, hc⟩
  · obtain ⟨c, hcc⟩ : ∃ c : Int, ((m[0]'hp).toNat : Int) = c := ⟨_, rfl⟩
    rw [hcc] at hc
    have hcb : (c == 45) = false := by rw [beq_eq_false_iff_ne]; exact hc
    have hml : m.size ≤ 400 := hle
    obtain ⟨tb, htb⟩ : ∃ t, m.extract (k + 1) m.size = t := ⟨_, rfl⟩
    have htbl : tb.data.toList = m.data.toList.drop (k + 1) := by
      rw [← htb]; simp
      rw [List.take_of_length_le (by rw [List.length_drop, ← Lib.size_eq]; omega)]
    have htbs : tb.size ≤ 1000000 := by rw [← htb, ByteArray.size_extract]; omega
    have HDJ := Lib.hid (fun w => digits_at htbs (by rw [htbl]; exact HJ.out) w)
    have hk4 : (k : Int) < (m.size : Int) := by omega
    have hk5 : (k : Int) + 1 ≤ (m.size : Int) := by omega
    have hk6 : (0 : Int) ≤ (k : Int) + 1 := by omega
    have e2 : ((k : Int) + 1).toNat = k + 1 := by omega
    have hj3 : j ≤ 400 := by omega
    have hjn : ¬ (j : Int) = 0 := by omega
    have hjz : ((j : Int) == 0) = false := by rw [beq_eq_false_iff_ne]; exact hjn
    have hjl2 : ¬ (k : Int) + 1 + (j : Int) < (m.size : Int) := by omega
    have HFB := Lib.hid (fun w => nfd_at htbs htbl HFD.out w)
    clear htbl htbs
    have HD := Lib.hid (fun w => digits_at (show m.size ≤ 1000000 by omega) hk w)
    obtain ⟨ta, hta⟩ : ∃ t, m.extract 0 k = t := ⟨_, rfl⟩
    have hkl : k ≤ m.size := by have := hk.1; rw [← Lib.size_eq] at this; exact this
    have htl : ta.data.toList = m.data.toList.take k := by rw [← hta]; simp
    have hts : ta.size ≤ 1000000 := by rw [← hta, ByteArray.size_extract]; omega
    have HFA := Lib.hid (fun w => nfd_at hts htl HFK.out w)
    have hk1 : (0 : Int) ≤ (k : Int) := by omega
    have hk2 : (k : Int) ≤ (m.size : Int) := by omega
    have hk3 : k ≤ 400 := by omega
    have HI1 : Hid (IsS 1) := Lib.hid ⟨by decide, by decide⟩
    clear hk htl hts
    go_enter Tryz.func22, Tryz.ntmps22
    go_wp2_with fail
    refine (HD.out _).mono ?_
    rintro e w1 ⟨rfl, rfl⟩
    clear HD
    go_wp2_with fail
    refine (HFA.out _).mono ?_
    rintro e w2 ⟨v2, rfl, hv2, hb2⟩
    obtain ⟨b1, a1, l1, c1, rfl, e1, h1⟩ := hv2.op
    obtain ⟨w3, hw3, hb3, k7, hz3⟩ := nbox1 w2 #[.bool b1, .slice a1 l1 c1] 30 (cb2 b1 h1.cb)
    have k7 : N2 w2.heap.size b1 (.slice a1 l1 c1) w3 := k7
    have HA := Lib.hid (hv2.below hb3)
    have HC1 : Hid (Cb (.slice a1 l1 c1)) := Lib.hid h1.cb
    have HB := Lib.hid (below_trans hb2 hb3)
    have hg7 : w1.heap.size ≤ w2.heap.size := hb2.size
    have hg37 : w2.heap.size < w3.heap.size := by omega
    clear e1 h1 hv2 hb2 hb3 HFA hz3
    go_wp2_with fail
    refine (nfromInt_any HI1.out _).mono ?_
    rintro e w4 ⟨v4, rfl, hv4, hb4⟩
    obtain ⟨b2, a2, l2, c2, rfl, e2, h2⟩ := hv4.op
    obtain ⟨w5, hw5, hb5, k9, hz5⟩ := nbox1 w4 #[.bool b2, .slice a2 l2 c2] 30 (cb2 b2 h2.cb)
    have k9 : N2 w4.heap.size b2 (.slice a2 l2 c2) w5 := k9
    have hb45 := below_trans hb4 hb5
    have k7 := k7.below hb45
    have HA := Lib.hid (HA.out.below hb45)
    have HN9 := Lib.hid (hv4.below hb5)
    have HB := Lib.hid (below_trans HB.out hb45)
    have hg4 := hb4.size
    have hg9 : w1.heap.size ≤ w4.heap.size := by omega
    have h79 : w2.heap.size ≠ w4.heap.size := by omega
    have y0 := k7.c0
    have y1 := k7.c1
    have y2 := k9.c0
    have y3 := k9.c1
    have f0 := k7.f 0
    have f1 := k7.f 1
    have HK := Lib.hid (And.intro k7 k9)
    clear e2 h2 hv4 hb4 hb5 hb45 hz5 k7 k9
    have HC2 : Hid (Cb (.slice a2 l2 c2)) := Lib.hid (Cb.sl _ _ _)
    go_wp2_with fail
    refine (HDJ.out _).mono ?_
    rintro e w6 ⟨rfl, rfl⟩
    clear HDJ
    go_wp2_with fail
    refine (HFB.out _).mono ?_
    rintro e w7 ⟨v7, rfl, hv7, hb7⟩
    obtain ⟨b3, a3, l3, c3, rfl, e3, h3⟩ := hv7.op
    obtain ⟨w8, hw8, hb8, k11, hz8⟩ := nbox1 w7 #[.bool b3, .slice a3 l3 c3] 30 (cb2 b3 h3.cb)
    have k11 : N2 w7.heap.size b3 (.slice a3 l3 c3) w8 := k11
    have hb78 := below_trans hb7 hb8
    have k7 := HK.out.1.below hb78
    have k9 := HK.out.2.below hb78
    have HA := Lib.hid (HA.out.below hb78)
    have HN9 := Lib.hid (HN9.out.below hb78)
    have HNB := Lib.hid (hv7.below hb8)
    have HB := Lib.hid (below_trans HB.out hb78)
    have hlt9 : w4.heap.size < w7.heap.size := Nat.lt_of_lt_of_le (World.block_lt_of_cell? _ _ y2) hb7.size
    have h911 : w4.heap.size ≠ w7.heap.size := by omega
    have h711 : w2.heap.size ≠ w7.heap.size := by omega
    have hg11 : w1.heap.size ≤ w7.heap.size := by omega
    clear y0 y1 y2 y3 f0 f1 HK
    have y0 := k7.c0
    have y1 := k7.c1
    have y2 := k9.c0
    have y3 := k9.c1
    have y4 := k11.c0
    have y5 := k11.c1
    have f0 := k7.f 0
    have f1 := k7.f 1
    have f2 := k9.f 0
    have f3 := k9.f 1
    have HK := Lib.hid (And.intro k7 (And.intro k9 k11))
    clear hb7 e3 h3 hv7 hb8 hb78 hz8 k7 k9 k11 HFB
    have HSG := Lib.hid (show Int.sign ((dec (m.data.toList.drop (k + 1)) : Nat) : Int) = 0 by rw [HZ.out]; rfl)
    go_wp2_with fail
    refine (nsign_any HNB.out).mono ?_
    rintro e ws ⟨rfl, hbs⟩
    rw [HSG.out]
    have HB := Lib.hid (below_trans HB.out hbs)
    clear hbs y0 y1 y2 y3 y4 y5 f0 f1 f2 f3 HK
    go_wp2_with fail
    exact bodyPost_ret (v := .tuple #[.string ⟨#[]⟩, .int .i64 5]) (by simp [results, Tryz.results22, go_sem]) rfl (paE_zero HB.out HU.out)
  · have hml : m.size ≤ 400 := by rw [← hm, ByteArray.size_extract]; omega
    have hi1 : (1 : Int) ≤ (s.size : Int) := by omega
    obtain ⟨tb, htb⟩ : ∃ t, m.extract (k + 1) m.size = t := ⟨_, rfl⟩
    have htbl : tb.data.toList = m.data.toList.drop (k + 1) := by
      rw [← htb]; simp
      rw [List.take_of_length_le (by rw [List.length_drop, ← Lib.size_eq]; omega)]
    have htbs : tb.size ≤ 1000000 := by rw [← htb, ByteArray.size_extract]; omega
    have HDJ := Lib.hid (fun w => digits_at htbs (by rw [htbl]; exact HJ.out) w)
    have hk4 : (k : Int) < (m.size : Int) := by omega
    have hk5 : (k : Int) + 1 ≤ (m.size : Int) := by omega
    have hk6 : (0 : Int) ≤ (k : Int) + 1 := by omega
    have e2 : ((k : Int) + 1).toNat = k + 1 := by omega
    have hj3 : j ≤ 400 := by omega
    have hjn : ¬ (j : Int) = 0 := by omega
    have hjz : ((j : Int) == 0) = false := by rw [beq_eq_false_iff_ne]; exact hjn
    have hjl2 : ¬ (k : Int) + 1 + (j : Int) < (m.size : Int) := by omega
    have HFB := Lib.hid (fun w => nfd_at htbs htbl HFD.out w)
    clear htbl htbs
    have HD := Lib.hid (fun w => digits_at (show m.size ≤ 1000000 by omega) hk w)
    obtain ⟨ta, hta⟩ : ∃ t, m.extract 0 k = t := ⟨_, rfl⟩
    have hkl : k ≤ m.size := by have := hk.1; rw [← Lib.size_eq] at this; exact this
    have htl : ta.data.toList = m.data.toList.take k := by rw [← hta]; simp
    have hts : ta.size ≤ 1000000 := by rw [← hta, ByteArray.size_extract]; omega
    have HFA := Lib.hid (fun w => nfd_at hts htl HFK.out w)
    have hk1 : (0 : Int) ≤ (k : Int) := by omega
    have hk2 : (k : Int) ≤ (m.size : Int) := by omega
    have hk3 : k ≤ 400 := by omega
    have HI1 : Hid (IsS 1) := Lib.hid ⟨by decide, by decide⟩
    clear hk htl hts
    go_enter Tryz.func22, Tryz.ntmps22
    go_wp2_with fail
    refine (HD.out _).mono ?_
    rintro e w1 ⟨rfl, rfl⟩
    clear HD
    go_wp2_with fail
    refine (HFA.out _).mono ?_
    rintro e w2 ⟨v2, rfl, hv2, hb2⟩
    obtain ⟨b1, a1, l1, c1, rfl, e1, h1⟩ := hv2.op
    obtain ⟨w3, hw3, hb3, k7, hz3⟩ := nbox1 w2 #[.bool b1, .slice a1 l1 c1] 30 (cb2 b1 h1.cb)
    have k7 : N2 w2.heap.size b1 (.slice a1 l1 c1) w3 := k7
    have HA := Lib.hid (hv2.below hb3)
    have HC1 : Hid (Cb (.slice a1 l1 c1)) := Lib.hid h1.cb
    have HB := Lib.hid (below_trans hb2 hb3)
    have hg7 : w1.heap.size ≤ w2.heap.size := hb2.size
    have hg37 : w2.heap.size < w3.heap.size := by omega
    clear e1 h1 hv2 hb2 hb3 HFA hz3
    go_wp2_with fail
    refine (nfromInt_any HI1.out _).mono ?_
    rintro e w4 ⟨v4, rfl, hv4, hb4⟩
    obtain ⟨b2, a2, l2, c2, rfl, e2, h2⟩ := hv4.op
    obtain ⟨w5, hw5, hb5, k9, hz5⟩ := nbox1 w4 #[.bool b2, .slice a2 l2 c2] 30 (cb2 b2 h2.cb)
    have k9 : N2 w4.heap.size b2 (.slice a2 l2 c2) w5 := k9
    have hb45 := below_trans hb4 hb5
    have k7 := k7.below hb45
    have HA := Lib.hid (HA.out.below hb45)
    have HN9 := Lib.hid (hv4.below hb5)
    have HB := Lib.hid (below_trans HB.out hb45)
    have hg4 := hb4.size
    have hg9 : w1.heap.size ≤ w4.heap.size := by omega
    have h79 : w2.heap.size ≠ w4.heap.size := by omega
    have y0 := k7.c0
    have y1 := k7.c1
    have y2 := k9.c0
    have y3 := k9.c1
    have f0 := k7.f 0
    have f1 := k7.f 1
    have HK := Lib.hid (And.intro k7 k9)
    clear e2 h2 hv4 hb4 hb5 hb45 hz5 k7 k9
    have HC2 : Hid (Cb (.slice a2 l2 c2)) := Lib.hid (Cb.sl _ _ _)
    go_wp2_with fail
    refine (HDJ.out _).mono ?_
    rintro e w6 ⟨rfl, rfl⟩
    clear HDJ
    go_wp2_with fail
    refine (HFB.out _).mono ?_
    rintro e w7 ⟨v7, rfl, hv7, hb7⟩
    obtain ⟨b3, a3, l3, c3, rfl, e3, h3⟩ := hv7.op
    obtain ⟨w8, hw8, hb8, k11, hz8⟩ := nbox1 w7 #[.bool b3, .slice a3 l3 c3] 30 (cb2 b3 h3.cb)
    have k11 : N2 w7.heap.size b3 (.slice a3 l3 c3) w8 := k11
    have hb78 := below_trans hb7 hb8
    have k7 := HK.out.1.below hb78
    have k9 := HK.out.2.below hb78
    have HA := Lib.hid (HA.out.below hb78)
    have HN9 := Lib.hid (HN9.out.below hb78)
    have HNB := Lib.hid (hv7.below hb8)
    have HB := Lib.hid (below_trans HB.out hb78)
    have hlt9 : w4.heap.size < w7.heap.size := Nat.lt_of_lt_of_le (World.block_lt_of_cell? _ _ y2) hb7.size
    have h911 : w4.heap.size ≠ w7.heap.size := by omega
    have h711 : w2.heap.size ≠ w7.heap.size := by omega
    have hg11 : w1.heap.size ≤ w7.heap.size := by omega
    clear y0 y1 y2 y3 f0 f1 HK
    have y0 := k7.c0
    have y1 := k7.c1
    have y2 := k9.c0
    have y3 := k9.c1
    have y4 := k11.c0
    have y5 := k11.c1
    have f0 := k7.f 0
    have f1 := k7.f 1
    have f2 := k9.f 0
    have f3 := k9.f 1
    have HK := Lib.hid (And.intro k7 (And.intro k9 k11))
    clear hb7 e3 h3 hv7 hb8 hb78 hz8 k7 k9 k11 HFB
    have HSG := Lib.hid (show Int.sign ((dec (m.data.toList.drop (k + 1)) : Nat) : Int) = 0 by rw [HZ.out]; rfl)
    go_wp2_with fail
    refine (nsign_any HNB.out).mono ?_
    rintro e ws ⟨rfl, hbs⟩
    rw [HSG.out]
    have HB := Lib.hid (below_trans HB.out hbs)
    clear hbs y0 y1 y2 y3 y4 y5 f0 f1 f2 f3 HK
    go_wp2_with fail
    exact bodyPost_ret (v := .tuple #[.string ⟨#[]⟩, .int .i64 5]) (by simp [results, Tryz.results22, go_sem]) rfl (paE_zero HB.out HU.out)
set_option maxRecDepth 100000 in
set_option maxHeartbeats 8000000 in
/-- A fraction. -/
theorem nparse_slash {s m S : ByteArray} {q : Rat} {neg : Bool} {k j : Nat} (hs : Beg s m neg) (hk : DgN m.data.toList k) (h0 : 0 < k) (hkm : k < m.size) (hfk : FdOk (m.data.toList.take k)) (hj : DgN (m.data.toList.drop (k + 1)) j) (hj0 : 0 < j) (hjl : k + 1 + j = m.size) (hfd : FdOk (m.data.toList.drop (k + 1))) (hc7 : ((m[k].toNat : Nat) : Int) = 47) (hf : Fin neg m S (dec (m.data.toList.take k)) (dec (m.data.toList.drop (k + 1))) q) (w : World) : Calls Tryz.prog 22 #[.string s] w (PaE neg m w) := by
  have HF := Lib.hid hf
  clear hf
  have HFK := Lib.hid hfk
  have HJ := Lib.hid hj
  have hjm : j ≤ m.size - (k + 1) := by
    have := hj.1
    rw [List.length_drop, ← Lib.size_eq] at this
    exact this
  clear hfk hj
  have HFD := Lib.hid hfd
  clear hfd
  obtain ⟨he, hp, hle, hsg⟩ := hs
  rcases hsg with ⟨rfl, rfl, hc⟩ | ⟨rfl, hm, hc⟩
  · obtain ⟨c, hcc⟩ : ∃ c : Int, ((m[0]'hp).toNat : Int) = c := ⟨_, rfl⟩
    rw [hcc] at hc
    have hcb : (c == 45) = false := by rw [beq_eq_false_iff_ne]; exact hc
    have hml : m.size ≤ 400 := hle
    obtain ⟨tb, htb⟩ : ∃ t, m.extract (k + 1) m.size = t := ⟨_, rfl⟩
    have htbl : tb.data.toList = m.data.toList.drop (k + 1) := by
      rw [← htb]; simp
      rw [List.take_of_length_le (by rw [List.length_drop, ← Lib.size_eq]; omega)]
    have htbs : tb.size ≤ 1000000 := by rw [← htb, ByteArray.size_extract]; omega
    have HDJ := Lib.hid (fun w => digits_at htbs (by rw [htbl]; exact HJ.out) w)
    have hk4 : (k : Int) < (m.size : Int) := by omega
    have hk5 : (k : Int) + 1 ≤ (m.size : Int) := by omega
    have hk6 : (0 : Int) ≤ (k : Int) + 1 := by omega
    have e2 : ((k : Int) + 1).toNat = k + 1 := by omega
    have hj3 : j ≤ 400 := by omega
    have hjn : ¬ (j : Int) = 0 := by omega
    have hjz : ((j : Int) == 0) = false := by rw [beq_eq_false_iff_ne]; exact hjn
    have hjl2 : ¬ (k : Int) + 1 + (j : Int) < (m.size : Int) := by omega
    have HFB := Lib.hid (fun w => nfd_at htbs htbl HFD.out w)
    clear htbl htbs
    have HD := Lib.hid (fun w => digits_at (show m.size ≤ 1000000 by omega) hk w)
    obtain ⟨ta, hta⟩ : ∃ t, m.extract 0 k = t := ⟨_, rfl⟩
    have hkl : k ≤ m.size := by have := hk.1; rw [← Lib.size_eq] at this; exact this
    have htl : ta.data.toList = m.data.toList.take k := by rw [← hta]; simp
    have hts : ta.size ≤ 1000000 := by rw [← hta, ByteArray.size_extract]; omega
    have HFA := Lib.hid (fun w => nfd_at hts htl HFK.out w)
    have hk1 : (0 : Int) ≤ (k : Int) := by omega
    have hk2 : (k : Int) ≤ (m.size : Int) := by omega
    have hk3 : k ≤ 400 := by omega
    have HI1 : Hid (IsS 1) := Lib.hid ⟨by decide, by decide⟩
    clear hk htl hts
    go_enter Tryz.func22, Tryz.ntmps22
    go_wp2_with fail
    refine (HD.out _).mono ?_
    rintro e w1 ⟨rfl, rfl⟩
    clear HD
    go_wp2_with fail
    refine (HFA.out _).mono ?_
    rintro e w2 ⟨v2, rfl, hv2, hb2⟩
    obtain ⟨b1, a1, l1, c1, rfl, e1, h1⟩ := hv2.op
    obtain ⟨w3, hw3, hb3, k7, hz3⟩ := nbox1 w2 #[.bool b1, .slice a1 l1 c1] 30 (cb2 b1 h1.cb)
    have k7 : N2 w2.heap.size b1 (.slice a1 l1 c1) w3 := k7
    have HA := Lib.hid (hv2.below hb3)
    have HC1 : Hid (Cb (.slice a1 l1 c1)) := Lib.hid h1.cb
    have HB := Lib.hid (below_trans hb2 hb3)
    have hg7 : w1.heap.size ≤ w2.heap.size := hb2.size
    have hg37 : w2.heap.size < w3.heap.size := by omega
    clear e1 h1 hv2 hb2 hb3 HFA hz3
    go_wp2_with fail
    refine (nfromInt_any HI1.out _).mono ?_
    rintro e w4 ⟨v4, rfl, hv4, hb4⟩
    obtain ⟨b2, a2, l2, c2, rfl, e2, h2⟩ := hv4.op
    obtain ⟨w5, hw5, hb5, k9, hz5⟩ := nbox1 w4 #[.bool b2, .slice a2 l2 c2] 30 (cb2 b2 h2.cb)
    have k9 : N2 w4.heap.size b2 (.slice a2 l2 c2) w5 := k9
    have hb45 := below_trans hb4 hb5
    have k7 := k7.below hb45
    have HA := Lib.hid (HA.out.below hb45)
    have HN9 := Lib.hid (hv4.below hb5)
    have HB := Lib.hid (below_trans HB.out hb45)
    have hg4 := hb4.size
    have hg9 : w1.heap.size ≤ w4.heap.size := by omega
    have h79 : w2.heap.size ≠ w4.heap.size := by omega
    have y0 := k7.c0
    have y1 := k7.c1
    have y2 := k9.c0
    have y3 := k9.c1
    have f0 := k7.f 0
    have f1 := k7.f 1
    have HK := Lib.hid (And.intro k7 k9)
    clear e2 h2 hv4 hb4 hb5 hb45 hz5 k7 k9
    have HC2 : Hid (Cb (.slice a2 l2 c2)) := Lib.hid (Cb.sl _ _ _)
    go_wp2_with fail
    refine (HDJ.out _).mono ?_
    rintro e w6 ⟨rfl, rfl⟩
    clear HDJ
    go_wp2_with fail
    refine (HFB.out _).mono ?_
    rintro e w7 ⟨v7, rfl, hv7, hb7⟩
    obtain ⟨b3, a3, l3, c3, rfl, e3, h3⟩ := hv7.op
    obtain ⟨w8, hw8, hb8, k11, hz8⟩ := nbox1 w7 #[.bool b3, .slice a3 l3 c3] 30 (cb2 b3 h3.cb)
    have k11 : N2 w7.heap.size b3 (.slice a3 l3 c3) w8 := k11
    have hb78 := below_trans hb7 hb8
    have k7 := HK.out.1.below hb78
    have k9 := HK.out.2.below hb78
    have HA := Lib.hid (HA.out.below hb78)
    have HN9 := Lib.hid (HN9.out.below hb78)
    have HNB := Lib.hid (hv7.below hb8)
    have HB := Lib.hid (below_trans HB.out hb78)
    have hlt9 : w4.heap.size < w7.heap.size := Nat.lt_of_lt_of_le (World.block_lt_of_cell? _ _ y2) hb7.size
    have h911 : w4.heap.size ≠ w7.heap.size := by omega
    have h711 : w2.heap.size ≠ w7.heap.size := by omega
    have hg11 : w1.heap.size ≤ w7.heap.size := by omega
    clear y0 y1 y2 y3 f0 f1 HK
    have y0 := k7.c0
    have y1 := k7.c1
    have y2 := k9.c0
    have y3 := k9.c1
    have y4 := k11.c0
    have y5 := k11.c1
    have f0 := k7.f 0
    have f1 := k7.f 1
    have f2 := k9.f 0
    have f3 := k9.f 1
    have HK := Lib.hid (And.intro k7 (And.intro k9 k11))
    clear hb7 e3 h3 hv7 hb8 hb78 hz8 k7 k9 k11 HFB
    obtain ⟨sg, hsg⟩ : ∃ sg, Int.sign ((dec (m.data.toList.drop (k + 1)) : Nat) : Int) = sg := ⟨_, rfl⟩
    have hsg0 : ¬ sg = 0 := fun e => by
      have := HF.out.dpos
      rw [e] at hsg
      have := Int.sign_eq_zero_iff_zero.1 hsg
      omega
    have hsgz : (sg == 0) = false := by rw [beq_eq_false_iff_ne]; exact hsg0
    have HSG := Lib.hid hsg
    clear hsg
    go_wp2_with fail
    refine (nsign_any HNB.out).mono ?_
    rintro e ws ⟨rfl, hbs⟩
    rw [HSG.out]
    have k7 := HK.out.1.below hbs
    have k9 := HK.out.2.1.below hbs
    have k11 := HK.out.2.2.below hbs
    obtain ⟨WS, hWS⟩ : ∃ WS, (ws.setCell ⟨w4.heap.size, 0, none⟩ (.bool b3)).setCell ⟨w4.heap.size, 1, none⟩ (.slice a3 l3 c3) = WS := ⟨_, rfl⟩
    have cb3 : Cb (.slice a3 l3 c3) := Cb.sl _ _ _
    have j7 : N2 w2.heap.size b1 (.slice a1 l1 c1) WS := by rw [← hWS]; exact k7.o2 h79 b3 (.slice a3 l3 c3)
    have j9 : N2 w4.heap.size b3 (.slice a3 l3 c3) WS := by rw [← hWS]; exact k9.st b3 cb3
    have HA := Lib.hid (show NumV WS (.agg #[.bool b1, .slice a1 l1 c1]) ((dec (m.data.toList.take k) : Nat) : Int) from by rw [← hWS]; exact NumV.sn2 k9 cb3 (HA.out.below hbs))
    have HND := Lib.hid (show NumV WS (.agg #[.bool b3, .slice a3 l3 c3]) ((dec (m.data.toList.drop (k + 1)) : Nat) : Int) from by rw [← hWS]; exact NumV.sn2 k9 cb3 (HNB.out.below hbs))
    have HB := Lib.hid (show Below w1.heap.size w1 WS from by rw [← hWS]; exact Below.sn2 (below_trans HB.out hbs) hg9 b3 (.slice a3 l3 c3))
    have z4 := k11.c0
    have z5 := k11.c1
    have z6 := k9.f 0
    have z7 := k9.f 1
    have z8 := k9.c0
    have z9 := k9.c1
    clear hbs y0 y1 y2 y3 y4 y5 f0 f1 f2 f3 HK k7 k9 k11
    have y0 := j7.c0
    have y1 := j7.c1
    have y2 := j9.c0
    have y3 := j9.c1
    have f0 := j7.f 0
    have f1 := j7.f 1
    have HK := Lib.hid (And.intro j7 j9)
    clear j7 j9
    go_wp2_with fail
    refine (frac_pos (K := 62) HA.out HND.out (by have := HF.out.dpos; omega) (by decide) (by rw [Int.natAbs_natCast]; exact HF.out.n62) (by first | (rw [Int.natAbs_natCast]; exact HF.out.d62) | exact HF.out.d62) (by have := HF.out.eq; exact this)).mono ?_
    rintro e wf ⟨vf, rfl, hvf, hbf⟩
    have HV := Lib.hid hvf
    have HB := Lib.hid (below_trans HB.out hbf)
    clear hvf hbf
    go_wp2_with fail
    refine (textC (K := 62) HV.out (by decide) HF.out.q62 HF.out.S).mono ?_
    rintro e wt ⟨rfl, hbt⟩
    have HB := Lib.hid (below_trans HB.out hbt)
    clear hbt
    go_wp2_with fail
    exact bodyPost_ret (v := .tuple #[.string S, .int .i64 0]) (by simp [results, Tryz.results22, go_sem]) rfl (paE_ok HB.out HF.out.u HF.out.dpos HF.out.eq HF.out.S)
  · have hml : m.size ≤ 400 := by rw [← hm, ByteArray.size_extract]; omega
    have hi1 : (1 : Int) ≤ (s.size : Int) := by omega
    obtain ⟨tb, htb⟩ : ∃ t, m.extract (k + 1) m.size = t := ⟨_, rfl⟩
    have htbl : tb.data.toList = m.data.toList.drop (k + 1) := by
      rw [← htb]; simp
      rw [List.take_of_length_le (by rw [List.length_drop, ← Lib.size_eq]; omega)]
    have htbs : tb.size ≤ 1000000 := by rw [← htb, ByteArray.size_extract]; omega
    have HDJ := Lib.hid (fun w => digits_at htbs (by rw [htbl]; exact HJ.out) w)
    have hk4 : (k : Int) < (m.size : Int) := by omega
    have hk5 : (k : Int) + 1 ≤ (m.size : Int) := by omega
    have hk6 : (0 : Int) ≤ (k : Int) + 1 := by omega
    have e2 : ((k : Int) + 1).toNat = k + 1 := by omega
    have hj3 : j ≤ 400 := by omega
    have hjn : ¬ (j : Int) = 0 := by omega
    have hjz : ((j : Int) == 0) = false := by rw [beq_eq_false_iff_ne]; exact hjn
    have hjl2 : ¬ (k : Int) + 1 + (j : Int) < (m.size : Int) := by omega
    have HFB := Lib.hid (fun w => nfd_at htbs htbl HFD.out w)
    clear htbl htbs
    have HD := Lib.hid (fun w => digits_at (show m.size ≤ 1000000 by omega) hk w)
    obtain ⟨ta, hta⟩ : ∃ t, m.extract 0 k = t := ⟨_, rfl⟩
    have hkl : k ≤ m.size := by have := hk.1; rw [← Lib.size_eq] at this; exact this
    have htl : ta.data.toList = m.data.toList.take k := by rw [← hta]; simp
    have hts : ta.size ≤ 1000000 := by rw [← hta, ByteArray.size_extract]; omega
    have HFA := Lib.hid (fun w => nfd_at hts htl HFK.out w)
    have hk1 : (0 : Int) ≤ (k : Int) := by omega
    have hk2 : (k : Int) ≤ (m.size : Int) := by omega
    have hk3 : k ≤ 400 := by omega
    have HI1 : Hid (IsS 1) := Lib.hid ⟨by decide, by decide⟩
    clear hk htl hts
    go_enter Tryz.func22, Tryz.ntmps22
    go_wp2_with fail
    refine (HD.out _).mono ?_
    rintro e w1 ⟨rfl, rfl⟩
    clear HD
    go_wp2_with fail
    refine (HFA.out _).mono ?_
    rintro e w2 ⟨v2, rfl, hv2, hb2⟩
    obtain ⟨b1, a1, l1, c1, rfl, e1, h1⟩ := hv2.op
    obtain ⟨w3, hw3, hb3, k7, hz3⟩ := nbox1 w2 #[.bool b1, .slice a1 l1 c1] 30 (cb2 b1 h1.cb)
    have k7 : N2 w2.heap.size b1 (.slice a1 l1 c1) w3 := k7
    have HA := Lib.hid (hv2.below hb3)
    have HC1 : Hid (Cb (.slice a1 l1 c1)) := Lib.hid h1.cb
    have HB := Lib.hid (below_trans hb2 hb3)
    have hg7 : w1.heap.size ≤ w2.heap.size := hb2.size
    have hg37 : w2.heap.size < w3.heap.size := by omega
    clear e1 h1 hv2 hb2 hb3 HFA hz3
    go_wp2_with fail
    refine (nfromInt_any HI1.out _).mono ?_
    rintro e w4 ⟨v4, rfl, hv4, hb4⟩
    obtain ⟨b2, a2, l2, c2, rfl, e2, h2⟩ := hv4.op
    obtain ⟨w5, hw5, hb5, k9, hz5⟩ := nbox1 w4 #[.bool b2, .slice a2 l2 c2] 30 (cb2 b2 h2.cb)
    have k9 : N2 w4.heap.size b2 (.slice a2 l2 c2) w5 := k9
    have hb45 := below_trans hb4 hb5
    have k7 := k7.below hb45
    have HA := Lib.hid (HA.out.below hb45)
    have HN9 := Lib.hid (hv4.below hb5)
    have HB := Lib.hid (below_trans HB.out hb45)
    have hg4 := hb4.size
    have hg9 : w1.heap.size ≤ w4.heap.size := by omega
    have h79 : w2.heap.size ≠ w4.heap.size := by omega
    have y0 := k7.c0
    have y1 := k7.c1
    have y2 := k9.c0
    have y3 := k9.c1
    have f0 := k7.f 0
    have f1 := k7.f 1
    have HK := Lib.hid (And.intro k7 k9)
    clear e2 h2 hv4 hb4 hb5 hb45 hz5 k7 k9
    have HC2 : Hid (Cb (.slice a2 l2 c2)) := Lib.hid (Cb.sl _ _ _)
    go_wp2_with fail
    refine (HDJ.out _).mono ?_
    rintro e w6 ⟨rfl, rfl⟩
    clear HDJ
    go_wp2_with fail
    refine (HFB.out _).mono ?_
    rintro e w7 ⟨v7, rfl, hv7, hb7⟩
    obtain ⟨b3, a3, l3, c3, rfl, e3, h3⟩ := hv7.op
    obtain ⟨w8, hw8, hb8, k11, hz8⟩ := nbox1 w7 #[.bool b3, .slice a3 l3 c3] 30 (cb2 b3 h3.cb)
    have k11 : N2 w7.heap.size b3 (.slice a3 l3 c3) w8 := k11
    have hb78 := below_trans hb7 hb8
    have k7 := HK.out.1.below hb78
    have k9 := HK.out.2.below hb78
    have HA := Lib.hid (HA.out.below hb78)
    have HN9 := Lib.hid (HN9.out.below hb78)
    have HNB := Lib.hid (hv7.below hb8)
    have HB := Lib.hid (below_trans HB.out hb78)
    have hlt9 : w4.heap.size < w7.heap.size := Nat.lt_of_lt_of_le (World.block_lt_of_cell? _ _ y2) hb7.size
    have h911 : w4.heap.size ≠ w7.heap.size := by omega
    have h711 : w2.heap.size ≠ w7.heap.size := by omega
    have hg11 : w1.heap.size ≤ w7.heap.size := by omega
    clear y0 y1 y2 y3 f0 f1 HK
    have y0 := k7.c0
    have y1 := k7.c1
    have y2 := k9.c0
    have y3 := k9.c1
    have y4 := k11.c0
    have y5 := k11.c1
    have f0 := k7.f 0
    have f1 := k7.f 1
    have f2 := k9.f 0
    have f3 := k9.f 1
    have HK := Lib.hid (And.intro k7 (And.intro k9 k11))
    clear hb7 e3 h3 hv7 hb8 hb78 hz8 k7 k9 k11 HFB
    obtain ⟨sg, hsg⟩ : ∃ sg, Int.sign ((dec (m.data.toList.drop (k + 1)) : Nat) : Int) = sg := ⟨_, rfl⟩
    have hsg0 : ¬ sg = 0 := fun e => by
      have := HF.out.dpos
      rw [e] at hsg
      have := Int.sign_eq_zero_iff_zero.1 hsg
      omega
    have hsgz : (sg == 0) = false := by rw [beq_eq_false_iff_ne]; exact hsg0
    have HSG := Lib.hid hsg
    clear hsg
    go_wp2_with fail
    refine (nsign_any HNB.out).mono ?_
    rintro e ws ⟨rfl, hbs⟩
    rw [HSG.out]
    have k7 := HK.out.1.below hbs
    have k9 := HK.out.2.1.below hbs
    have k11 := HK.out.2.2.below hbs
    obtain ⟨WS, hWS⟩ : ∃ WS, (ws.setCell ⟨w4.heap.size, 0, none⟩ (.bool b3)).setCell ⟨w4.heap.size, 1, none⟩ (.slice a3 l3 c3) = WS := ⟨_, rfl⟩
    have cb3 : Cb (.slice a3 l3 c3) := Cb.sl _ _ _
    have j7 : N2 w2.heap.size b1 (.slice a1 l1 c1) WS := by rw [← hWS]; exact k7.o2 h79 b3 (.slice a3 l3 c3)
    have j9 : N2 w4.heap.size b3 (.slice a3 l3 c3) WS := by rw [← hWS]; exact k9.st b3 cb3
    have HA := Lib.hid (show NumV WS (.agg #[.bool b1, .slice a1 l1 c1]) ((dec (m.data.toList.take k) : Nat) : Int) from by rw [← hWS]; exact NumV.sn2 k9 cb3 (HA.out.below hbs))
    have HND := Lib.hid (show NumV WS (.agg #[.bool b3, .slice a3 l3 c3]) ((dec (m.data.toList.drop (k + 1)) : Nat) : Int) from by rw [← hWS]; exact NumV.sn2 k9 cb3 (HNB.out.below hbs))
    have HB := Lib.hid (show Below w1.heap.size w1 WS from by rw [← hWS]; exact Below.sn2 (below_trans HB.out hbs) hg9 b3 (.slice a3 l3 c3))
    have z4 := k11.c0
    have z5 := k11.c1
    have z6 := k9.f 0
    have z7 := k9.f 1
    have z8 := k9.c0
    have z9 := k9.c1
    clear hbs y0 y1 y2 y3 y4 y5 f0 f1 f2 f3 HK k7 k9 k11
    have y0 := j7.c0
    have y1 := j7.c1
    have y2 := j9.c0
    have y3 := j9.c1
    have f0 := j7.f 0
    have f1 := j7.f 1
    have HK := Lib.hid (And.intro j7 j9)
    clear j7 j9
    go_wp2_with fail
    refine (nneg_any HA.out).mono ?_
    rintro e wn ⟨vn, rfl, hvn, hbn⟩
    obtain ⟨bn, an, ln, cn, rfl, en, hn⟩ := hvn.op
    have k7 := HK.out.1.below hbn
    have k9 := HK.out.2.below hbn
    have z0 := k7.c0
    have z1 := k7.c1
    have z2 := k9.c0
    have z3 := k9.c1
    have g0 := k7.f 0
    have g1 := k7.f 1
    obtain ⟨WN, hWN⟩ : ∃ WN, (wn.setCell ⟨w2.heap.size, 0, none⟩ (.bool bn)).setCell ⟨w2.heap.size, 1, none⟩ (.slice an ln cn) = WN := ⟨_, rfl⟩
    have j7 : N2 w2.heap.size bn (.slice an ln cn) WN := by rw [← hWN]; exact k7.st bn hn.cb
    have j9 : N2 w4.heap.size b3 (.slice a3 l3 c3) WN := by rw [← hWN]; exact k9.o2 h79.symm bn (.slice an ln cn)
    have x0 := j7.c0
    have x1 := j7.c1
    have x2 := j9.c0
    have x3 := j9.c1
    have HAN := Lib.hid (show NumV WN (.agg #[.bool bn, .slice an ln cn]) (-(dec (m.data.toList.take k) : Nat)) from by rw [← hWN]; exact NumV.sn2 k7 hn.cb hvn)
    have HND := Lib.hid (show NumV WN (.agg #[.bool b3, (.slice a3 l3 c3)]) ((dec (m.data.toList.drop (k + 1)) : Nat) : Int) from by rw [← hWN]; exact NumV.sn2 k7 hn.cb (HND.out.below hbn))
    have HB := Lib.hid (show Below w1.heap.size w1 WN from by rw [← hWN]; exact Below.sn2 (below_trans HB.out hbn) hg7 bn (.slice an ln cn))
    clear en hn hvn hbn k7 k9 j7 j9 y0 y1 y2 y3 f0 f1 HK
    go_wp2_with fail
    refine (frac_pos (K := 62) HAN.out HND.out (by have := HF.out.dpos; omega) (by decide) (by rw [Int.natAbs_neg, Int.natAbs_natCast]; exact HF.out.n62) (by first | (rw [Int.natAbs_natCast]; exact HF.out.d62) | exact HF.out.d62) (by have := HF.out.eq; exact this)).mono ?_
    rintro e wf ⟨vf, rfl, hvf, hbf⟩
    have HV := Lib.hid hvf
    have HB := Lib.hid (below_trans HB.out hbf)
    clear hvf hbf
    go_wp2_with fail
    refine (textC (K := 62) HV.out (by decide) HF.out.q62 HF.out.S).mono ?_
    rintro e wt ⟨rfl, hbt⟩
    have HB := Lib.hid (below_trans HB.out hbt)
    clear hbt
    go_wp2_with fail
    exact bodyPost_ret (v := .tuple #[.string S, .int .i64 0]) (by simp [results, Tryz.results22, go_sem]) rfl (paE_ok HB.out HF.out.u HF.out.dpos HF.out.eq HF.out.S)
end Go.Proofs.YtekghemhccfhkaaGreatDoor
