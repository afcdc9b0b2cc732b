/-
  Walks of the program's functions: Dec, RText.
-/
import Derived.Lib.ItoaNum
namespace Go.Big
open Go
theorem snoc_ind {α : Type} {motive : List α → Prop} (nil : motive []) (append_singleton : ∀ (l : List α) (x : α), motive l → motive (l ++ [x])) (l : List α) : motive l := by
  have h : ∀ (n : Nat) (l : List α), l.length = n → motive l := by
    intro n
    induction n with
    | zero => intro l hl; rw [List.eq_nil_of_length_eq_zero hl]; exact nil
    | succ n ih =>
      intro l hl
      rcases List.eq_nil_or_concat l with e | ⟨m, x, e⟩
      · rw [e] at hl; simp at hl
      · subst e
        rw [List.concat_eq_append] at hl ⊢
        exact append_singleton m x (ih m (by simpa using hl))
  exact h l.length l rfl
/-- The number that decimal digits denote. -/
def dec (l : List UInt8) : Nat := l.foldl (fun v b => v * 10 + (b.toNat - 48)) 0
def Dig (l : List UInt8) : Prop := ∀ b ∈ l, 48 ≤ b.toNat ∧ b.toNat ≤ 57
theorem dec_nil : dec [] = 0 := rfl
theorem dec_snoc (l : List UInt8) (b : UInt8) : dec (l ++ [b]) = dec l * 10 + (b.toNat - 48) := by simp [dec, List.foldl_append]
theorem dec_take (l : List UInt8) (i : Nat) (h : i < l.length) : dec (l.take (i + 1)) = dec (l.take i) * 10 + (l[i].toNat - 48) := by
  rw [List.take_succ_eq_append_getElem h, dec_snoc]
theorem dec_lt {l : List UInt8} (h : Dig l) : dec l < 10 ^ l.length := by
  suffices ∀ n, n ≤ l.length → dec (l.take n) < 10 ^ n by simpa using this l.length (Nat.le_refl _)
  intro n
  induction n with
  | zero => intro _; simp [dec]
  | succ n ih =>
    intro hn
    have h1 := ih (by omega)
    have h2 := h l[n] (List.getElem_mem _)
    rw [dec_take l n hn, Nat.pow_succ]
    omega
theorem dec_append (a b : List UInt8) : dec (a ++ b) = dec a * 10 ^ b.length + dec b := by
  induction b using snoc_ind generalizing a with
  | nil => simp [dec]
  | append_singleton b x ih => rw [← List.append_assoc, dec_snoc, dec_snoc, ih]; simp [Nat.pow_succ]; grind
theorem Dig.append {a b : List UInt8} (h : Dig a) (k : Dig b) : Dig (a ++ b) := fun x hx => (List.mem_append.1 hx).elim (h x) (k x)
theorem Dig.take {a : List UInt8} (h : Dig a) (n : Nat) : Dig (a.take n) := fun x hx => h x (List.mem_of_mem_take hx)
theorem Dig.drop {a : List UInt8} (h : Dig a) (n : Nat) : Dig (a.drop n) := fun x hx => h x (List.mem_of_mem_drop hx)

theorem digit_toNat {i : Nat} (h : i < 10) : (UInt8.ofNat (48 + i)).toNat = 48 + i := by
  rw [UInt8.toNat_ofNat']
  exact Nat.mod_eq_of_lt (by omega)
theorem digit_eq {b : UInt8} (h1 : 48 ≤ b.toNat) (h2 : b.toNat ≤ 57) : UInt8.ofNat (48 + (b.toNat - 48)) = b := by
  rw [show 48 + (b.toNat - 48) = b.toNat by omega, UInt8.ofNat_toNat]

theorem dd_big {n : Nat} (h : ¬ n < 10) : Lib.decDigits n = Lib.decDigits (n / 10) ++ [UInt8.ofNat (48 + n % 10)] := by
  conv => lhs; rw [Lib.decDigits]
  rw [dif_neg h]
theorem dd_dig (n : Nat) : Dig (Lib.decDigits n) := by
  induction n using Nat.strongRecOn with
  | _ n ih =>
    by_cases h : n < 10
    · rw [Lib.decDigits_one h]
      intro b hb
      rw [List.mem_singleton.1 hb, digit_toNat h]; omega
    · rw [dd_big h]
      refine (ih _ (by omega)).append fun b hb => ?_
      rw [List.mem_singleton.1 hb, digit_toNat (by omega)]; omega
theorem dd_dec (n : Nat) : dec (Lib.decDigits n) = n := by
  induction n using Nat.strongRecOn with
  | _ n ih =>
    by_cases h : n < 10
    · rw [Lib.decDigits_one h]
      simp only [dec, List.foldl_cons, List.foldl_nil, digit_toNat h]; omega
    · rw [dd_big h, dec_snoc, ih _ (by omega), digit_toNat (by omega)]; omega
theorem dd_len_pos (n : Nat) : 0 < (Lib.decDigits n).length := by
  rw [Lib.decDigits_length]; exact Lib.nDigits_pos n
theorem dd_ne (n : Nat) : Lib.decDigits n ≠ [] := by
  have := dd_len_pos n
  intro h; rw [h] at this; simp at this
theorem dd_head {n : Nat} (h : 0 < n) : ∃ b l, Lib.decDigits n = b :: l ∧ 49 ≤ b.toNat := by
  induction n using Nat.strongRecOn with
  | _ n ih =>
    by_cases h1 : n < 10
    · refine ⟨_, [], Lib.decDigits_one h1, ?_⟩
      rw [digit_toNat h1]; omega
    · obtain ⟨b, l, e, hb⟩ := ih (n / 10) (by omega) (by omega)
      exact ⟨b, l ++ _, by rw [dd_big h1, e]; rfl, hb⟩
/-- Digits without leading zeros are the numeral. -/
theorem dd_of : ∀ {l : List UInt8}, Dig l → l ≠ [] → (1 < l.length → ∀ b m, l = b :: m → b.toNat ≠ 48) → Lib.decDigits (dec l) = l := by
  intro l
  induction l using snoc_ind with
  | nil => intro _ h; exact absurd rfl h
  | append_singleton l x ih =>
    intro hd _ hz
    have hx := hd x (by simp)
    have hdl : Dig l := fun b hb => hd b (List.mem_append_left _ hb)
    rcases l with _ | ⟨b, m⟩
    · simp only [List.nil_append, dec, List.foldl_cons, List.foldl_nil, Nat.zero_mul, Nat.zero_add]
      rw [Lib.decDigits_one (by omega), digit_eq hx.1 hx.2]
    · have hb := hz (by simp) b (m ++ [x]) rfl
      have hb2 := hdl b (by simp)
      have e := ih hdl (by simp) (fun _ b' m' e' => by cases e'; exact hb)
      have hpos : 0 < dec (b :: m) := by
        have h1 : dec (b :: m) = dec [b] * 10 ^ m.length + dec m := dec_append [b] m
        have h2 : dec [b] = b.toNat - 48 := by simp [dec]
        have h3 : 1 ≤ 10 ^ m.length := Nat.one_le_pow _ _ (by decide)
        rw [h1, h2]
        have : 1 * 1 ≤ (b.toNat - 48) * 10 ^ m.length := Nat.mul_le_mul (by omega) h3
        omega
      rw [dec_snoc, dd_big (by omega), show (dec (b :: m) * 10 + (x.toNat - 48)) / 10 = dec (b :: m) by omega, show (dec (b :: m) * 10 + (x.toNat - 48)) % 10 = x.toNat - 48 by omega, e, digit_eq hx.1 hx.2]
/-- Leading zeros are struck. -/
theorem dd_strip : ∀ {l : List UInt8}, Dig l → 0 < dec l → l.dropWhile (· == 48) = Lib.decDigits (dec l) := by
  intro l
  induction l with
  | nil => intro _ h; simp [dec] at h
  | cons b m ih =>
    intro hd hp
    have hb := hd b (by simp)
    have hdm : Dig m := fun x hx => hd x (by simp [hx])
    have h1 : dec (b :: m) = dec [b] * 10 ^ m.length + dec m := dec_append [b] m
    have h2 : dec [b] = b.toNat - 48 := by simp [dec]
    by_cases h : b = 48
    · subst h
      have e : dec ((48 : UInt8) :: m) = dec m := by rw [h1, h2]; simp
      rw [e] at hp ⊢
      rw [List.dropWhile_cons_of_pos (by rfl), ih hdm hp]
    · have hn : b.toNat ≠ 48 := fun e => h (UInt8.toNat_inj.1 e)
      rw [List.dropWhile_cons_of_neg (by simpa using h)]
      exact (dd_of hd (by simp) (fun _ b' m' e' => by cases e'; exact hn)).symm
theorem dd_canon {n : Nat} : 1 < (Lib.decDigits n).length → ∀ b m, Lib.decDigits n = b :: m → b.toNat ≠ 48 := by
  intro h b m e
  rcases Nat.eq_zero_or_pos n with h0 | h0
  · subst h0; rw [Lib.decDigits_one (by omega)] at h; simp at h
  · obtain ⟨b', l', e', hb'⟩ := dd_head h0
    rw [e'] at e; cases e; omega
/-- How many digits: below 10^k there are at most k. -/
theorem dd_len {n k : Nat} (hk : 0 < k) (h : n < 10 ^ k) : (Lib.decDigits n).length ≤ k := by
  induction n using Nat.strongRecOn generalizing k with
  | _ n ih =>
    by_cases h1 : n < 10
    · rw [Lib.decDigits_one h1]; simp; omega
    · rw [dd_big h1, List.length_append]
      have hk2 : 1 < k := by
        rcases Nat.lt_or_ge 1 k with h2 | h2
        · exact h2
        · have : k = 1 := by omega
          subst this; simp at h; omega
      have := ih (n / 10) (by omega) (k := k - 1) (by omega) (by
        have : 10 ^ k = 10 ^ (k - 1) * 10 := by rw [← Nat.pow_succ]; congr 1; omega
        omega)
      simp; omega
end Go.Big
namespace Go.Big
open Go
/-- The numeral of an integer. -/
def itext (n : Int) : List UInt8 := if n < 0 then 45 :: Lib.decDigits n.natAbs else Lib.decDigits n.natAbs
/-- The canonical text of a rational number. -/
def rtext (q : Rat) : List UInt8 := itext q.num ++ (if q.den = 1 then [] else 47 :: Lib.decDigits q.den)
theorem itext_eq (n : Int) : itext n = Lib.itoa n := by
  unfold itext Lib.itoa
  split
  · rfl
  · rw [show n.natAbs = n.toNat by omega]
/-- Digits as they are read: at least one, no leading zero. -/
def rdInt (l : List UInt8) : Option Nat := if (∀ b ∈ l, 48 ≤ b.toNat ∧ b.toNat ≤ 57) ∧ l ≠ [] ∧ (1 < l.length → l.head? ≠ some 48) then some (dec l) else none
theorem rdInt_dd (n : Nat) : rdInt (Lib.decDigits n) = some n := by
  have h3 : 1 < (Lib.decDigits n).length → (Lib.decDigits n).head? ≠ some 48 := by
    intro h h0
    obtain ⟨b, m, e⟩ := List.exists_cons_of_ne_nil (dd_ne n)
    have := dd_canon h b m e
    rw [e] at h0
    simp only [List.head?_cons, Option.some.injEq] at h0
    subst h0; exact this rfl
  unfold rdInt
  rw [if_pos ⟨dd_dig n, dd_ne n, h3⟩, dd_dec]
theorem rdInt_some {l : List UInt8} {n : Nat} (h : rdInt l = some n) : l = Lib.decDigits n := by
  unfold rdInt at h
  split at h
  · next hc =>
    simp at h; subst h
    exact (dd_of hc.1 hc.2.1 (fun hl b m e hb => hc.2.2 hl (by rw [e]; simp; exact UInt8.toNat_inj.1 hb))).symm
  · cases h
/-- The split at the first slash. -/
def slash : List UInt8 → Option (List UInt8 × List UInt8)
  | [] => none
  | b :: l => if b = 47 then some ([], l) else (slash l).map fun p => (b :: p.1, p.2)
theorem slash_none {l : List UInt8} (h : ∀ b ∈ l, b ≠ 47) : slash l = none := by
  induction l with
  | nil => rfl
  | cons b m ih =>
    rw [slash, if_neg (h b (by simp)), ih (fun x hx => h x (by simp [hx]))]; rfl
theorem slash_some {l m : List UInt8} (h : ∀ b ∈ l, b ≠ 47) : slash (l ++ 47 :: m) = some (l, m) := by
  induction l with
  | nil => simp [slash]
  | cons b k ih =>
    rw [List.cons_append, slash, if_neg (h b (by simp)), ih (fun x hx => h x (by simp [hx]))]; rfl
theorem slash_eq {l a b : List UInt8} (h : slash l = some (a, b)) : l = a ++ 47 :: b := by
  induction l generalizing a with
  | nil => simp [slash] at h
  | cons x m ih =>
    rw [slash] at h
    split at h
    · next hx => subst hx; simp at h; rw [h.1, h.2]; rfl
    · cases hs : slash m with
      | none => rw [hs] at h; simp at h
      | some p =>
        rw [hs] at h; simp at h
        rw [ih (a := p.1) (by rw [hs, ← h.2])]
        rw [← h.1]; rfl
def unsign (l : List UInt8) : List UInt8 × Bool := match l with | 45 :: m => (m, true) | m => (m, false)
def signed (neg : Bool) (n : Nat) : Int := if neg then -(n : Int) else n
/-- Reading a canonical text. -/
def rd (s : List UInt8) : Option (Int × Nat) :=
  match slash (unsign s).1 with
  | none => match rdInt (unsign s).1 with
    | none => none
    | some n => if n = 0 ∧ s ≠ [48] then none else some (signed (unsign s).2 n, 1)
  | some (a, b) => match rdInt a, rdInt b with
    | some n, some d => if n = 0 ∨ d = 0 ∨ d = 1 ∨ Nat.gcd n d ≠ 1 then none else some (signed (unsign s).2 n, d)
    | _, _ => none
theorem dd_noslash (n : Nat) : ∀ b ∈ Lib.decDigits n, b ≠ 47 := fun b hb e => by
  have := dd_dig n b hb
  subst e; exact absurd this (by decide)
theorem unsign_dd (n : Nat) (m : List UInt8) : unsign (Lib.decDigits n ++ m) = (Lib.decDigits n ++ m, false) := by
  obtain ⟨b, l, e⟩ := List.exists_cons_of_ne_nil (dd_ne n)
  have hb := dd_dig n b (by rw [e]; simp)
  rw [e, List.cons_append]
  unfold unsign
  split
  · next h => simp at h; rw [h.1] at hb; exact absurd hb (by decide)
  · rfl
theorem unsign_itext (n : Int) (m : List UInt8) : unsign (itext n ++ m) = (Lib.decDigits n.natAbs ++ m, decide (n < 0)) := by
  unfold itext
  split
  · next h => rw [List.cons_append]; simp [unsign, h]
  · next h => rw [unsign_dd]; simp [h]
theorem signed_abs (n : Int) : signed (decide (n < 0)) n.natAbs = n := by
  unfold signed; split
  · next h => simp at h; omega
  · next h => simp at h; omega
theorem itext_zero : itext 0 = [48] := by unfold itext; rw [if_neg (by omega)]; exact Lib.decDigits_one (by omega)
theorem rd_rtext (q : Rat) : rd (rtext q) = some (q.num, q.den) := by
  unfold rd rtext
  rw [unsign_itext]
  by_cases h : q.den = 1
  · rw [if_pos h, List.append_nil, slash_none (dd_noslash _)]
    simp only [rdInt_dd]
    rw [if_neg ?_, signed_abs, h]
    rintro ⟨h0, h1⟩
    apply h1
    have : q.num = 0 := by omega
    rw [List.append_nil, this, itext_zero]
  · rw [if_neg h, slash_some (dd_noslash _)]
    simp only [rdInt_dd]
    rw [if_neg ?_, signed_abs]
    have hd := q.den_nz
    have hr := q.reduced
    rintro (h0 | h0 | h0 | h0)
    · rw [h0] at hr
      unfold Nat.Coprime at hr
      rw [Nat.gcd_zero_left] at hr
      exact h hr
    · exact hd h0
    · exact h h0
    · exact h0 hr
theorem unsign_eq (s : List UInt8) : s = (if (unsign s).2 then 45 :: (unsign s).1 else (unsign s).1) := by
  unfold unsign
  split <;> simp
theorem rd_some {s : List UInt8} {n : Int} {d : Nat} (h : rd s = some (n, d)) : ∃ q : Rat, q.num = n ∧ q.den = d ∧ s = rtext q := by
  have hs := unsign_eq s
  unfold rd at h
  cases hsl : slash (unsign s).1 with
  | none =>
    rw [hsl] at h
    simp only at h
    cases hr : rdInt (unsign s).1 with
    | none => rw [hr] at h; simp at h
    | some m =>
      rw [hr] at h
      simp only at h
      split at h
      · cases h
      · next hc =>
        simp only [Option.some.injEq, Prod.mk.injEq] at h
        refine ⟨⟨n, 1, by omega, Nat.coprime_one_right _⟩, rfl, h.2, ?_⟩
        have e := rdInt_some hr
        unfold rtext
        rw [if_pos rfl, List.append_nil]
        show s = itext n
        rw [← h.1]
        cases hn : (unsign s).2 with
        | false =>
          rw [hn] at hs
          simp only [Bool.false_eq_true, if_false] at hs
          have hn0 : ¬ ((m : Int) < 0) := by omega
          rw [show signed false m = (m : Int) from rfl]
          unfold itext
          rw [if_neg hn0, hs, e]; rfl
        | true =>
          rw [hn] at hs
          simp only [if_true] at hs
          have hm : m ≠ 0 := by
            intro h0
            apply hc
            refine ⟨h0, fun h1 => ?_⟩
            rw [h1] at hs; simp at hs
          have hn0 : (-(m : Int) < 0) := by omega
          rw [show signed true m = -(m : Int) from rfl]
          unfold itext
          rw [if_pos hn0, hs, e]
          congr 2; omega
  | some p =>
    obtain ⟨a, b⟩ := p
    rw [hsl] at h
    simp only at h
    cases hra : rdInt a with
    | none => rw [hra] at h; simp at h
    | some m =>
      cases hrb : rdInt b with
      | none => rw [hra, hrb] at h; simp at h
      | some k =>
        rw [hra, hrb] at h
        simp only at h
        split at h
        · cases h
        · next hc =>
          simp only [Option.some.injEq, Prod.mk.injEq] at h
          have hm : m ≠ 0 := fun e => hc (.inl e)
          have hk : k ≠ 0 := fun e => hc (.inr (.inl e))
          have hk1 : k ≠ 1 := fun e => hc (.inr (.inr (.inl e)))
          have hg : Nat.gcd m k = 1 := Decidable.byContradiction fun e => hc (.inr (.inr (.inr e)))
          have habs : n.natAbs = m := by rw [← h.1]; unfold signed; split <;> omega
          refine ⟨⟨n, k, hk, by rw [habs]; exact hg⟩, rfl, h.2, ?_⟩
          have ea := rdInt_some hra
          have eb := rdInt_some hrb
          have e := slash_eq hsl
          unfold rtext
          rw [if_neg hk1]
          show s = itext n ++ (47 :: Lib.decDigits k)
          rw [← eb]
          cases hn : (unsign s).2 with
          | false =>
            rw [hn] at hs h
            simp only [Bool.false_eq_true, if_false] at hs
            have hn0 : ¬ (n < 0) := by rw [← h.1]; unfold signed; simp
            unfold itext
            rw [if_neg hn0, habs, ← ea, ← e]; exact hs
          | true =>
            rw [hn] at hs h
            simp only [if_true] at hs
            have hn0 : n < 0 := by rw [← h.1]; unfold signed; simp; omega
            unfold itext
            rw [if_pos hn0, habs, ← ea, List.cons_append, ← e, ← hs]
open Classical in
/-- The value of a text: a text that is no number counts as 0. -/
noncomputable def qval (s : List UInt8) : Rat := if h : ∃ q : Rat, s = rtext q then h.choose else 0
theorem rtext_inj {p q : Rat} (h : rtext p = rtext q) : p = q := by
  have h1 := rd_rtext p
  rw [h, rd_rtext q] at h1
  simp only [Option.some.injEq, Prod.mk.injEq] at h1
  exact Rat.ext h1.1.symm h1.2.symm
theorem qval_rtext (q : Rat) : qval (rtext q) = q := by
  have h : ∃ p : Rat, rtext q = rtext p := ⟨q, rfl⟩
  unfold qval
  rw [dif_pos h]
  exact (rtext_inj h.choose_spec).symm
theorem qval_none {s : List UInt8} (h : rd s = none) : qval s = 0 := by
  unfold qval
  rw [dif_neg]
  rintro ⟨q, e⟩
  rw [e, rd_rtext] at h; cases h
theorem qval_rd {s : List UInt8} {n : Int} {d : Nat} (h : rd s = some (n, d)) : (qval s).num = n ∧ (qval s).den = d := by
  obtain ⟨q, h1, h2, e⟩ := rd_some h
  rw [e, qval_rtext]; exact ⟨h1, h2⟩
end Go.Big
