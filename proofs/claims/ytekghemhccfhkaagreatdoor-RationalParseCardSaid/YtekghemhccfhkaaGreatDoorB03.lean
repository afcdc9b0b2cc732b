/-
  Walks of the program's functions: Sl, AddMath, Trim, NumMath, NumMath2.
-/
import Derived.Test.YtekghemhccfhkaaGreatDoorB01
import Derived.Test.YtekghemhccfhkaaGreatDoorB02
import Derived.Lib.Hide
namespace Go.Big
open Go Go.RowKit

abbrev B64 : Nat := 18446744073709551616
abbrev B32 : Nat := 4294967296

theorem nth_take {l : List Nat} {i n : Nat} (h : i < n) : nth (l.take n) i = nth l i := by
  simp [nth, h]
theorem nth_drop' (l : List Nat) (i n : Nat) : nth (l.drop n) i = nth l (n + i) := by simp [nth]
theorem take_val_nth (B : Nat) (l : List Nat) (i : Nat) (h : i < l.length) : val B (l.take (i + 1)) = val B (l.take i) + B ^ i * nth l i := by
  rw [take_succ_val B l i h, nth_lt h]
theorem drop_val_nth (B : Nat) (l : List Nat) (i : Nat) (h : i < l.length) : val B (l.drop i) = nth l i + B * val B (l.drop (i + 1)) := by
  rw [drop_val B l i h, nth_lt h]
theorem nth_drop {l l' : List Nat} {i : Nat} (h : l.drop i = l'.drop i) : nth l i = nth l' i := by
  have := congrArg (fun l : List Nat => l.getD 0 0) h
  simpa [nth] using this
theorem drop_set_succ {l : List Nat} {i x : Nat} : (l.set i x).drop (i + 1) = l.drop (i + 1) := by
  rw [List.drop_set_of_lt (by omega)]
theorem drop_succ_of {l l' : List Nat} {i : Nat} (h : l.drop i = l'.drop i) : l.drop (i + 1) = l'.drop (i + 1) := by
  rw [← List.drop_drop, ← List.drop_drop, h]
theorem nth_set_self {l : List Nat} {i x : Nat} (h : i < l.length) : nth (l.set i x) i = x := by simp [nth, h]
theorem nth_set_ne {l : List Nat} {i j x : Nat} (h : i ≠ j) : nth (l.set i x) j = nth l j := by simp [nth, List.getElem?_set_ne h]
theorem Wd.nth {B : Nat} {l : List Nat} (h : Wd B l) {i : Nat} (hi : i < l.length) : nth l i < B := by rw [nth_lt hi]; exact h.get hi
theorem Wd.nth' {B : Nat} {l : List Nat} (h : Wd B l) (hB : 0 < B) (i : Nat) : Big.nth l i < B := by
  by_cases hi : i < l.length
  · exact h.nth hi
  · simp [Big.nth, List.getElem?_eq_none (Nat.not_lt.1 hi), hB]
theorem set_mid (pre cur post : List Nat) (i x : Nat) (h : i < cur.length) : (pre ++ (cur ++ post)).set (pre.length + i) x = pre ++ (cur.set i x ++ post) := by
  rw [List.set_append_right _ _ (by omega), Nat.add_sub_cancel_left, List.set_append_left _ _ h]
theorem nth_mid (pre cur post : List Nat) (i : Nat) (h : i < cur.length) : nth (pre ++ (cur ++ post)) (pre.length + i) = nth cur i := by
  unfold nth
  rw [List.getD_eq_getElem?_getD, List.getD_eq_getElem?_getD, List.getElem?_append_right (by omega), Nat.add_sub_cancel_left, List.getElem?_append_left h]
theorem Nz_of_nth {l : List Nat} (h : l ≠ [] → nth l (l.length - 1) ≠ 0) : Nz l := by
  unfold Nz
  rcases List.eq_nil_or_concat l with rfl | ⟨m, x, rfl⟩
  · simp
  · have := h (by simp)
    simpa [nth] using this
theorem nth_of_Nz {l : List Nat} (h : Nz l) (hl : l ≠ []) : nth l (l.length - 1) ≠ 0 := by
  rcases List.eq_nil_or_concat l with rfl | ⟨m, x, rfl⟩
  · simp at hl
  · simp [Nz] at h
    simpa [nth] using h

/-- A slice of integers that can be read: at most 2^40 of them. -/
structure SlA (w : World) (k : IntKind) (ao : Option Addr) (cap : Nat) (l : List Nat) : Prop where
  le : l.length ≤ cap
  max : l.length ≤ 1099511627776
  cells : l ≠ [] → ∃ b off, ao = some ⟨b, off, none⟩ ∧ b < w.heap.size ∧ ∀ j, j < l.length → w.cell? ⟨b, off + j, none⟩ = some (.int k (nth l j))

theorem SlA.below {w w' : World} {k : IntKind} {ao : Option Addr} {cap : Nat} {l : List Nat} (h : SlA w k ao cap l) (hb : Below w.heap.size w w') : SlA w' k ao cap l :=
  ⟨h.le, h.max, fun hl => by
    obtain ⟨b, off, e, hlt, hc⟩ := h.cells hl
    exact ⟨b, off, e, Nat.lt_of_lt_of_le hlt hb.size, fun j hj => by rw [hb.cell (p := ⟨b, off + j, none⟩) hlt]; exact hc j hj⟩⟩
theorem SlA.nil (w : World) (k : IntKind) (ao : Option Addr) (cap : Nat) : SlA w k ao cap [] := ⟨Nat.zero_le _, by decide, fun h => absurd rfl h⟩
theorem SlA.take {w : World} {k : IntKind} {ao : Option Addr} {cap : Nat} {l : List Nat} (h : SlA w k ao cap l) (n : Nat) : SlA w k ao cap (l.take n) := by
  refine ⟨by have := h.le; rw [List.length_take]; omega, by have := h.max; rw [List.length_take]; omega, fun hl => ?_⟩
  obtain ⟨b, off, e, hlt, hc⟩ := h.cells (by intro e; simp [e] at hl)
  refine ⟨b, off, e, hlt, fun j hj => ?_⟩
  simp only [List.length_take] at hj
  rw [hc j (by omega), nth_take (by omega)]
theorem SlA.at {w : World} {k : IntKind} {ao : Option Addr} {cap : Nat} {l : List Nat} (h : SlA w k ao cap l) {i : Nat} (hi : i < l.length) :
    ∃ b off, ao = some ⟨b, off, none⟩ ∧ b < w.heap.size ∧ ∀ j, j < l.length → w.cell? ⟨b, off + j, none⟩ = some (.int k (nth l j)) :=
  h.cells (by intro e; simp [e] at hi)
theorem SlA.len_le {w : World} {k : IntKind} {ao : Option Addr} {cap : Nat} {l : List Nat} (h : SlA w k ao cap l) : l.length ≤ 1099511627776 := h.max

/-- The slice value v denotes the number n: words in base B without a leading zero. -/
def NatV (w : World) (k : IntKind) (B : Nat) (v : Value) (n : Nat) : Prop :=
  ∃ ao cap l, v = .slice ao l.length cap ∧ SlA w k ao cap l ∧ Wd B l ∧ Nz l ∧ val B l = n
theorem NatV.below {w w' : World} {k : IntKind} {B : Nat} {v : Value} {n : Nat} (h : NatV w k B v n) (hb : Below w.heap.size w w') : NatV w' k B v n := by
  obtain ⟨ao, cap, l, e, hs, r⟩ := h
  exact ⟨ao, cap, l, e, hs.below hb, r⟩
/-- A slice whose words reach no further than n. -/
theorem NatV.mk {w : World} {k : IntKind} {B : Nat} {ao : Option Addr} {cap n : Nat} {l : List Nat} (hs : SlA w k ao cap l) (hw : Wd B l) (hn : n ≤ l.length) (hz : Nz (l.take n)) :
    NatV w k B (.slice ao n cap) (val B (l.take n)) := by
  refine ⟨ao, cap, l.take n, ?_, hs.take n, hw.take n, hz, rfl⟩
  rw [List.length_take, Nat.min_eq_left hn]

theorem val_take_of_zero {B : Nat} {l : List Nat} {m : Nat} (hm : m < l.length) (hz : nth l m = 0) : val B (l.take m) = val B (l.take (m + 1)) := by
  rw [take_val_nth B l m hm, hz]; simp
theorem val_of_zero {B : Nat} {l : List Nat} (h : ∀ j, nth l j = 0) : val B l = 0 := by
  induction l with
  | nil => rfl
  | cons x l ih =>
    have h0 : x = 0 := by simpa [nth] using h 0
    have h1 : ∀ j, nth l j = 0 := fun j => by simpa [nth] using h (j + 1)
    rw [val_cons, ih h1, h0]; simp
end Go.Big
namespace Go.Big
theorem addLo_lt (x y c : Nat) : addLo x y c < 18446744073709551616 := Nat.mod_lt _ (by omega)
theorem addHi_le {x y c : Nat} (hx : x < 18446744073709551616) (hy : y < 18446744073709551616) (hc : c ≤ 1) : addHi x y c ≤ 1 := by unfold addHi; omega
theorem add_eq (x y c : Nat) : addLo x y c + 18446744073709551616 * addHi x y c = x + y + c := by unfold addLo addHi; omega
def subLo (x y c : Nat) : Nat := (x + 18446744073709551616 - y - c) % 18446744073709551616
def subHi (x y c : Nat) : Nat := if x < y + c then 1 else 0
theorem subLo_lt (x y c : Nat) : subLo x y c < 18446744073709551616 := Nat.mod_lt _ (by omega)
theorem subHi_le (x y c : Nat) : subHi x y c ≤ 1 := by unfold subHi; split <;> omega
theorem sub_eq {x y c : Nat} (hx : x < 18446744073709551616) (hy : y < 18446744073709551616) (hc : c ≤ 1) : subLo x y c + y + c = x + 18446744073709551616 * subHi x y c := by
  unfold subLo subHi; split <;> omega
/-- What holds of 'addTo' behind i words. -/
structure AddInv (a b : List Nat) (i : Nat) (cur : List Nat) (c : Nat) : Prop where
  len : cur.length = a.length
  wd : Wd B64 cur
  carry : c ≤ 1
  rest : cur.drop i = a.drop i
  eq : val B64 (cur.take i) + c * B64 ^ i = val B64 (a.take i) + val B64 (b.take i)

theorem AddInv.start {a : List Nat} (b : List Nat) (h : Wd B64 a) : AddInv a b 0 a 0 := ⟨rfl, h, by omega, rfl, by simp [val]⟩

theorem AddInv.step {a b cur : List Nat} {i c : Nat} (h : AddInv a b i cur c) (hi : i < a.length) (hib : i < b.length) (hb : Wd B64 b) :
    AddInv a b (i + 1) (cur.set i (addLo (nth cur i) (nth b i) c)) (addHi (nth cur i) (nth b i) c) := by
  have hic : i < cur.length := by rw [h.len]; exact hi
  refine ⟨by rw [List.length_set, h.len], h.wd.set (addLo_lt _ _ _), addHi_le (by rw [nth_lt hic]; exact h.wd.get hic) (by rw [nth_lt hib]; exact hb.get hib) h.carry, ?_, ?_⟩
  · rw [drop_set_succ, drop_succ_of h.rest]
  · rw [set_take_val B64 cur i _ hic, take_val_nth B64 a i hi, take_val_nth B64 b i hib]
    have e1 := h.eq
    have e2 := add_eq (nth cur i) (nth b i) c
    rw [nth_drop h.rest] at e2 ⊢
    rw [Nat.pow_succ]
    grind

/-- Behind the words of b: the carry runs on. -/
theorem AddInv.step0 {a b cur : List Nat} {i c : Nat} (h : AddInv a b i cur c) (hi : i < a.length) (hib : b.length ≤ i) :
    AddInv a b (i + 1) (cur.set i (addLo (nth cur i) 0 c)) (addHi (nth cur i) 0 c) := by
  have hic : i < cur.length := by rw [h.len]; exact hi
  refine ⟨by rw [List.length_set, h.len], h.wd.set (addLo_lt _ _ _), addHi_le (by rw [nth_lt hic]; exact h.wd.get hic) (by omega) h.carry, ?_, ?_⟩
  · rw [drop_set_succ, drop_succ_of h.rest]
  · rw [set_take_val B64 cur i _ hic, take_val_nth B64 a i hi, List.take_of_length_le (i := i + 1) (by omega)]
    have e1 := h.eq
    rw [List.take_of_length_le hib] at e1
    have e2 := add_eq (nth cur i) 0 c
    rw [nth_drop h.rest] at e2 ⊢
    rw [Nat.pow_succ]
    grind

/-- What 'addTo' leaves. -/
structure Added (a b cur : List Nat) (c : Nat) : Prop where
  len : cur.length = a.length
  wd : Wd B64 cur
  carry : c ≤ 1
  eq : val B64 cur + c * B64 ^ a.length = val B64 a + val B64 b

theorem AddInv.done {a b cur : List Nat} {i c : Nat} (h : AddInv a b i cur c) (hi : b.length ≤ i) (hia : i ≤ a.length) (hd : ¬ i < a.length ∨ c = 0) : Added a b cur c := by
  refine ⟨h.len, h.wd, h.carry, ?_⟩
  have e := h.eq
  rw [List.take_of_length_le hi] at e
  rcases hd with hd | rfl
  · have : i = a.length := by omega
    subst this
    rw [List.take_of_length_le (by rw [h.len]; omega), List.take_of_length_le (by omega)] at e
    exact e
  · rw [take_drop_val B64 cur i (by rw [h.len]; exact hia), take_drop_val B64 a i hia, h.rest]
    omega
/-- What holds of 'subtractFrom' behind i words. -/
structure SubInv (a b : List Nat) (i : Nat) (cur : List Nat) (c : Nat) : Prop where
  len : cur.length = a.length
  wd : Wd B64 cur
  carry : c ≤ 1
  rest : cur.drop i = a.drop i
  eq : val B64 (cur.take i) + val B64 (b.take i) = val B64 (a.take i) + c * B64 ^ i

theorem SubInv.start {a : List Nat} (b : List Nat) (h : Wd B64 a) : SubInv a b 0 a 0 := ⟨rfl, h, by omega, rfl, by simp [val]⟩

theorem SubInv.step {a b cur : List Nat} {i c : Nat} (h : SubInv a b i cur c) (hi : i < a.length) (hib : i < b.length) (hb : Wd B64 b) :
    SubInv a b (i + 1) (cur.set i (subLo (nth cur i) (nth b i) c)) (subHi (nth cur i) (nth b i) c) := by
  have hic : i < cur.length := by rw [h.len]; exact hi
  refine ⟨by rw [List.length_set, h.len], h.wd.set (subLo_lt _ _ _), subHi_le _ _ _, ?_, ?_⟩
  · rw [drop_set_succ, drop_succ_of h.rest]
  · rw [set_take_val B64 cur i _ hic, take_val_nth B64 a i hi, take_val_nth B64 b i hib]
    have e1 := h.eq
    have e2 := sub_eq (h.wd.nth hic) (hb.nth hib) h.carry
    rw [nth_drop h.rest] at e2 ⊢
    rw [Nat.pow_succ]
    grind

/-- Behind the words of b: the carry runs on. -/
theorem SubInv.step0 {a b cur : List Nat} {i c : Nat} (h : SubInv a b i cur c) (hi : i < a.length) (hib : b.length ≤ i) :
    SubInv a b (i + 1) (cur.set i (subLo (nth cur i) 0 c)) (subHi (nth cur i) 0 c) := by
  have hic : i < cur.length := by rw [h.len]; exact hi
  refine ⟨by rw [List.length_set, h.len], h.wd.set (subLo_lt _ _ _), subHi_le _ _ _, ?_, ?_⟩
  · rw [drop_set_succ, drop_succ_of h.rest]
  · rw [set_take_val B64 cur i _ hic, take_val_nth B64 a i hi, List.take_of_length_le (i := i + 1) (by omega)]
    have e1 := h.eq
    rw [List.take_of_length_le hib] at e1
    have e2 := sub_eq (y := 0) (h.wd.nth hic) (by omega) h.carry
    rw [nth_drop h.rest] at e2 ⊢
    rw [Nat.pow_succ]
    grind

/-- What 'subtractFrom' leaves. -/
structure Subbed (a b cur : List Nat) (c : Nat) : Prop where
  len : cur.length = a.length
  wd : Wd B64 cur
  carry : c ≤ 1
  eq : val B64 cur + val B64 b = val B64 a + c * B64 ^ a.length

theorem SubInv.done {a b cur : List Nat} {i c : Nat} (h : SubInv a b i cur c) (hi : b.length ≤ i) (hia : i ≤ a.length) (hd : ¬ i < a.length ∨ c = 0) : Subbed a b cur c := by
  refine ⟨h.len, h.wd, h.carry, ?_⟩
  have e := h.eq
  rw [List.take_of_length_le hi] at e
  rcases hd with hd | rfl
  · have : i = a.length := by omega
    subst this
    rw [List.take_of_length_le (by rw [h.len]; omega), List.take_of_length_le (by omega)] at e
    exact e
  · rw [take_drop_val B64 cur i (by rw [h.len]; exact hia), take_drop_val B64 a i hia, h.rest]
    omega
end Go.Big
namespace Go.Big
/-- How many of the first k words are left when the leading zeros are gone. -/
def tl (l : List Nat) : Nat → Nat
  | 0 => 0
  | k + 1 => if nth l k = 0 then tl l k else k + 1
theorem tl_le (l : List Nat) : ∀ k, tl l k ≤ k
  | 0 => Nat.le_refl _
  | k + 1 => by
    unfold tl
    split
    · have := tl_le l k; omega
    · exact Nat.le_refl _
theorem tl_val (B : Nat) (l : List Nat) : ∀ k, k ≤ l.length → val B (l.take (tl l k)) = val B (l.take k)
  | 0, _ => rfl
  | k + 1, h => by
    unfold tl
    split
    · rename_i hz
      rw [tl_val B l k (by omega), val_take_of_zero (by omega) hz]
    · rfl
theorem tl_Nz (l : List Nat) : ∀ k, k ≤ l.length → Nz (l.take (tl l k))
  | 0, _ => by simp [tl, Nz]
  | k + 1, h => by
    unfold tl
    split
    · exact tl_Nz l k (by omega)
    · rename_i hz
      exact Nz_of_nth (fun _ => by rw [List.length_take, Nat.min_eq_left h]; simp only [Nat.add_sub_cancel]; rw [nth_take (by omega)]; exact hz)
end Go.Big
namespace Go.Proofs.YtekghemhccfhkaaGreatDoor
open Go.RowKit Go.Big
def TrimPost (w : World) (ao : Option Addr) (cap : Nat) (l : List Nat) (e : Ending) (w' : World) : Prop :=
  ∃ n, n ≤ l.length ∧ e = .returned (.slice ao n cap) ∧ w' = w ∧ Nz (l.take n) ∧ ∀ B, val B (l.take n) = val B l

set_option maxRecDepth 100000 in
set_option maxHeartbeats 400000 in
theorem trim_det (ao : Option Addr) (cap : Nat) (l : List Nat) (w : World) (h : SlA w .u64 ao cap l) :
    Calls Tryz.prog 174 #[.slice ao l.length cap] w fun e w' => e = .returned (.slice ao (tl l l.length) cap) ∧ w' = w := by
  have hle := h.le
  have hmax := h.max
  go_enter Tryz.func174, Tryz.ntmps174
  go_wp2
  go_loop [0] (fun v => ∃ k : Nat, k ≤ l.length ∧ v = .slice ao k cap ∧ tl l k = tl l l.length) (fun v => match v with | .slice _ n _ => n | _ => 0)
  case atStart => exact ⟨l.length, Nat.le_refl _, rfl, rfl⟩
  case round =>
    obtain ⟨k, hk, rfl, hv⟩ := hrel
    have HV := Lib.hid hv
    clear hv
    rcases Nat.eq_zero_or_pos k with hk0 | hpos
    · subst hk0
      clear h
      go_wp2_with fail
      go_ret
      exact ⟨by rw [← HV.out]; rfl, rfl⟩
    · obtain ⟨m, rfl⟩ : ∃ m, k = m + 1 := ⟨k - 1, by omega⟩
      obtain ⟨b, off, rfl, _, hc⟩ := h.at (i := m) (by omega)
      have hcm := hc m (by omega)
      have H := Lib.hid h
      clear h hc hpos
      by_cases hz : nth l m = 0
      · have hT : Hid (tl l (m + 1) = tl l m) := by show tl l (m + 1) = tl l m; simp [tl, hz]
        rw [hz] at hcm
        clear hz
        go_wp2_with fail
        go_round
        case rel => exact ⟨m, by omega, by go_num, by rw [← HV.out, hT.out]⟩
        case measure => simp
      · have hz' : ((nth l m : Int) == 0) = false := by rw [beq_eq_false_iff_ne]; omega
        have hT : Hid (tl l (m + 1) = m + 1) := by show tl l (m + 1) = m + 1; simp [tl, hz]
        clear hz
        go_wp2_with fail
        go_ret
        exact ⟨by rw [← HV.out, hT.out]; rfl, rfl⟩
theorem trim_any (ao : Option Addr) (cap : Nat) (l : List Nat) (w : World) (h : SlA w .u64 ao cap l) :
    Calls Tryz.prog 174 #[.slice ao l.length cap] w (TrimPost w ao cap l) := by
  refine (trim_det ao cap l w h).mono ?_
  rintro e w' ⟨rfl, rfl⟩
  exact ⟨_, tl_le _ _, rfl, rfl, tl_Nz _ _ (Nat.le_refl _), fun B => by rw [tl_val B l _ (Nat.le_refl _), List.take_length]⟩
end Go.Proofs.YtekghemhccfhkaaGreatDoor
namespace Go.Big
theorem val_set (B : Nat) (l : List Nat) (i x : Nat) (h : i < l.length) : val B (l.set i x) + B ^ i * nth l i = val B l + B ^ i * x := by
  induction l generalizing i with
  | nil => simp at h
  | cons y l ih =>
    cases i with
    | zero => simp [val, nth]; omega
    | succ i =>
      have := ih i (by simpa using h)
      simp only [List.set_cons_succ, val]
      have e : nth (y :: l) (i + 1) = nth l i := by simp [nth]
      rw [e, Nat.pow_succ]
      grind
theorem nth_ge {l : List Nat} {i : Nat} (h : l.length ≤ i) : nth l i = 0 := by simp [nth, List.getElem?_eq_none h]
theorem take_val_any (B : Nat) (l : List Nat) (i : Nat) : val B (l.take (i + 1)) = val B (l.take i) + B ^ i * nth l i := by
  by_cases h : i < l.length
  · exact take_val_nth B l i h
  · rw [nth_ge (by omega), List.take_of_length_le (by omega), List.take_of_length_le (by omega)]; simp
/-- The sum loop of absolute values. -/
structure NAdd (B : Nat) (a b : List Nat) (i : Nat) (cur : List Nat) (c : Nat) : Prop where
  len : cur.length = a.length + 1
  wd : Wd B cur
  carry : c ≤ 1
  zero : ∀ j, i ≤ j → nth cur j = 0
  eq : val B cur + c * B ^ i = val B (a.take i) + val B (b.take i)
theorem NAdd.start {B : Nat} (hB : 0 < B) (a b : List Nat) : NAdd B a b 0 (List.replicate (a.length + 1) 0) 0 :=
  ⟨by simp, Wd.replicate hB, by omega, fun j _ => by unfold nth; rw [List.getD_eq_getElem?_getD, List.getElem?_replicate]; split <;> rfl, by rw [val_replicate]; simp [val]⟩
theorem NAdd.step {B : Nat} {a b cur : List Nat} {i c : Nat} (hB : 1 < B) (wa : Wd B a) (wb : Wd B b) (h : NAdd B a b i cur c) (hi : i < a.length) :
    NAdd B a b (i + 1) (cur.set i ((c + nth a i + nth b i) % B)) ((c + nth a i + nth b i) / B) := by
  have hx := wa.nth' (by omega) i
  have hy := wb.nth' (by omega) i
  have hc := h.carry
  have hm : (c + nth a i + nth b i) % B < B := Nat.mod_lt _ (by omega)
  refine ⟨by rw [List.length_set, h.len], h.wd.set hm, ?_, ?_, ?_⟩
  · have : (c + nth a i + nth b i) / B < 2 := Nat.div_lt_of_lt_mul (by omega)
    omega
  · intro j hj
    rw [nth_set_ne (by omega)]; exact h.zero j (by omega)
  · have e := val_set B cur i ((c + nth a i + nth b i) % B) (by rw [h.len]; omega)
    rw [h.zero i (Nat.le_refl _)] at e
    have e2 := h.eq
    rw [take_val_any, take_val_any, Nat.pow_succ]
    have e3 := Nat.div_add_mod (c + nth a i + nth b i) B
    generalize (c + nth a i + nth b i) % B = m at *
    generalize (c + nth a i + nth b i) / B = q at *
    have e4 : B ^ i * (B * q + m) = B ^ i * (c + nth a i + nth b i) := by rw [e3]
    grind
theorem NAdd.done {B : Nat} {a b cur : List Nat} {c : Nat} (hB : 1 < B) (h : NAdd B a b a.length cur c) (hl : b.length ≤ a.length) :
    (cur.set a.length c).length = a.length + 1 ∧ Wd B (cur.set a.length c) ∧ val B (cur.set a.length c) = val B a + val B b := by
  refine ⟨by rw [List.length_set, h.len], h.wd.set (by have := h.carry; omega), ?_⟩
  have e := val_set B cur a.length c (by rw [h.len]; omega)
  rw [h.zero _ (Nat.le_refl _)] at e
  have e2 := h.eq
  rw [List.take_length, List.take_of_length_le hl] at e2
  grind
/-- The difference loop. -/
structure NSub (B : Nat) (a b : List Nat) (i : Nat) (cur : List Nat) (c : Nat) : Prop where
  len : cur.length = a.length
  wd : Wd B cur
  carry : c ≤ 1
  zero : ∀ j, i ≤ j → nth cur j = 0
  eq : val B cur + val B (b.take i) = val B (a.take i) + c * B ^ i
theorem zeros_nth0 (n j : Nat) : nth (List.replicate n 0) j = 0 := by unfold nth; rw [List.getD_eq_getElem?_getD, List.getElem?_replicate]; split <;> rfl
theorem NSub.start {B : Nat} (hB : 0 < B) (a b : List Nat) : NSub B a b 0 (List.replicate a.length 0) 0 :=
  ⟨by simp, Wd.replicate hB, by omega, fun j _ => zeros_nth0 _ _, by rw [val_replicate]; simp [val]⟩
theorem NSub.step {B : Nat} {a b cur : List Nat} {i c d c' : Nat} (h : NSub B a b i cur c) (hi : i < a.length) (hd : d < B) (hc' : c' ≤ 1) (he : d + nth b i + c = nth a i + c' * B) :
    NSub B a b (i + 1) (cur.set i d) c' := by
  refine ⟨by rw [List.length_set, h.len], h.wd.set hd, hc', ?_, ?_⟩
  · intro j hj
    rw [nth_set_ne (by omega)]; exact h.zero j (by omega)
  · have e := val_set B cur i d (by rw [h.len]; omega)
    rw [h.zero i (Nat.le_refl _)] at e
    have e2 := h.eq
    rw [take_val_any, take_val_any, Nat.pow_succ]
    have e4 : B ^ i * (d + nth b i + c) = B ^ i * (nth a i + c' * B) := by rw [he]
    grind
theorem NSub.done {B : Nat} {a b cur : List Nat} {c : Nat} (h : NSub B a b a.length cur c) (hl : b.length ≤ a.length) (hv : val B b ≤ val B a) : val B cur = val B a - val B b := by
  have e := h.eq
  rw [List.take_length, List.take_of_length_le hl] at e
  have h1 := val_lt h.wd
  rw [h.len] at h1
  have hc := h.carry
  rcases Nat.eq_zero_or_pos c with h0 | h0
  · subst h0; omega
  · have : c = 1 := by omega
    subst this; omega
/-- The product loop: one row. -/
structure NMac (B : Nat) (s0 b : List Nat) (x i k : Nat) (cur : List Nat) (c : Nat) : Prop where
  len : cur.length = s0.length
  wd : Wd B cur
  carry : c < B
  keep : ∀ j, i + k ≤ j → nth cur j = nth s0 j
  eq : val B cur + c * B ^ (i + k) = val B s0 + B ^ i * (x * val B (b.take k))
theorem NMac.start {B : Nat} {s0 : List Nat} (hB : 0 < B) (h : Wd B s0) (b : List Nat) (x i : Nat) : NMac B s0 b x i 0 s0 0 := ⟨rfl, h, hB, fun _ _ => rfl, by simp [val]⟩
theorem NMac.step {B : Nat} {s0 b cur : List Nat} {x i k c : Nat} (hB : 1 < B) (wb : Wd B b) (hx : x < B) (h : NMac B s0 b x i k cur c) (hk : i + k < s0.length) :
    NMac B s0 b x i (k + 1) (cur.set (i + k) ((c + (x * nth b k + nth cur (i + k))) % B)) ((c + (x * nth b k + nth cur (i + k))) / B) := by
  have hy := wb.nth' (by omega) k
  have hz := h.wd.nth' (by omega) (i + k)
  have hc := h.carry
  refine ⟨by rw [List.length_set, h.len], h.wd.set (Nat.mod_lt _ (by omega)), ?_, ?_, ?_⟩
  · refine Nat.div_lt_of_lt_mul ?_
    have h1 : x * nth b k ≤ (B - 1) * (B - 1) := Nat.mul_le_mul (by omega) (by omega)
    obtain ⟨D, rfl⟩ : ∃ D, B = D + 1 := ⟨B - 1, by omega⟩
    simp only [Nat.add_sub_cancel] at h1
    have h2 : (D + 1) * (D + 1) = D * D + 2 * D + 1 := by grind
    omega
  · intro j hj
    rw [nth_set_ne (by omega)]; exact h.keep j (by omega)
  · have e := val_set B cur (i + k) ((c + (x * nth b k + nth cur (i + k))) % B) (by rw [h.len]; omega)
    have e2 := h.eq
    rw [take_val_any, show i + (k + 1) = (i + k) + 1 from rfl, Nat.pow_succ]
    have e3 := Nat.div_add_mod (c + (x * nth b k + nth cur (i + k))) B
    generalize (c + (x * nth b k + nth cur (i + k))) % B = m at *
    generalize (c + (x * nth b k + nth cur (i + k))) / B = q at *
    have e4 : B ^ (i + k) * (B * q + m) = B ^ (i + k) * (c + (x * nth b k + nth cur (i + k))) := by rw [e3]
    have e5 : B ^ (i + k) = B ^ i * B ^ k := Nat.pow_add _ _ _
    grind
/-- The product loop: the rows. -/
structure NMul (B : Nat) (a b : List Nat) (i : Nat) (cur : List Nat) : Prop where
  len : cur.length = a.length + b.length
  wd : Wd B cur
  zero : ∀ j, i + b.length ≤ j → nth cur j = 0
  eq : val B cur = val B (a.take i) * val B b
theorem NMul.start {B : Nat} (hB : 0 < B) (a b : List Nat) : NMul B a b 0 (List.replicate (a.length + b.length) 0) :=
  ⟨by simp, Wd.replicate hB, fun j _ => zeros_nth0 _ _, by rw [val_replicate]; simp [val]⟩
theorem NMul.step {B : Nat} {a b s0 cur : List Nat} {i c : Nat} (h : NMul B a b i s0) (hi : i < a.length) (hm : NMac B s0 b (nth a i) i b.length cur c) :
    NMul B a b (i + 1) (cur.set (i + b.length) c) := by
  refine ⟨by rw [List.length_set, hm.len, h.len], hm.wd.set hm.carry, ?_, ?_⟩
  · intro j hj
    rw [nth_set_ne (by omega), hm.keep j (by omega)]; exact h.zero j (by omega)
  · have e := val_set B cur (i + b.length) c (by rw [hm.len, h.len]; omega)
    rw [hm.keep _ (Nat.le_refl _), h.zero _ (Nat.le_refl _)] at e
    have e2 := hm.eq
    rw [List.take_length, h.eq] at e2
    rw [take_val_any]
    grind
/-- Division by a digit: behind the digits from k on. -/
structure NSd (B : Nat) (a : List Nat) (d k : Nat) (cur : List Nat) (r : Nat) : Prop where
  len : cur.length = a.length
  wd : Wd B cur
  rlt : r < d
  zero : ∀ j, j < k → nth cur j = 0
  eq : B ^ k * val B (a.drop k) = d * val B cur + B ^ k * r
theorem NSd.start {B : Nat} (hB : 0 < B) (a : List Nat) {d : Nat} (hd : 0 < d) : NSd B a d a.length (List.replicate a.length 0) 0 :=
  ⟨by simp, Wd.replicate hB, hd, fun j _ => zeros_nth0 _ _, by rw [val_replicate, List.drop_length]; simp [val]⟩
theorem NSd.step {B : Nat} {a cur : List Nat} {d i r : Nat} (wa : Wd B a) (h : NSd B a d (i + 1) cur r) (hi : i < a.length) :
    NSd B a d i (cur.set i ((r * B + nth a i) / d)) ((r * B + nth a i) % d) := by
  have hr := h.rlt
  have hx := wa.nth hi
  have hq : (r * B + nth a i) / d < B := Nat.div_lt_of_lt_mul (by
    have : (r + 1) * B ≤ d * B := Nat.mul_le_mul_right _ hr
    rw [Nat.add_mul] at this; omega)
  refine ⟨by rw [List.length_set, h.len], h.wd.set hq, Nat.mod_lt _ (by omega), ?_, ?_⟩
  · intro j hj
    rw [nth_set_ne (by omega)]; exact h.zero j (by omega)
  · have e := val_set B cur i ((r * B + nth a i) / d) (by rw [h.len]; omega)
    rw [h.zero i (by omega)] at e
    have e2 := h.eq
    rw [drop_val_nth B a i hi]
    have e3 := Nat.div_add_mod (r * B + nth a i) d
    generalize (r * B + nth a i) / d = q at *
    generalize (r * B + nth a i) % d = m at *
    have e4 : B ^ i * (d * q + m) = B ^ i * (r * B + nth a i) := by rw [e3]
    rw [Nat.pow_succ] at e2
    grind
theorem NSd.done {B : Nat} {a cur : List Nat} {d r : Nat} (h : NSd B a d 0 cur r) : val B cur = val B a / d ∧ r = val B a % d := by
  have e := h.eq
  simp only [Nat.pow_zero, Nat.one_mul, List.drop_zero] at e
  have hr := h.rlt
  refine ⟨?_, ?_⟩
  · rw [e, Nat.mul_add_div (by omega), Nat.div_eq_of_lt hr, Nat.add_zero]
  · rw [e, Nat.mul_add_mod, Nat.mod_eq_of_lt hr]
end Go.Big
namespace Go.Big
theorem pow32 {s t : Nat} (h : s + t = 32) : 2 ^ s * 2 ^ t = 4294967296 := by rw [← Nat.pow_add, h]
/-- Shifting to the left, word for word. -/
structure NShl (a : List Nat) (s i : Nat) (cur : List Nat) : Prop where
  len : cur.length = a.length + 1
  wd : Wd B32 cur
  low : nth cur i < 2 ^ s
  zero : ∀ j, i < j → nth cur j = 0
  eq : val B32 cur = 2 ^ s * val B32 (a.take i)
theorem NShl.start (a : List Nat) (s : Nat) : NShl a s 0 (List.replicate (a.length + 1) 0) :=
  ⟨by simp, Wd.replicate (by decide), by rw [zeros_nth0]; exact Nat.pow_pos (by decide), fun j _ => zeros_nth0 _ _, by rw [val_replicate]; simp [val]⟩
theorem or_low {x v s t : Nat} (h : s + t = 32) (hx : x < 2 ^ s) : x ||| (v * 2 ^ s % 4294967296) = x + v * 2 ^ s % 4294967296 := by
  have e : v * 2 ^ s % 4294967296 = 2 ^ s * (v % 2 ^ t) := by
    rw [← pow32 h, Nat.mul_comm v, Nat.mul_mod_mul_left]
  rw [e, Nat.or_comm, Nat.add_comm, Nat.two_pow_add_eq_or_of_lt hx]
theorem shl_digit {x v s t : Nat} (h : s + t = 32) (hx : x < 2 ^ s) : x + v * 2 ^ s % 4294967296 < 4294967296 := by
  have e : v * 2 ^ s % 4294967296 = 2 ^ s * (v % 2 ^ t) := by
    rw [← pow32 h, Nat.mul_comm v, Nat.mul_mod_mul_left]
  rw [e]
  have h1 : v % 2 ^ t < 2 ^ t := Nat.mod_lt _ (Nat.pow_pos (by decide))
  have h2 : 2 ^ s * (v % 2 ^ t + 1) ≤ 2 ^ s * 2 ^ t := Nat.mul_le_mul_left _ h1
  rw [pow32 h, Nat.mul_add, Nat.mul_one] at h2
  omega
theorem shl_high {v s t : Nat} (_h : s + t = 32) (hv : v < 4294967296) : v * 2 ^ s / 4294967296 < 2 ^ s := by
  refine Nat.div_lt_of_lt_mul ?_
  exact Nat.mul_lt_mul_of_pos_right hv (Nat.pow_pos (by decide))
theorem NShl.step {a cur : List Nat} {s t i : Nat} (hs : s + t = 32) (wa : Wd B32 a) (h : NShl a s i cur) (hi : i < a.length) :
    NShl a s (i + 1) ((cur.set i (nth cur i + nth a i * 2 ^ s % 4294967296)).set (i + 1) (nth a i * 2 ^ s / 4294967296)) := by
  have hx := wa.nth hi
  have hh := shl_high hs hx
  have hl := h.len
  have hp : 2 ^ s ≤ 4294967296 := by have := pow32 hs; have h2 : 0 < 2 ^ t := Nat.pow_pos (by decide); rw [← this]; exact Nat.le_mul_of_pos_right _ h2
  refine ⟨by rw [List.length_set, List.length_set, hl], (h.wd.set (shl_digit hs h.low)).set (Nat.lt_of_lt_of_le hh hp), ?_, ?_, ?_⟩
  · rw [nth_set_self (by rw [List.length_set]; omega)]; exact hh
  · intro j hj
    rw [nth_set_ne (by omega), nth_set_ne (by omega)]; exact h.zero j (by omega)
  · have e1 := val_set B32 (cur.set i (nth cur i + nth a i * 2 ^ s % 4294967296)) (i + 1) (nth a i * 2 ^ s / 4294967296) (by rw [List.length_set]; omega)
    rw [nth_set_ne (by omega), h.zero (i + 1) (by omega)] at e1
    have e2 := val_set B32 cur i (nth cur i + nth a i * 2 ^ s % 4294967296) (by omega)
    have e3 := Nat.div_add_mod (nth a i * 2 ^ s) 4294967296
    rw [take_val_any, Nat.mul_add, ← h.eq]
    generalize nth a i * 2 ^ s % 4294967296 = m at *
    generalize nth a i * 2 ^ s / 4294967296 = q at *
    have e4 : 4294967296 ^ i * (4294967296 * q + m) = 4294967296 ^ i * (nth a i * 2 ^ s) := by rw [e3]
    rw [Nat.pow_succ] at e1
    have e5 : (B32 : Nat) = 4294967296 := rfl
    rw [e5] at *
    grind
theorem NShl.done {a cur : List Nat} {s : Nat} (h : NShl a s a.length cur) : val B32 cur = 2 ^ s * val B32 a := by rw [h.eq, List.take_length]
/-- Shifting to the right, word for word: the words above i are the old ones. -/
def shrD (s t x y : Nat) : Nat := x / 2 ^ s + y % 2 ^ s * 2 ^ t
theorem shrD_lt {s t x y : Nat} (h : s + t = 32) (hx : x < 4294967296) : shrD s t x y < 4294967296 := by
  have h1 : x / 2 ^ s < 2 ^ t := Nat.div_lt_of_lt_mul (by rw [pow32 h]; exact hx)
  have h2 : y % 2 ^ s < 2 ^ s := Nat.mod_lt _ (Nat.pow_pos (by decide))
  have h3 : (y % 2 ^ s + 1) * 2 ^ t ≤ 2 ^ s * 2 ^ t := Nat.mul_le_mul_right _ h2
  rw [pow32 h, Nat.add_mul, Nat.one_mul] at h3
  unfold shrD; omega
theorem shr_or {s t x y : Nat} (h : s + t = 32) (hx : x < 4294967296) : x / 2 ^ s ||| (y * 2 ^ t % 4294967296) = shrD s t x y := by
  have h1 : x / 2 ^ s < 2 ^ t := Nat.div_lt_of_lt_mul (by rw [pow32 h]; exact hx)
  have e : y * 2 ^ t % 4294967296 = 2 ^ t * (y % 2 ^ s) := by
    rw [← pow32 h, Nat.mul_comm y, Nat.mul_comm (2 ^ s), Nat.mul_mod_mul_left]
  rw [e, Nat.or_comm, ← Nat.two_pow_add_eq_or_of_lt h1, shrD, Nat.add_comm, Nat.mul_comm (2 ^ t)]
theorem shr_step {s t : Nat} (h : s + t = 32) (x : Nat) (l : List Nat) : val 4294967296 (x :: l) / 2 ^ s = shrD s t x (nth l 0) + 4294967296 * (val 4294967296 l / 2 ^ s) := by
  have hp : 0 < 2 ^ s := Nat.pow_pos (by decide)
  have e1 : val 4294967296 (x :: l) = x + 2 ^ s * (2 ^ t * val 4294967296 l) := by rw [val_cons, ← Nat.mul_assoc, pow32 h]
  rw [e1, Nat.add_mul_div_left _ _ hp]
  have e2 : val 4294967296 l % 2 ^ s = nth l 0 % 2 ^ s := by
    cases l with
    | nil => simp [val, nth]
    | cons y l =>
      rw [val_cons, ← pow32 h, Nat.mul_assoc, Nat.add_mul_mod_self_left]; simp [nth]
  have e3 := Nat.div_add_mod (val 4294967296 l) (2 ^ s)
  rw [e2] at e3
  unfold shrD
  generalize val 4294967296 l / 2 ^ s = q at *
  rw [← e3, ← pow32 h]
  grind
structure NShr (m : List Nat) (s i : Nat) (cur : List Nat) : Prop where
  len : cur.length = m.length
  wd : Wd B32 cur
  eq : val B32 (cur.take i) + B32 ^ i * (val B32 (m.drop i) / 2 ^ s) = val B32 m / 2 ^ s
theorem NShr.start {m cur : List Nat} (s : Nat) (hl : cur.length = m.length) (hw : Wd B32 cur) : NShr m s 0 cur := ⟨hl, hw, by simp [val]⟩
theorem NShr.step {m cur : List Nat} {s t i : Nat} (hs : s + t = 32) (wm : Wd B32 m) (h : NShr m s i cur) (hi : i < m.length) :
    NShr m s (i + 1) (cur.set i (shrD s t (nth m i) (nth m (i + 1)))) := by
  have hl := h.len
  refine ⟨by rw [List.length_set, hl], h.wd.set (shrD_lt hs (wm.nth hi)), ?_⟩
  rw [set_take_val B32 cur i _ (by omega), ← h.eq, List.drop_eq_getElem_cons hi, ← nth_lt hi, shr_step hs]
  rw [show nth (m.drop (i + 1)) 0 = nth m (i + 1) by rw [nth_drop']]
  rw [Nat.pow_succ]
  grind
theorem NShr.done {m cur : List Nat} {s : Nat} (h : NShr m s m.length cur) : val B32 cur = val B32 m / 2 ^ s := by
  have e := h.eq
  rw [List.drop_length, List.take_of_length_le (by rw [h.len]; exact Nat.le_refl _)] at e
  rw [← e]; simp [val]
end Go.Big
