/-
  Walks of the program's functions: Sl, AddMath, Trim.
-/
import Derived.Test.YtekghemhccfhkaaGreatDoorB01
import Derived.Test.YtekghemhccfhkaaGreatDoorB02
import Derived.Lib.Hide
namespace Go.Big
open Go Go.RowKit

abbrev B64 : Nat := 18446744073709551616
theorem nth_take {l : List Nat} {i n : Nat} (h : i < n) : nth (l.take n) i = nth l i := by
  simp [nth, h]
theorem nth_drop' (l : List Nat) (i n : Nat) : nth (l.drop n) i = nth l (n + i) := by simp [nth]
theorem take_val_nth (B : Nat) (l : List Nat) (i : Nat) (h : i < l.length) : val B (l.take (i + 1)) = val B (l.take i) + B ^ i * nth l i := by
  rw [take_succ_val B l i h, nth_lt h]
theorem drop_val_nth (B : Nat) (l : List Nat) (i : Nat) (h : i < l.length) : val B (l.drop i) = nth l i + B * val B (l.drop (i + 1)) := by
  rw [drop_val B l i h, nth_lt h]
theorem nth_drop {l l' : List Nat} {i : Nat} (h : l.drop i = l'.drop i) : nth l i = nth l' i := by
  have := congrArg (fun l : List Nat => l.getD 0 0) h
  simpa [nth] using this
theorem drop_set_succ {l : List Nat} {i x : Nat} : (l.set i x).drop (i + 1) = l.drop (i + 1) := by
  rw [List.drop_set_of_lt (by omega)]
theorem drop_succ_of {l l' : List Nat} {i : Nat} (h : l.drop i = l'.drop i) : l.drop (i + 1) = l'.drop (i + 1) := by
  rw [← List.drop_drop, ← List.drop_drop, h]
theorem nth_set_self {l : List Nat} {i x : Nat} (h : i < l.length) : nth (l.set i x) i = x := by simp [nth, h]
theorem nth_set_ne {l : List Nat} {i j x : Nat} (h : i ≠ j) : nth (l.set i x) j = nth l j := by simp [nth, List.getElem?_set_ne h]
theorem Wd.nth {B : Nat} {l : List Nat} (h : Wd B l) {i : Nat} (hi : i < l.length) : nth l i < B := by rw [nth_lt hi]; exact h.get hi
theorem set_mid (pre cur post : List Nat) (i x : Nat) (h : i < cur.length) : (pre ++ (cur ++ post)).set (pre.length + i) x = pre ++ (cur.set i x ++ post) := by
  rw [List.set_append_right _ _ (by omega), Nat.add_sub_cancel_left, List.set_append_left _ _ h]
theorem nth_mid (pre cur post : List Nat) (i : Nat) (h : i < cur.length) : nth (pre ++ (cur ++ post)) (pre.length + i) = nth cur i := by
  unfold nth
  rw [List.getD_eq_getElem?_getD, List.getD_eq_getElem?_getD, List.getElem?_append_right (by omega), Nat.add_sub_cancel_left, List.getElem?_append_left h]
theorem Nz_of_nth {l : List Nat} (h : l ≠ [] → nth l (l.length - 1) ≠ 0) : Nz l := by
  unfold Nz
  rcases List.eq_nil_or_concat l with rfl | ⟨m, x, rfl⟩
  · simp
  · have := h (by simp)
    simpa [nth] using this
theorem nth_of_Nz {l : List Nat} (h : Nz l) (hl : l ≠ []) : nth l (l.length - 1) ≠ 0 := by
  rcases List.eq_nil_or_concat l with rfl | ⟨m, x, rfl⟩
  · simp at hl
  · simp [Nz] at h
    simpa [nth] using h

/-- A slice of integers that can be read: at most 2^40 of them. -/
structure SlA (w : World) (k : IntKind) (ao : Option Addr) (cap : Nat) (l : List Nat) : Prop where
  le : l.length ≤ cap
  max : l.length ≤ 1099511627776
  cells : l ≠ [] → ∃ b off, ao = some ⟨b, off, none⟩ ∧ b < w.heap.size ∧ ∀ j, j < l.length → w.cell? ⟨b, off + j, none⟩ = some (.int k (nth l j))

theorem SlA.below {w w' : World} {k : IntKind} {ao : Option Addr} {cap : Nat} {l : List Nat} (h : SlA w k ao cap l) (hb : Below w.heap.size w w') : SlA w' k ao cap l :=
  ⟨h.le, h.max, fun hl => by
    obtain ⟨b, off, e, hlt, hc⟩ := h.cells hl
    exact ⟨b, off, e, Nat.lt_of_lt_of_le hlt hb.size, fun j hj => by rw [hb.cell (p := ⟨b, off + j, none⟩) hlt]; exact hc j hj⟩⟩
theorem SlA.nil (w : World) (k : IntKind) (ao : Option Addr) (cap : Nat) : SlA w k ao cap [] := ⟨Nat.zero_le _, by decide, fun h => absurd rfl h⟩
theorem SlA.take {w : World} {k : IntKind} {ao : Option Addr} {cap : Nat} {l : List Nat} (h : SlA w k ao cap l) (n : Nat) : SlA w k ao cap (l.take n) := by
  refine ⟨by have := h.le; rw [List.length_take]; omega, by have := h.max; rw [List.length_take]; omega, fun hl => ?_⟩
  obtain ⟨b, off, e, hlt, hc⟩ := h.cells (by intro e; simp [e] at hl)
  refine ⟨b, off, e, hlt, fun j hj => ?_⟩
  simp only [List.length_take] at hj
  rw [hc j (by omega), nth_take (by omega)]
theorem SlA.at {w : World} {k : IntKind} {ao : Option Addr} {cap : Nat} {l : List Nat} (h : SlA w k ao cap l) {i : Nat} (hi : i < l.length) :
    ∃ b off, ao = some ⟨b, off, none⟩ ∧ b < w.heap.size ∧ ∀ j, j < l.length → w.cell? ⟨b, off + j, none⟩ = some (.int k (nth l j)) :=
  h.cells (by intro e; simp [e] at hi)
theorem SlA.len_le {w : World} {k : IntKind} {ao : Option Addr} {cap : Nat} {l : List Nat} (h : SlA w k ao cap l) : l.length ≤ 1099511627776 := h.max

/-- The slice value v denotes the number n: words in base B without a leading zero. -/
def NatV (w : World) (k : IntKind) (B : Nat) (v : Value) (n : Nat) : Prop :=
  ∃ ao cap l, v = .slice ao l.length cap ∧ SlA w k ao cap l ∧ Wd B l ∧ Nz l ∧ val B l = n
theorem NatV.below {w w' : World} {k : IntKind} {B : Nat} {v : Value} {n : Nat} (h : NatV w k B v n) (hb : Below w.heap.size w w') : NatV w' k B v n := by
  obtain ⟨ao, cap, l, e, hs, r⟩ := h
  exact ⟨ao, cap, l, e, hs.below hb, r⟩
/-- A slice whose words reach no further than n. -/
theorem NatV.mk {w : World} {k : IntKind} {B : Nat} {ao : Option Addr} {cap n : Nat} {l : List Nat} (hs : SlA w k ao cap l) (hw : Wd B l) (hn : n ≤ l.length) (hz : Nz (l.take n)) :
    NatV w k B (.slice ao n cap) (val B (l.take n)) := by
  refine ⟨ao, cap, l.take n, ?_, hs.take n, hw.take n, hz, rfl⟩
  rw [List.length_take, Nat.min_eq_left hn]

theorem val_take_of_zero {B : Nat} {l : List Nat} {m : Nat} (hm : m < l.length) (hz : nth l m = 0) : val B (l.take m) = val B (l.take (m + 1)) := by
  rw [take_val_nth B l m hm, hz]; simp
theorem val_of_zero {B : Nat} {l : List Nat} (h : ∀ j, nth l j = 0) : val B l = 0 := by
  induction l with
  | nil => rfl
  | cons x l ih =>
    have h0 : x = 0 := by simpa [nth] using h 0
    have h1 : ∀ j, nth l j = 0 := fun j => by simpa [nth] using h (j + 1)
    rw [val_cons, ih h1, h0]; simp
end Go.Big
namespace Go.Big
theorem addLo_lt (x y c : Nat) : addLo x y c < 18446744073709551616 := Nat.mod_lt _ (by omega)
theorem addHi_le {x y c : Nat} (hx : x < 18446744073709551616) (hy : y < 18446744073709551616) (hc : c ≤ 1) : addHi x y c ≤ 1 := by unfold addHi; omega
theorem add_eq (x y c : Nat) : addLo x y c + 18446744073709551616 * addHi x y c = x + y + c := by unfold addLo addHi; omega
def subLo (x y c : Nat) : Nat := (x + 18446744073709551616 - y - c) % 18446744073709551616
def subHi (x y c : Nat) : Nat := if x < y + c then 1 else 0
theorem subLo_lt (x y c : Nat) : subLo x y c < 18446744073709551616 := Nat.mod_lt _ (by omega)
theorem subHi_le (x y c : Nat) : subHi x y c ≤ 1 := by unfold subHi; split <;> omega
theorem sub_eq {x y c : Nat} (hx : x < 18446744073709551616) (hy : y < 18446744073709551616) (hc : c ≤ 1) : subLo x y c + y + c = x + 18446744073709551616 * subHi x y c := by
  unfold subLo subHi; split <;> omega
/-- What holds of 'addTo' behind i words. -/
structure AddInv (a b : List Nat) (i : Nat) (cur : List Nat) (c : Nat) : Prop where
  len : cur.length = a.length
  wd : Wd B64 cur
  carry : c ≤ 1
  rest : cur.drop i = a.drop i
  eq : val B64 (cur.take i) + c * B64 ^ i = val B64 (a.take i) + val B64 (b.take i)

theorem AddInv.start {a : List Nat} (b : List Nat) (h : Wd B64 a) : AddInv a b 0 a 0 := ⟨rfl, h, by omega, rfl, by simp [val]⟩

theorem AddInv.step {a b cur : List Nat} {i c : Nat} (h : AddInv a b i cur c) (hi : i < a.length) (hib : i < b.length) (hb : Wd B64 b) :
    AddInv a b (i + 1) (cur.set i (addLo (nth cur i) (nth b i) c)) (addHi (nth cur i) (nth b i) c) := by
  have hic : i < cur.length := by rw [h.len]; exact hi
  refine ⟨by rw [List.length_set, h.len], h.wd.set (addLo_lt _ _ _), addHi_le (by rw [nth_lt hic]; exact h.wd.get hic) (by rw [nth_lt hib]; exact hb.get hib) h.carry, ?_, ?_⟩
  · rw [drop_set_succ, drop_succ_of h.rest]
  · rw [set_take_val B64 cur i _ hic, take_val_nth B64 a i hi, take_val_nth B64 b i hib]
    have e1 := h.eq
    have e2 := add_eq (nth cur i) (nth b i) c
    rw [nth_drop h.rest] at e2 ⊢
    rw [Nat.pow_succ]
    grind

/-- Behind the words of b: the carry runs on. -/
theorem AddInv.step0 {a b cur : List Nat} {i c : Nat} (h : AddInv a b i cur c) (hi : i < a.length) (hib : b.length ≤ i) :
    AddInv a b (i + 1) (cur.set i (addLo (nth cur i) 0 c)) (addHi (nth cur i) 0 c) := by
  have hic : i < cur.length := by rw [h.len]; exact hi
  refine ⟨by rw [List.length_set, h.len], h.wd.set (addLo_lt _ _ _), addHi_le (by rw [nth_lt hic]; exact h.wd.get hic) (by omega) h.carry, ?_, ?_⟩
  · rw [drop_set_succ, drop_succ_of h.rest]
  · rw [set_take_val B64 cur i _ hic, take_val_nth B64 a i hi, List.take_of_length_le (i := i + 1) (by omega)]
    have e1 := h.eq
    rw [List.take_of_length_le hib] at e1
    have e2 := add_eq (nth cur i) 0 c
    rw [nth_drop h.rest] at e2 ⊢
    rw [Nat.pow_succ]
    grind

/-- What 'addTo' leaves. -/
structure Added (a b cur : List Nat) (c : Nat) : Prop where
  len : cur.length = a.length
  wd : Wd B64 cur
  carry : c ≤ 1
  eq : val B64 cur + c * B64 ^ a.length = val B64 a + val B64 b

theorem AddInv.done {a b cur : List Nat} {i c : Nat} (h : AddInv a b i cur c) (hi : b.length ≤ i) (hia : i ≤ a.length) (hd : ¬ i < a.length ∨ c = 0) : Added a b cur c := by
  refine ⟨h.len, h.wd, h.carry, ?_⟩
  have e := h.eq
  rw [List.take_of_length_le hi] at e
  rcases hd with hd | rfl
  · have : i = a.length := by omega
    subst this
    rw [List.take_of_length_le (by rw [h.len]; omega), List.take_of_length_le (by omega)] at e
    exact e
  · rw [take_drop_val B64 cur i (by rw [h.len]; exact hia), take_drop_val B64 a i hia, h.rest]
    omega
/-- What holds of 'subtractFrom' behind i words. -/
structure SubInv (a b : List Nat) (i : Nat) (cur : List Nat) (c : Nat) : Prop where
  len : cur.length = a.length
  wd : Wd B64 cur
  carry : c ≤ 1
  rest : cur.drop i = a.drop i
  eq : val B64 (cur.take i) + val B64 (b.take i) = val B64 (a.take i) + c * B64 ^ i

theorem SubInv.start {a : List Nat} (b : List Nat) (h : Wd B64 a) : SubInv a b 0 a 0 := ⟨rfl, h, by omega, rfl, by simp [val]⟩

theorem SubInv.step {a b cur : List Nat} {i c : Nat} (h : SubInv a b i cur c) (hi : i < a.length) (hib : i < b.length) (hb : Wd B64 b) :
    SubInv a b (i + 1) (cur.set i (subLo (nth cur i) (nth b i) c)) (subHi (nth cur i) (nth b i) c) := by
  have hic : i < cur.length := by rw [h.len]; exact hi
  refine ⟨by rw [List.length_set, h.len], h.wd.set (subLo_lt _ _ _), subHi_le _ _ _, ?_, ?_⟩
  · rw [drop_set_succ, drop_succ_of h.rest]
  · rw [set_take_val B64 cur i _ hic, take_val_nth B64 a i hi, take_val_nth B64 b i hib]
    have e1 := h.eq
    have e2 := sub_eq (h.wd.nth hic) (hb.nth hib) h.carry
    rw [nth_drop h.rest] at e2 ⊢
    rw [Nat.pow_succ]
    grind

/-- Behind the words of b: the carry runs on. -/
theorem SubInv.step0 {a b cur : List Nat} {i c : Nat} (h : SubInv a b i cur c) (hi : i < a.length) (hib : b.length ≤ i) :
    SubInv a b (i + 1) (cur.set i (subLo (nth cur i) 0 c)) (subHi (nth cur i) 0 c) := by
  have hic : i < cur.length := by rw [h.len]; exact hi
  refine ⟨by rw [List.length_set, h.len], h.wd.set (subLo_lt _ _ _), subHi_le _ _ _, ?_, ?_⟩
  · rw [drop_set_succ, drop_succ_of h.rest]
  · rw [set_take_val B64 cur i _ hic, take_val_nth B64 a i hi, List.take_of_length_le (i := i + 1) (by omega)]
    have e1 := h.eq
    rw [List.take_of_length_le hib] at e1
    have e2 := sub_eq (y := 0) (h.wd.nth hic) (by omega) h.carry
    rw [nth_drop h.rest] at e2 ⊢
    rw [Nat.pow_succ]
    grind

/-- What 'subtractFrom' leaves. -/
structure Subbed (a b cur : List Nat) (c : Nat) : Prop where
  len : cur.length = a.length
  wd : Wd B64 cur
  carry : c ≤ 1
  eq : val B64 cur + val B64 b = val B64 a + c * B64 ^ a.length

theorem SubInv.done {a b cur : List Nat} {i c : Nat} (h : SubInv a b i cur c) (hi : b.length ≤ i) (hia : i ≤ a.length) (hd : ¬ i < a.length ∨ c = 0) : Subbed a b cur c := by
  refine ⟨h.len, h.wd, h.carry, ?_⟩
  have e := h.eq
  rw [List.take_of_length_le hi] at e
  rcases hd with hd | rfl
  · have : i = a.length := by omega
    subst this
    rw [List.take_of_length_le (by rw [h.len]; omega), List.take_of_length_le (by omega)] at e
    exact e
  · rw [take_drop_val B64 cur i (by rw [h.len]; exact hia), take_drop_val B64 a i hia, h.rest]
    omega
end Go.Big
namespace Go.Big
/-- How many of the first k words are left when the leading zeros are gone. -/
def tl (l : List Nat) : Nat → Nat
  | 0 => 0
  | k + 1 => if nth l k = 0 then tl l k else k + 1
theorem tl_le (l : List Nat) : ∀ k, tl l k ≤ k
  | 0 => Nat.le_refl _
  | k + 1 => by
    unfold tl
    split
    · have := tl_le l k; omega
    · exact Nat.le_refl _
theorem tl_val (B : Nat) (l : List Nat) : ∀ k, k ≤ l.length → val B (l.take (tl l k)) = val B (l.take k)
  | 0, _ => rfl
  | k + 1, h => by
    unfold tl
    split
    · rename_i hz
      rw [tl_val B l k (by omega), val_take_of_zero (by omega) hz]
    · rfl
theorem tl_Nz (l : List Nat) : ∀ k, k ≤ l.length → Nz (l.take (tl l k))
  | 0, _ => by simp [tl, Nz]
  | k + 1, h => by
    unfold tl
    split
    · exact tl_Nz l k (by omega)
    · rename_i hz
      exact Nz_of_nth (fun _ => by rw [List.length_take, Nat.min_eq_left h]; simp only [Nat.add_sub_cancel]; rw [nth_take (by omega)]; exact hz)
end Go.Big
namespace Go.Proofs.YtekghemhccfhkaaGreatDoor
open Go.RowKit Go.Big
def TrimPost (w : World) (ao : Option Addr) (cap : Nat) (l : List Nat) (e : Ending) (w' : World) : Prop :=
  ∃ n, n ≤ l.length ∧ e = .returned (.slice ao n cap) ∧ w' = w ∧ Nz (l.take n) ∧ ∀ B, val B (l.take n) = val B l

set_option maxRecDepth 100000 in
set_option maxHeartbeats 400000 in
theorem trim_det (ao : Option Addr) (cap : Nat) (l : List Nat) (w : World) (h : SlA w .u64 ao cap l) :
    Calls Tryz.prog 174 #[.slice ao l.length cap] w fun e w' => e = .returned (.slice ao (tl l l.length) cap) ∧ w' = w := by
  have hle := h.le
  have hmax := h.max
  go_enter Tryz.func174, Tryz.ntmps174
  go_wp2
  go_loop [0] (fun v => ∃ k : Nat, k ≤ l.length ∧ v = .slice ao k cap ∧ tl l k = tl l l.length) (fun v => match v with | .slice _ n _ => n | _ => 0)
  case atStart => exact ⟨l.length, Nat.le_refl _, rfl, rfl⟩
  case round =>
    obtain ⟨k, hk, rfl, hv⟩ := hrel
    have HV := Lib.hid hv
    clear hv
    rcases Nat.eq_zero_or_pos k with hk0 | hpos
    · subst hk0
      clear h
      go_wp2_with fail
      go_ret
      exact ⟨by rw [← HV.out]; rfl, rfl⟩
    · obtain ⟨m, rfl⟩ : ∃ m, k = m + 1 := ⟨k - 1, by omega⟩
      obtain ⟨b, off, rfl, _, hc⟩ := h.at (i := m) (by omega)
      have hcm := hc m (by omega)
      have H := Lib.hid h
      clear h hc hpos
      by_cases hz : nth l m = 0
      · have hT : Hid (tl l (m + 1) = tl l m) := by show tl l (m + 1) = tl l m; simp [tl, hz]
        rw [hz] at hcm
        clear hz
        go_wp2_with fail
        go_round
        case rel => exact ⟨m, by omega, by go_num, by rw [← HV.out, hT.out]⟩
        case measure => simp
      · have hz' : ((nth l m : Int) == 0) = false := by rw [beq_eq_false_iff_ne]; omega
        have hT : Hid (tl l (m + 1) = m + 1) := by show tl l (m + 1) = m + 1; simp [tl, hz]
        clear hz
        go_wp2_with fail
        go_ret
        exact ⟨by rw [← HV.out, hT.out]; rfl, rfl⟩
theorem trim_any (ao : Option Addr) (cap : Nat) (l : List Nat) (w : World) (h : SlA w .u64 ao cap l) :
    Calls Tryz.prog 174 #[.slice ao l.length cap] w (TrimPost w ao cap l) := by
  refine (trim_det ao cap l w h).mono ?_
  rintro e w' ⟨rfl, rfl⟩
  exact ⟨_, tl_le _ _, rfl, rfl, tl_Nz _ _ (Nat.le_refl _), fun B => by rw [tl_val B l _ (Nat.le_refl _), List.take_length]⟩
end Go.Proofs.YtekghemhccfhkaaGreatDoor
