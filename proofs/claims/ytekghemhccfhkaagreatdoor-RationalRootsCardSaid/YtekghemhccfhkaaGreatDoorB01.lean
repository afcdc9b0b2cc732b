/-
  Walks of the program's functions: Base, Val, Sl, Mk, Ops, Dec.
-/
import Derived.Test.YtekghemhccfhkaaGreatDoorRows
import Derived.WalkKit
import Derived.WalkSpells
import Derived.WalkLawsBesides
import Derived.Lib.Hide
import Derived.Laws.IdiomCopy
import Derived.Laws.CopyRow
import Derived.Laws.MakeOwn
import Derived.Lib.ItoaNum
namespace Go.Big
open Go Go.RowKit

def nth (l : List Nat) (i : Nat) : Nat := l.getD i 0
theorem nth_lt {l : List Nat} {i : Nat} (h : i < l.length) : nth l i = l[i] := by simp [nth, h]
def cellsOf (k : IntKind) (l : List Nat) : Array Value := (l.map fun (n : Nat) => Value.int k (Int.ofNat n)).toArray
def wput (w : World) (g : Nat) (k : IntKind) (l : List Nat) : World := w.setRow g (cellsOf k l)
def isRow (w : World) (g : Nat) (t : TypeId) (k : IntKind) (l : List Nat) : Prop := w.heap[g]? = some (.cells (cellsOf k l) t (0, 0))

theorem cellsOf_get {k : IntKind} {l : List Nat} {i : Nat} (h : i < l.length) : (cellsOf k l)[i]? = some (.int k (nth l i)) := by
  simp [cellsOf, h, nth]
theorem cellsOf_set (k : IntKind) (l : List Nat) (i x : Nat) : (cellsOf k l).setIfInBounds i (.int k (x : Int)) = cellsOf k (l.set i x) := by
  simp [cellsOf, List.map_set]

theorem isRow.lt {w : World} {g : Nat} {t : TypeId} {k : IntKind} {l : List Nat} (h : isRow w g t k l) : g < w.heap.size := (Array.getElem?_eq_some_iff.1 h).1
theorem isRow.cell {w : World} {g : Nat} {t : TypeId} {k : IntKind} {l : List Nat} (h : isRow w g t k l) {i : Nat} (hi : i < l.length) : w.cell? ⟨g, i, none⟩ = some (.int k (nth l i)) := by
  unfold isRow at h
  simp [World.cell?, h, cellsOf_get hi]
theorem isRow.frozen {w : World} {g : Nat} {t : TypeId} {k : IntKind} {l : List Nat} (h : isRow w g t k l) (i : Nat) : w.frozen? ⟨g, i, none⟩ = false := by
  unfold isRow at h
  simp [World.frozen?, h]
theorem isRow.put {w : World} {g : Nat} {t : TypeId} {k : IntKind} {l : List Nat} (h : isRow w g t k l) (l' : List Nat) : isRow (wput w g k l') g t k l' :=
  setRow_heap w g _ _ t (0, 0) h
theorem put_other (w : World) {g : Nat} (k : IntKind) (l : List Nat) {a : Addr} (h : a.block ≠ g) : (wput w g k l).cell? a = w.cell? a := cell_setRow_other w g _ a h
theorem put_put (w : World) (g : Nat) (k : IntKind) (l l' : List Nat) : wput (wput w g k l) g k l' = wput w g k l' := setRow_setRow w g _ _
theorem put_self {w : World} {g : Nat} {t : TypeId} {k : IntKind} {l : List Nat} (h : isRow w g t k l) : wput w g k l = w := setRow_self w g _ t (0, 0) h
theorem isRow.store {w : World} {g : Nat} {t : TypeId} {k : IntKind} {l : List Nat} (h : isRow w g t k l) (i x : Nat) :
    w.setCell ⟨g, i, none⟩ (.int k (x : Int)) = wput w g k (l.set i x) := by
  rw [setCell_eq_setRow w g i _ t (0, 0) _ h, cellsOf_set]; rfl
theorem put_store {w : World} {g : Nat} {t : TypeId} {k : IntKind} {l : List Nat} (h : isRow w g t k l) (l' : List Nat) (i x : Nat) :
    (wput w g k l').setCell ⟨g, i, none⟩ (.int k (x : Int)) = wput w g k (l'.set i x) := by
  rw [(h.put l').store, put_put]
theorem put_size (w : World) (g : Nat) (k : IntKind) (l : List Nat) : (wput w g k l).heap.size = w.heap.size := setRow_size _ _ _

def addLo (x y c : Nat) : Nat := (x + y + c) % 18446744073709551616
def addHi (x y c : Nat) : Nat := (x + y + c) / 18446744073709551616
end Go.Big
namespace Go.Proofs.YtekghemhccfhkaaGreatDoor
open Go.RowKit Go.Big
theorem run_add (x y c : Nat) (hc : c ≤ 1) (w : World) :
    (callFunc 222 #[.int .u64 x, .int .u64 y, .int .u64 c]).run Tryz.prog w =
      .ok (.value (.tuple #[.int .u64 (addLo x y c), .int .u64 (addHi x y c)])) w := by
  rw [run_callFunc_extern Tryz.func222 (by kernel_rfl) (by kernel_rfl) (by kernel_rfl) (e := add64Entry) (by kernel_rfl), run_add64 x y c (by omega) (by omega) (by omega) (by omega)]
  simp only [Result.andThen, addLo, addHi]
  congr 5 <;> omega
end Go.Proofs.YtekghemhccfhkaaGreatDoor
namespace Go.Big

/-- The value of words in base `B`, least significant first. -/
def val (B : Nat) : List Nat → Nat
  | [] => 0
  | x :: l => x + B * val B l

/-- All words are below the base. -/
def Wd (B : Nat) (l : List Nat) : Prop := ∀ x ∈ l, x < B

/-- No leading zero word. -/
def Nz (l : List Nat) : Prop := l.getLast? ≠ some 0

theorem val_nil (B : Nat) : val B [] = 0 := rfl
theorem val_cons (B x : Nat) (l : List Nat) : val B (x :: l) = x + B * val B l := rfl

theorem val_append (B : Nat) (a b : List Nat) : val B (a ++ b) = val B a + B ^ a.length * val B b := by
  induction a with
  | nil => simp [val]
  | cons x a ih => simp only [List.cons_append, val, ih, List.length_cons]; grind

theorem val_lt {B : Nat} {l : List Nat} (h : Wd B l) : val B l < B ^ l.length := by
  induction l with
  | nil => simp [val]
  | cons x l ih =>
    have hx := h x (by simp)
    have hl := ih (fun y hy => h y (by simp [hy]))
    simp only [val, List.length_cons, Nat.pow_succ]
    have : B * (val B l + 1) ≤ B * B ^ l.length := Nat.mul_le_mul_left _ hl
    rw [Nat.mul_comm (B ^ l.length)]
    rw [Nat.mul_add, Nat.mul_one] at this
    omega

theorem take_drop_val (B : Nat) (l : List Nat) (k : Nat) (h : k ≤ l.length) : val B l = val B (l.take k) + B ^ k * val B (l.drop k) := by
  conv => lhs; rw [← List.take_append_drop k l]
  rw [val_append, List.length_take, Nat.min_eq_left h]

theorem take_succ_val (B : Nat) (l : List Nat) (i : Nat) (h : i < l.length) : val B (l.take (i + 1)) = val B (l.take i) + B ^ i * l[i] := by
  rw [List.take_succ_eq_append_getElem h, val_append]
  simp [val, List.length_take, Nat.min_eq_left (Nat.le_of_lt h)]

theorem set_take_val (B : Nat) (l : List Nat) (i x : Nat) (h : i < l.length) : val B ((l.set i x).take (i + 1)) = val B (l.take i) + B ^ i * x := by
  rw [take_succ_val B _ i (by simpa using h), List.take_set_of_le (Nat.le_refl i)]
  simp

theorem drop_val (B : Nat) (l : List Nat) (i : Nat) (h : i < l.length) : val B (l.drop i) = l[i] + B * val B (l.drop (i + 1)) := by
  rw [List.drop_eq_getElem_cons h]; rfl

theorem Wd.set {B : Nat} {l : List Nat} (h : Wd B l) {i x : Nat} (hx : x < B) : Wd B (l.set i x) := by
  intro y hy
  rcases List.mem_or_eq_of_mem_set hy with h1 | h1
  · exact h y h1
  · exact h1 ▸ hx

theorem Wd.take {B : Nat} {l : List Nat} (h : Wd B l) (i : Nat) : Wd B (l.take i) := fun y hy => h y (List.mem_of_mem_take hy)
theorem Wd.drop {B : Nat} {l : List Nat} (h : Wd B l) (i : Nat) : Wd B (l.drop i) := fun y hy => h y (List.mem_of_mem_drop hy)
theorem Wd.append {B : Nat} {a b : List Nat} (h : Wd B a) (k : Wd B b) : Wd B (a ++ b) := by
  intro y hy
  rcases List.mem_append.1 hy with h1 | h1
  · exact h y h1
  · exact k y h1
theorem Wd.get {B : Nat} {l : List Nat} (h : Wd B l) {i : Nat} (hi : i < l.length) : l[i] < B := h _ (List.getElem_mem hi)
theorem Wd.replicate {B n : Nat} (hB : 0 < B) : Wd B (List.replicate n 0) := by
  intro y hy; rw [List.eq_of_mem_replicate hy]; exact hB
theorem val_replicate (B n : Nat) : val B (List.replicate n 0) = 0 := by
  induction n with
  | zero => rfl
  | succ n ih => rw [List.replicate_succ, val_cons, ih]; simp

/-- A number without a leading zero is at least the power of its last place. -/
theorem val_ge {B : Nat} {l : List Nat} (hn : Nz l) (hl : l ≠ []) : B ^ (l.length - 1) ≤ val B l := by
  have h := take_drop_val B l (l.length - 1) (by omega)
  have hlen : 0 < l.length := List.length_pos_iff.2 hl
  rw [drop_val B l (l.length - 1) (by omega)] at h
  have hz : l[l.length - 1] ≠ 0 := by
    intro h0
    apply hn
    rw [List.getLast?_eq_getElem?, List.getElem?_eq_getElem (by omega), h0]
  have : B ^ (l.length - 1) * 1 ≤ B ^ (l.length - 1) * (l[l.length - 1] + B * val B (List.drop (l.length - 1 + 1) l)) :=
    Nat.mul_le_mul_left _ (by omega)
  omega

theorem Nz_nil : Nz [] := by simp [Nz]

theorem val_zero_iff {B : Nat} {l : List Nat} (hB : 0 < B) (hn : Nz l) : val B l = 0 ↔ l = [] := by
  constructor
  · intro h
    rcases List.eq_nil_or_concat l with h1 | ⟨_, _, h1⟩
    · exact h1
    · have hne : l ≠ [] := by rw [h1]; simp
      have := val_ge (B := B) hn hne
      have h2 : 0 < B ^ (l.length - 1) := Nat.pow_pos hB
      omega
  · rintro rfl; rfl

/-- The order of numbers without leading zeros, by their lengths. -/
theorem val_lt_of_len {B : Nat} (hB : 1 < B) {a b : List Nat} (ha : Wd B a) (hb : Nz b) (h : a.length < b.length) : val B a < val B b := by
  have h1 := val_lt ha
  have h2 := val_ge (B := B) hb (by intro h0; simp [h0] at h)
  have h3 : B ^ a.length ≤ B ^ (b.length - 1) := Nat.pow_le_pow_right (by omega) (by omega)
  omega

theorem val_inj {B : Nat} (hB : 1 < B) : ∀ {a b : List Nat}, Wd B a → Wd B b → a.length = b.length → val B a = val B b → a = b
  | [], [], _, _, _, _ => rfl
  | [], _ :: _, _, _, h, _ => by simp at h
  | _ :: _, [], _, _, h, _ => by simp at h
  | x :: a, y :: b, ha, hb, h, hv => by
    have hx := ha x (by simp)
    have hy := hb y (by simp)
    simp only [val_cons] at hv
    have e1 : (x + B * val B a) % B = x := by rw [Nat.add_mul_mod_self_left]; exact Nat.mod_eq_of_lt hx
    have e2 : (y + B * val B b) % B = y := by rw [Nat.add_mul_mod_self_left]; exact Nat.mod_eq_of_lt hy
    have hxy : x = y := by rw [← e1, ← e2, hv]
    subst hxy
    have hab : val B a = val B b := by
      have : B * val B a = B * val B b := by omega
      exact Nat.eq_of_mul_eq_mul_left (by omega) this
    rw [val_inj hB (fun z hz => ha z (by simp [hz])) (fun z hz => hb z (by simp [hz])) (by simpa using h) hab]

/-- Numbers without leading zeros have one list of words each. -/
theorem norm_inj {B : Nat} (hB : 1 < B) {a b : List Nat} (ha : Wd B a) (hb : Wd B b) (na : Nz a) (nb : Nz b) (h : val B a = val B b) : a = b := by
  refine val_inj hB ha hb ?_ h
  rcases Nat.lt_trichotomy a.length b.length with h1 | h1 | h1
  · have := val_lt_of_len hB ha nb h1; omega
  · exact h1
  · have := val_lt_of_len hB hb na h1; omega

/-- Comparing from the top: the words behind i agree, and those at i decide. -/
theorem val_cmp {B : Nat} {a b : List Nat} (ha : Wd B a) (hl : a.length = b.length) {i : Nat} (hi : i < a.length)
    (hd : a.drop (i + 1) = b.drop (i + 1)) (hlt : a[i] < b[i]'(hl ▸ hi)) : val B a < val B b := by
  have hib : i < b.length := hl ▸ hi
  rw [take_drop_val B a i (by omega), take_drop_val B b i (by omega), drop_val B a i hi, drop_val B b i hib, hd]
  have h1 := val_lt (ha.take i)
  rw [List.length_take, Nat.min_eq_left (by omega)] at h1
  have h2 : B ^ i * (a[i] + 1 + B * val B (List.drop (i + 1) b)) ≤ B ^ i * (b[i] + B * val B (List.drop (i + 1) b)) := Nat.mul_le_mul_left _ (by omega)
  have h3 : B ^ i * (a[i] + 1 + B * val B (List.drop (i + 1) b)) = B ^ i * (a[i] + B * val B (List.drop (i + 1) b)) + B ^ i := by grind
  omega

end Go.Big
namespace Go.Big
open Go Go.RowKit

abbrev B64 : Nat := 18446744073709551616
abbrev B32 : Nat := 4294967296

theorem nth_take {l : List Nat} {i n : Nat} (h : i < n) : nth (l.take n) i = nth l i := by
  simp [nth, h]
theorem nth_drop' (l : List Nat) (i n : Nat) : nth (l.drop n) i = nth l (n + i) := by simp [nth]
theorem take_val_nth (B : Nat) (l : List Nat) (i : Nat) (h : i < l.length) : val B (l.take (i + 1)) = val B (l.take i) + B ^ i * nth l i := by
  rw [take_succ_val B l i h, nth_lt h]
theorem drop_val_nth (B : Nat) (l : List Nat) (i : Nat) (h : i < l.length) : val B (l.drop i) = nth l i + B * val B (l.drop (i + 1)) := by
  rw [drop_val B l i h, nth_lt h]
theorem nth_drop {l l' : List Nat} {i : Nat} (h : l.drop i = l'.drop i) : nth l i = nth l' i := by
  have := congrArg (fun l : List Nat => l.getD 0 0) h
  simpa [nth] using this
theorem drop_set_succ {l : List Nat} {i x : Nat} : (l.set i x).drop (i + 1) = l.drop (i + 1) := by
  rw [List.drop_set_of_lt (by omega)]
theorem drop_succ_of {l l' : List Nat} {i : Nat} (h : l.drop i = l'.drop i) : l.drop (i + 1) = l'.drop (i + 1) := by
  rw [← List.drop_drop, ← List.drop_drop, h]
theorem nth_set_self {l : List Nat} {i x : Nat} (h : i < l.length) : nth (l.set i x) i = x := by simp [nth, h]
theorem nth_set_ne {l : List Nat} {i j x : Nat} (h : i ≠ j) : nth (l.set i x) j = nth l j := by simp [nth, List.getElem?_set_ne h]
theorem Wd.nth {B : Nat} {l : List Nat} (h : Wd B l) {i : Nat} (hi : i < l.length) : nth l i < B := by rw [nth_lt hi]; exact h.get hi
theorem Wd.nth' {B : Nat} {l : List Nat} (h : Wd B l) (hB : 0 < B) (i : Nat) : Big.nth l i < B := by
  by_cases hi : i < l.length
  · exact h.nth hi
  · simp [Big.nth, List.getElem?_eq_none (Nat.not_lt.1 hi), hB]
theorem set_mid (pre cur post : List Nat) (i x : Nat) (h : i < cur.length) : (pre ++ (cur ++ post)).set (pre.length + i) x = pre ++ (cur.set i x ++ post) := by
  rw [List.set_append_right _ _ (by omega), Nat.add_sub_cancel_left, List.set_append_left _ _ h]
theorem nth_mid (pre cur post : List Nat) (i : Nat) (h : i < cur.length) : nth (pre ++ (cur ++ post)) (pre.length + i) = nth cur i := by
  unfold nth
  rw [List.getD_eq_getElem?_getD, List.getD_eq_getElem?_getD, List.getElem?_append_right (by omega), Nat.add_sub_cancel_left, List.getElem?_append_left h]
theorem Nz_of_nth {l : List Nat} (h : l ≠ [] → nth l (l.length - 1) ≠ 0) : Nz l := by
  unfold Nz
  rcases List.eq_nil_or_concat l with rfl | ⟨m, x, rfl⟩
  · simp
  · have := h (by simp)
    simpa [nth] using this
theorem nth_of_Nz {l : List Nat} (h : Nz l) (hl : l ≠ []) : nth l (l.length - 1) ≠ 0 := by
  rcases List.eq_nil_or_concat l with rfl | ⟨m, x, rfl⟩
  · simp at hl
  · simp [Nz] at h
    simpa [nth] using h

/-- A slice of integers that can be read: at most 2^40 of them. -/
structure SlA (w : World) (k : IntKind) (ao : Option Addr) (cap : Nat) (l : List Nat) : Prop where
  le : l.length ≤ cap
  max : l.length ≤ 1099511627776
  cells : l ≠ [] → ∃ b off, ao = some ⟨b, off, none⟩ ∧ b < w.heap.size ∧ ∀ j, j < l.length → w.cell? ⟨b, off + j, none⟩ = some (.int k (nth l j))

theorem SlA.below {w w' : World} {k : IntKind} {ao : Option Addr} {cap : Nat} {l : List Nat} (h : SlA w k ao cap l) (hb : Below w.heap.size w w') : SlA w' k ao cap l :=
  ⟨h.le, h.max, fun hl => by
    obtain ⟨b, off, e, hlt, hc⟩ := h.cells hl
    exact ⟨b, off, e, Nat.lt_of_lt_of_le hlt hb.size, fun j hj => by rw [hb.cell (p := ⟨b, off + j, none⟩) hlt]; exact hc j hj⟩⟩
theorem SlA.nil (w : World) (k : IntKind) (ao : Option Addr) (cap : Nat) : SlA w k ao cap [] := ⟨Nat.zero_le _, by decide, fun h => absurd rfl h⟩
theorem SlA.take {w : World} {k : IntKind} {ao : Option Addr} {cap : Nat} {l : List Nat} (h : SlA w k ao cap l) (n : Nat) : SlA w k ao cap (l.take n) := by
  refine ⟨by have := h.le; rw [List.length_take]; omega, by have := h.max; rw [List.length_take]; omega, fun hl => ?_⟩
  obtain ⟨b, off, e, hlt, hc⟩ := h.cells (by intro e; simp [e] at hl)
  refine ⟨b, off, e, hlt, fun j hj => ?_⟩
  simp only [List.length_take] at hj
  rw [hc j (by omega), nth_take (by omega)]
theorem SlA.at {w : World} {k : IntKind} {ao : Option Addr} {cap : Nat} {l : List Nat} (h : SlA w k ao cap l) {i : Nat} (hi : i < l.length) :
    ∃ b off, ao = some ⟨b, off, none⟩ ∧ b < w.heap.size ∧ ∀ j, j < l.length → w.cell? ⟨b, off + j, none⟩ = some (.int k (nth l j)) :=
  h.cells (by intro e; simp [e] at hi)
theorem SlA.len_le {w : World} {k : IntKind} {ao : Option Addr} {cap : Nat} {l : List Nat} (h : SlA w k ao cap l) : l.length ≤ 1099511627776 := h.max

/-- The slice value v denotes the number n: words in base B without a leading zero. -/
def NatV (w : World) (k : IntKind) (B : Nat) (v : Value) (n : Nat) : Prop :=
  ∃ ao cap l, v = .slice ao l.length cap ∧ SlA w k ao cap l ∧ Wd B l ∧ Nz l ∧ val B l = n
theorem NatV.below {w w' : World} {k : IntKind} {B : Nat} {v : Value} {n : Nat} (h : NatV w k B v n) (hb : Below w.heap.size w w') : NatV w' k B v n := by
  obtain ⟨ao, cap, l, e, hs, r⟩ := h
  exact ⟨ao, cap, l, e, hs.below hb, r⟩
/-- A slice whose words reach no further than n. -/
theorem NatV.mk {w : World} {k : IntKind} {B : Nat} {ao : Option Addr} {cap n : Nat} {l : List Nat} (hs : SlA w k ao cap l) (hw : Wd B l) (hn : n ≤ l.length) (hz : Nz (l.take n)) :
    NatV w k B (.slice ao n cap) (val B (l.take n)) := by
  refine ⟨ao, cap, l.take n, ?_, hs.take n, hw.take n, hz, rfl⟩
  rw [List.length_take, Nat.min_eq_left hn]

theorem val_take_of_zero {B : Nat} {l : List Nat} {m : Nat} (hm : m < l.length) (hz : nth l m = 0) : val B (l.take m) = val B (l.take (m + 1)) := by
  rw [take_val_nth B l m hm, hz]; simp
theorem val_of_zero {B : Nat} {l : List Nat} (h : ∀ j, nth l j = 0) : val B l = 0 := by
  induction l with
  | nil => rfl
  | cons x l ih =>
    have h0 : x = 0 := by simpa [nth] using h 0
    have h1 : ∀ j, nth l j = 0 := fun j => by simpa [nth] using h (j + 1)
    rw [val_cons, ih h1, h0]; simp
end Go.Big
namespace Go.Big
open Go Go.RowKit
variable {P : Program}

theorem _root_.Go.RowKit.Below.put {B : Nat} {a w : World} (h : Below B a w) {g : Nat} (hg : B ≤ g) (k : IntKind) (l : List Nat) : Below B a (wput w g k l) :=
  h.trans ⟨rfl, rfl, rfl, by rw [put_size]; exact Nat.le_refl _, fun j hj => setRow_other w g j _ (by omega)⟩
theorem isRow.seg {w : World} {g : Nat} {t : TypeId} {k : IntKind} {pre seg post : List Nat} (h : isRow w g t k (pre ++ (seg ++ post))) {cap : Nat} (h1 : seg.length ≤ cap) (h2 : seg.length ≤ 1099511627776) :
    SlA w k (some ⟨g, pre.length, none⟩) cap seg :=
  ⟨h1, h2, fun _ => ⟨g, pre.length, rfl, h.lt, fun j hj => by rw [h.cell (by simp; omega), nth_mid _ _ _ _ hj]⟩⟩
theorem isRow.sl {w : World} {g : Nat} {t : TypeId} {k : IntKind} {l : List Nat} (h : isRow w g t k l) {cap : Nat} (h1 : l.length ≤ cap) (h2 : l.length ≤ 1099511627776) :
    SlA w k (some ⟨g, 0, none⟩) cap l := by
  have := isRow.seg (pre := []) (post := []) (by simpa using h) h1 h2
  simpa using this
theorem isRow.storeRow {w : World} {g : Nat} {t : TypeId} {k : IntKind} {l : List Nat} (h : isRow w g t k l) (i x : Nat) : isRow (w.setCell ⟨g, i, none⟩ (.int k (x : Int))) g t k (l.set i x) := by
  rw [h.store]; exact h.put _
theorem isRow.drewN {w : World} {g : Nat} {t : TypeId} {k : IntKind} {l : List Nat} (h : isRow w g t k l) (n : Nat) : isRow (w.drewN n) g t k l := h
theorem isRow.store2 {w : World} {g : Nat} {t : TypeId} {k : IntKind} {l : List Nat} (h : isRow w g t k l) (i x j y : Nat) : isRow ((w.setCell ⟨g, i, none⟩ (.int k (x : Int))).setCell ⟨g, j, none⟩ (.int k (y : Int))).drew g t k ((l.set i x).set j y) :=
  (h.storeRow i x).storeRow j y
theorem isRow.below {w w' : World} {g : Nat} {t : TypeId} {k : IntKind} {l : List Nat} (h : isRow w g t k l) (hb : Below w.heap.size w w') : isRow w' g t k l := by
  unfold isRow at *
  rw [hb.block g (Array.getElem?_eq_some_iff.1 h).1, h]
theorem isRow.other {w : World} {g g' : Nat} {t : TypeId} {k k' : IntKind} {l : List Nat} (h : isRow w g t k l) (hne : g ≠ g') (l' : List Nat) : isRow (wput w g' k' l') g t k l := by
  unfold isRow at *
  unfold wput
  rw [setRow_other w g' g _ hne, h]
theorem isRow.otherCell {w : World} {g : Nat} {t : TypeId} {k : IntKind} {l : List Nat} (h : isRow w g t k l) {p : Addr} (hne : g ≠ p.block) (v : Value) : isRow (w.setCell p v) g t k l := by
  unfold isRow at *
  rw [Below.heap_setCell w p v g hne, h]
theorem isRow_alloc (w : World) (t : TypeId) (k : IntKind) (l : List Nat) : isRow (w.alloc (.cells (cellsOf k l) t)) w.heap.size t k l := heap_alloc_new w _

def zeros (n : Nat) : List Nat := List.replicate n 0
theorem zeros_len (n : Nat) : (zeros n).length = n := by simp [zeros]
theorem zeros_wd {B : Nat} (hB : 0 < B) (n : Nat) : Wd B (zeros n) := Wd.replicate hB
theorem zeros_val (B n : Nat) : val B (zeros n) = 0 := val_replicate B n
theorem zeros_drop (n k : Nat) : (zeros n).drop k = zeros (n - k) := by simp [zeros]
theorem zeros_nth (n i : Nat) : nth (zeros n) i = 0 := by
  unfold zeros nth
  rw [List.getD_eq_getElem?_getD, List.getElem?_replicate]; split <;> rfl
theorem cells_zero (k : IntKind) (n : Nat) : madeCells (Value.int k 0).cells n = cellsOf k (zeros n) := by
  apply Array.ext
  · simp [madeCells, cellsOf, zeros]
  · intro i h1 h2
    have e : i % 1 = 0 := Nat.mod_one i
    simp [madeCells, cellsOf, Value.cells, e, zeros]

/-- 'make([]T, n)' of an integer type. -/
theorem run_mk (t e : TypeId) (k : IntKind) (ht : P.underlying t = some (.slice e)) (bytes : Nat) (hi : (P.info? e).map (fun i => (i.zero, i.size, i.bytes)) = some (some (.int k 0), 1, bytes)) (hby : bytes ≤ 8)
    (x : Int) (n : Nat) (hx : x = n) (hn : n ≤ 1099511627776) (w : World) :
    (Instr.makeSlice t (.int .i64 x) (.int .i64 x)).run P w = .ok (.slice (some ⟨w.heap.size, 0, none⟩) n n) (w.alloc (.cells (cellsOf k (zeros n)) e)) := by
  subst hx
  obtain ⟨i, hi', hi⟩ : ∃ i, P.info? e = some i ∧ (i.zero, i.size, i.bytes) = (some (.int k 0), 1, bytes) := by
    cases hq : P.info? e with
    | none => rw [hq] at hi; cases hi
    | some i => rw [hq] at hi; exact ⟨i, rfl, by simpa using hi⟩
  simp only [Prod.mk.injEq] at hi
  have hb : i.bytes ≤ 8 := by omega
  have hbytes : (i.bytes : Int) * (n : Int) ≤ 281474976710656 := by
    have h1 : i.bytes * n ≤ 8 * 1099511627776 := Nat.mul_le_mul hb hn
    have h2 : ((i.bytes * n : Nat) : Int) ≤ 281474976710656 := by omega
    rwa [Int.natCast_mul] at h2
  have := run_make (P := P) w t e i (.int k 0) ht hi' hi.1 .i64 .i64 n n (by omega) (Int.le_refl _) hbytes (by omega)
  rw [this, hi.2.1]
  simp only [Int.toNat_natCast, Nat.mul_one, cells_zero]

theorem list_splice (L l : List Nat) (off : Nat) (k : IntKind) :
    ((cellsOf k L).toList.take off ++ (l.map fun (n : Nat) => Value.int k (Int.ofNat n)) ++ (cellsOf k L).toList.drop (off + (l.map fun (n : Nat) => Value.int k (Int.ofNat n)).length)).toArray =
      cellsOf k (L.take off ++ (l ++ L.drop (off + l.length))) := by
  simp [cellsOf, List.map_take, List.map_drop]

/-- 'copy(d, s)': into a row of the call's own. -/
theorem run_copy (dT sT ty elem : TypeId) (hu : P.underlying dT = some (.slice elem)) (hs : (P.info? elem).map (·.size) = some 1)
    {w : World} {g : Nat} {t : TypeId} {k : IntKind} {L l : List Nat} {off dLen dCap cap : Nat} {so : Option Addr} (hg : isRow w g t k L) (hl : SlA w k so cap l) (h1 : l.length ≤ dLen) (h2 : off + dLen ≤ L.length) :
    (Builtin.copy_ #[dT, sT] ty #[.slice (some ⟨g, off, none⟩) dLen dCap, .slice so l.length cap]).run P w = .ok (goInt l.length) (wput w g k (L.take off ++ (l ++ L.drop (off + l.length)))) := by
  rcases Nat.eq_zero_or_pos l.length with h0 | hpos
  · have : l = [] := List.eq_nil_of_length_eq_zero h0
    subst this
    rw [run_copy_none w dT sT ty elem _ _ _ _ _ _ hu hs (by simp)]
    simp only [List.length_nil, Nat.add_zero, List.nil_append, List.take_append_drop, put_self hg]; rfl
  · obtain ⟨b, o, rfl, _, hc⟩ := hl.at hpos
    have := run_copy_row (P := P) w dT sT ty elem g off dLen dCap ⟨b, o, none⟩ l.length cap (cellsOf k L) t (l.map fun (n : Nat) => Value.int k (Int.ofNat n)) hu hs hg
      (by simp [Nat.min_eq_left h1]) (fun j v hj => by
        have hjl : j < l.length := by
          rcases Nat.lt_or_ge j l.length with h | h
          · exact h
          · simp [List.getElem?_eq_none h] at hj
        have e : (⟨b, o, none⟩ : Addr).add j = ⟨b, o + j, none⟩ := by unfold Addr.add; split <;> simp_all
        rw [e, hc j hjl]
        simp [hjl] at hj
        rw [← hj, nth_lt hjl]) (by simp [cellsOf]; omega) (fun v hv => by
        obtain ⟨x, _, rfl⟩ := List.mem_map.1 hv
        rfl)
    rw [this]
    simp only [List.length_map]
    congr 1
    unfold wput
    rw [← list_splice]
    simp
theorem len_lt {B K n : Nat} {l : List Nat} (hB : 1 < B) (hz : Nz l) (hv : val B l = n) (hn : n < B ^ K) : l.length ≤ K := by
  rcases Nat.eq_zero_or_pos l.length with h | h
  · omega
  · have := val_ge (B := B) hz (by intro e; simp [e] at h)
    have h2 : B ^ (l.length - 1) < B ^ K := by omega
    have := (Nat.pow_lt_pow_iff_right hB).1 h2
    omega
end Go.Big
namespace Go.Big
open Go Go.RowKit
def addW (x y : Nat) : Nat := (x + y) % 18446744073709551616
def subW (x y : Nat) : Nat := (((x : Int) - (y : Int)) % 18446744073709551616).toNat
def mulW (x y : Nat) : Nat := (x * y) % 18446744073709551616
def shlW (x n : Nat) : Nat := (x * 2 ^ (min n 64)) % 18446744073709551616
def shrW (x n : Nat) : Nat := x / 2 ^ (min n 64)
def orW (x y : Nat) : Nat := (x % 18446744073709551616) ||| (y % 18446744073709551616)
def andW (x y : Nat) : Nat := (x % 18446744073709551616) &&& (y % 18446744073709551616)
def quoW (x y : Nat) : Nat := (x / y) % 18446744073709551616

theorem wrap_nat (n : Nat) : IntKind.u64.wrap (n : Int) = ((n % 18446744073709551616 : Nat) : Int) := by
  simp [IntKind.wrap, IntKind.signed, IntKind.bits]

theorem run_addW (x y : Nat) : Op.intArith .add .u64 (x : Int) (y : Int) = pure (.int .u64 (addW x y : Nat)) := by
  have := wrap_nat (x + y)
  simp only [Op.intArith, addW]
  rw [← this]; rfl
theorem run_mulW (x y : Nat) : Op.intArith .mul .u64 (x : Int) (y : Int) = pure (.int .u64 (mulW x y : Nat)) := by
  have := wrap_nat (x * y)
  simp only [Op.intArith, mulW]
  rw [← this, Int.natCast_mul]
theorem run_subW (x y : Nat) : Op.intArith .sub .u64 (x : Int) (y : Int) = pure (.int .u64 (subW x y : Nat)) := by
  have h : IntKind.u64.wrap ((x : Int) - (y : Int)) = (subW x y : Nat) := by
    simp only [subW, IntKind.wrap, IntKind.signed, IntKind.bits]
    have : 0 ≤ ((x : Int) - (y : Int)) % 18446744073709551616 := Int.emod_nonneg _ (by decide)
    simp [Int.toNat_of_nonneg this]
  simp only [Op.intArith]
  rw [← h]
theorem run_shlW (x n : Nat) (ky : IntKind) : Op.shift .shl .u64 (x : Int) ky (n : Int) = pure (.int .u64 (shlW x n : Nat)) := by
  have h : ¬ ((n : Int) < 0) := by omega
  have e : IntKind.u64.wrap ((x : Int) * 2 ^ (min n 64)) = (shlW x n : Nat) := by
    have := wrap_nat (x * 2 ^ (min n 64))
    rw [shlW, ← this]; simp
  simp only [Op.shift, h, if_false, IntKind.bits, Int.toNat_natCast]
  rw [← e]
theorem run_shrW (x n : Nat) (ky : IntKind) : Op.shift .shr .u64 (x : Int) ky (n : Int) = pure (.int .u64 (shrW x n : Nat)) := by
  have h : ¬ ((n : Int) < 0) := by omega
  have e : (x : Int).fdiv (2 ^ (min n 64)) = (shrW x n : Nat) := by
    rw [shrW, Int.fdiv_eq_ediv_of_nonneg _ (by have : (0:Int) < 2 ^ min n 64 := Int.pow_pos (by decide); omega)]
    simp
  simp only [Op.shift, h, if_false, IntKind.bits, Int.toNat_natCast]
  rw [← e]
theorem run_orW (x y : Nat) : Op.intBits .or .u64 (x : Int) (y : Int) = pure (.int .u64 (orW x y : Nat)) := by
  have h1 : orW x y < 18446744073709551616 := Nat.or_lt_two_pow (n := 64) (Nat.mod_lt _ (by decide)) (Nat.mod_lt _ (by decide))
  have e : IntKind.u64.wrap ((BitVec.ofInt 64 x ||| BitVec.ofInt 64 y).toNat : Int) = (orW x y : Nat) := by
    rw [wrap_nat]
    congr 1
    rw [BitVec.toNat_or]
    simp [orW] at h1 ⊢
    exact h1
  simp only [Op.intBits, IntKind.bits]
  rw [← e]; rfl
theorem run_andW (x y : Nat) : Op.intBits .and .u64 (x : Int) (y : Int) = pure (.int .u64 (andW x y : Nat)) := by
  have h1 : andW x y < 18446744073709551616 := Nat.and_lt_two_pow (n := 64) _ (Nat.mod_lt _ (by decide))
  have e : IntKind.u64.wrap ((BitVec.ofInt 64 x &&& BitVec.ofInt 64 y).toNat : Int) = (andW x y : Nat) := by
    rw [wrap_nat]
    congr 1
    rw [BitVec.toNat_and]
    simp [andW] at h1 ⊢
    exact h1
  simp only [Op.intBits, IntKind.bits]
  rw [← e]; rfl
theorem run_quoW (x y : Nat) (h : 0 < y) : Op.intDiv .quo .u64 (x : Int) (y : Int) = pure (.int .u64 (quoW x y : Nat)) := by
  have h0 : ¬ ((y : Int) = 0) := by omega
  have e : IntKind.u64.wrap ((x : Int).tdiv y) = (quoW x y : Nat) := by
    have := wrap_nat (x / y)
    rw [quoW, ← this]; rfl
  simp only [Op.intDiv, h0, if_false]
  rw [← e]
theorem run_remW (x y : Nat) (h : 0 < y) : Op.intDiv .rem .u64 (x : Int) (y : Int) = pure (.int .u64 (x % y : Nat)) := by
  have h0 : ¬ ((y : Int) = 0) := by omega
  simp only [Op.intDiv, h0, if_false]
  rfl
theorem run_addL (x n : Nat) : Op.intArith .add .u64 (x : Int) (OfNat.ofNat n) = pure (.int .u64 (addW x n : Nat)) := run_addW x n
theorem run_subL (x n : Nat) : Op.intArith .sub .u64 (x : Int) (OfNat.ofNat n) = pure (.int .u64 (subW x n : Nat)) := run_subW x n
theorem run_mulL (x n : Nat) : Op.intArith .mul .u64 (x : Int) (OfNat.ofNat n) = pure (.int .u64 (mulW x n : Nat)) := run_mulW x n
theorem run_mulR (x n : Nat) : Op.intArith .mul .u64 (OfNat.ofNat n) (x : Int) = pure (.int .u64 (mulW n x : Nat)) := run_mulW n x
theorem run_shrL (x n : Nat) (ky : IntKind) : Op.shift .shr .u64 (x : Int) ky (OfNat.ofNat n) = pure (.int .u64 (shrW x n : Nat)) := run_shrW x n ky
theorem run_shlL (x n : Nat) (ky : IntKind) : Op.shift .shl .u64 (x : Int) ky (OfNat.ofNat n) = pure (.int .u64 (shlW x n : Nat)) := run_shlW x n ky
theorem run_andL (x n : Nat) : Op.intBits .and .u64 (x : Int) (OfNat.ofNat n) = pure (.int .u64 (andW x n : Nat)) := run_andW x n
attribute [go_sem ↓] run_addW run_subW run_mulW run_shlW run_shrW run_orW run_andW run_quoW run_remW
end Go.Big
namespace Go.Big
theorem run_subR (x n : Nat) : Op.intArith .sub .u64 (OfNat.ofNat n) (x : Int) = pure (.int .u64 (subW n x : Nat)) := run_subW n x
theorem subW_le {x y : Nat} (h : y ≤ x) (hx : x < 18446744073709551616) : subW x y = x - y := by unfold subW; omega
theorem addW_lt' {x y : Nat} (h : x + y < 18446744073709551616) : addW x y = x + y := Nat.mod_eq_of_lt h
theorem mulW_lt' {x y : Nat} (h : x * y < 18446744073709551616) : mulW x y = x * y := Nat.mod_eq_of_lt h
theorem andW_mask {x : Nat} (hx : x < 18446744073709551616) : andW x 4294967295 = x % 4294967296 := by
  rw [andW, Nat.mod_eq_of_lt hx]
  exact Nat.and_two_pow_sub_one_eq_mod x 32
theorem shrW32 (x : Nat) : shrW x 32 = x / 4294967296 := rfl
end Go.Big
namespace Go.Big
theorem run_shr32 (x : Nat) (ky : IntKind) : Op.shift .shr .u64 (x : Int) ky 32 = pure (.int .u64 (shrW x 32 : Nat)) := run_shrW x 32 ky
theorem run_shr1 (x : Nat) (ky : IntKind) : Op.shift .shr .u64 (x : Int) ky 1 = pure (.int .u64 (shrW x 1 : Nat)) := run_shrW x 1 ky
theorem run_and32 (x : Nat) : Op.intBits .and .u64 (x : Int) 4294967295 = pure (.int .u64 (andW x 4294967295 : Nat)) := run_andW x 4294967295
theorem run_and1 (x : Nat) : Op.intBits .and .u64 (x : Int) 1 = pure (.int .u64 (andW x 1 : Nat)) := run_andW x 1
theorem run_mul32 (x : Nat) : Op.intArith .mul .u64 (x : Int) 4294967296 = pure (.int .u64 (mulW x 4294967296 : Nat)) := run_mulW x 4294967296
theorem run_32mul (x : Nat) : Op.intArith .mul .u64 4294967296 (x : Int) = pure (.int .u64 (mulW 4294967296 x : Nat)) := run_mulW 4294967296 x
theorem run_sub1 (x : Nat) : Op.intArith .sub .u64 (x : Int) 1 = pure (.int .u64 (subW x 1 : Nat)) := run_subW x 1
theorem run_add1 (x : Nat) : Op.intArith .add .u64 (x : Int) 1 = pure (.int .u64 (addW x 1 : Nat)) := run_addW x 1
theorem run_64sub (x : Nat) : Op.intArith .sub .u64 64 (x : Int) = pure (.int .u64 (subW 64 x : Nat)) := run_subW 64 x
attribute [go_sem ↓] run_shr32 run_shr1 run_and32 run_and1 run_mul32 run_32mul run_sub1 run_add1 run_64sub
end Go.Big
namespace Go.Big
open Go
theorem snoc_ind {α : Type} {motive : List α → Prop} (nil : motive []) (append_singleton : ∀ (l : List α) (x : α), motive l → motive (l ++ [x])) (l : List α) : motive l := by
  have h : ∀ (n : Nat) (l : List α), l.length = n → motive l := by
    intro n
    induction n with
    | zero => intro l hl; rw [List.eq_nil_of_length_eq_zero hl]; exact nil
    | succ n ih =>
      intro l hl
      rcases List.eq_nil_or_concat l with e | ⟨m, x, e⟩
      · rw [e] at hl; simp at hl
      · subst e
        rw [List.concat_eq_append] at hl ⊢
        exact append_singleton m x (ih m (by simpa using hl))
  exact h l.length l rfl
/-- The number that decimal digits denote. -/
def dec (l : List UInt8) : Nat := l.foldl (fun v b => v * 10 + (b.toNat - 48)) 0
def Dig (l : List UInt8) : Prop := ∀ b ∈ l, 48 ≤ b.toNat ∧ b.toNat ≤ 57
theorem dec_nil : dec [] = 0 := rfl
theorem dec_snoc (l : List UInt8) (b : UInt8) : dec (l ++ [b]) = dec l * 10 + (b.toNat - 48) := by simp [dec, List.foldl_append]
theorem dec_take (l : List UInt8) (i : Nat) (h : i < l.length) : dec (l.take (i + 1)) = dec (l.take i) * 10 + (l[i].toNat - 48) := by
  rw [List.take_succ_eq_append_getElem h, dec_snoc]
theorem dec_lt {l : List UInt8} (h : Dig l) : dec l < 10 ^ l.length := by
  suffices ∀ n, n ≤ l.length → dec (l.take n) < 10 ^ n by simpa using this l.length (Nat.le_refl _)
  intro n
  induction n with
  | zero => intro _; simp [dec]
  | succ n ih =>
    intro hn
    have h1 := ih (by omega)
    have h2 := h l[n] (List.getElem_mem _)
    rw [dec_take l n hn, Nat.pow_succ]
    omega
theorem dec_append (a b : List UInt8) : dec (a ++ b) = dec a * 10 ^ b.length + dec b := by
  induction b using snoc_ind generalizing a with
  | nil => simp [dec]
  | append_singleton b x ih => rw [← List.append_assoc, dec_snoc, dec_snoc, ih]; simp [Nat.pow_succ]; grind
theorem Dig.append {a b : List UInt8} (h : Dig a) (k : Dig b) : Dig (a ++ b) := fun x hx => (List.mem_append.1 hx).elim (h x) (k x)
theorem Dig.take {a : List UInt8} (h : Dig a) (n : Nat) : Dig (a.take n) := fun x hx => h x (List.mem_of_mem_take hx)
theorem Dig.drop {a : List UInt8} (h : Dig a) (n : Nat) : Dig (a.drop n) := fun x hx => h x (List.mem_of_mem_drop hx)

theorem digit_toNat {i : Nat} (h : i < 10) : (UInt8.ofNat (48 + i)).toNat = 48 + i := by
  rw [UInt8.toNat_ofNat']
  exact Nat.mod_eq_of_lt (by omega)
theorem digit_eq {b : UInt8} (h1 : 48 ≤ b.toNat) (h2 : b.toNat ≤ 57) : UInt8.ofNat (48 + (b.toNat - 48)) = b := by
  rw [show 48 + (b.toNat - 48) = b.toNat by omega, UInt8.ofNat_toNat]

theorem dd_big {n : Nat} (h : ¬ n < 10) : Lib.decDigits n = Lib.decDigits (n / 10) ++ [UInt8.ofNat (48 + n % 10)] := by
  conv => lhs; rw [Lib.decDigits]
  rw [dif_neg h]
theorem dd_dig (n : Nat) : Dig (Lib.decDigits n) := by
  induction n using Nat.strongRecOn with
  | _ n ih =>
    by_cases h : n < 10
    · rw [Lib.decDigits_one h]
      intro b hb
      rw [List.mem_singleton.1 hb, digit_toNat h]; omega
    · rw [dd_big h]
      refine (ih _ (by omega)).append fun b hb => ?_
      rw [List.mem_singleton.1 hb, digit_toNat (by omega)]; omega
theorem dd_dec (n : Nat) : dec (Lib.decDigits n) = n := by
  induction n using Nat.strongRecOn with
  | _ n ih =>
    by_cases h : n < 10
    · rw [Lib.decDigits_one h]
      simp only [dec, List.foldl_cons, List.foldl_nil, digit_toNat h]; omega
    · rw [dd_big h, dec_snoc, ih _ (by omega), digit_toNat (by omega)]; omega
theorem dd_len_pos (n : Nat) : 0 < (Lib.decDigits n).length := by
  rw [Lib.decDigits_length]; exact Lib.nDigits_pos n
theorem dd_ne (n : Nat) : Lib.decDigits n ≠ [] := by
  have := dd_len_pos n
  intro h; rw [h] at this; simp at this
theorem dd_head {n : Nat} (h : 0 < n) : ∃ b l, Lib.decDigits n = b :: l ∧ 49 ≤ b.toNat := by
  induction n using Nat.strongRecOn with
  | _ n ih =>
    by_cases h1 : n < 10
    · refine ⟨_, [], Lib.decDigits_one h1, ?_⟩
      rw [digit_toNat h1]; omega
    · obtain ⟨b, l, e, hb⟩ := ih (n / 10) (by omega) (by omega)
      exact ⟨b, l ++ _, by rw [dd_big h1, e]; rfl, hb⟩
/-- Digits without leading zeros are the numeral. -/
theorem dd_of : ∀ {l : List UInt8}, Dig l → l ≠ [] → (1 < l.length → ∀ b m, l = b :: m → b.toNat ≠ 48) → Lib.decDigits (dec l) = l := by
  intro l
  induction l using snoc_ind with
  | nil => intro _ h; exact absurd rfl h
  | append_singleton l x ih =>
    intro hd _ hz
    have hx := hd x (by simp)
    have hdl : Dig l := fun b hb => hd b (List.mem_append_left _ hb)
    rcases l with _ | ⟨b, m⟩
    · simp only [List.nil_append, dec, List.foldl_cons, List.foldl_nil, Nat.zero_mul, Nat.zero_add]
      rw [Lib.decDigits_one (by omega), digit_eq hx.1 hx.2]
    · have hb := hz (by simp) b (m ++ [x]) rfl
      have hb2 := hdl b (by simp)
      have e := ih hdl (by simp) (fun _ b' m' e' => by cases e'; exact hb)
      have hpos : 0 < dec (b :: m) := by
        have h1 : dec (b :: m) = dec [b] * 10 ^ m.length + dec m := dec_append [b] m
        have h2 : dec [b] = b.toNat - 48 := by simp [dec]
        have h3 : 1 ≤ 10 ^ m.length := Nat.one_le_pow _ _ (by decide)
        rw [h1, h2]
        have : 1 * 1 ≤ (b.toNat - 48) * 10 ^ m.length := Nat.mul_le_mul (by omega) h3
        omega
      rw [dec_snoc, dd_big (by omega), show (dec (b :: m) * 10 + (x.toNat - 48)) / 10 = dec (b :: m) by omega, show (dec (b :: m) * 10 + (x.toNat - 48)) % 10 = x.toNat - 48 by omega, e, digit_eq hx.1 hx.2]
/-- Leading zeros are struck. -/
theorem dd_strip : ∀ {l : List UInt8}, Dig l → 0 < dec l → l.dropWhile (· == 48) = Lib.decDigits (dec l) := by
  intro l
  induction l with
  | nil => intro _ h; simp [dec] at h
  | cons b m ih =>
    intro hd hp
    have hb := hd b (by simp)
    have hdm : Dig m := fun x hx => hd x (by simp [hx])
    have h1 : dec (b :: m) = dec [b] * 10 ^ m.length + dec m := dec_append [b] m
    have h2 : dec [b] = b.toNat - 48 := by simp [dec]
    by_cases h : b = 48
    · subst h
      have e : dec ((48 : UInt8) :: m) = dec m := by rw [h1, h2]; simp
      rw [e] at hp ⊢
      rw [List.dropWhile_cons_of_pos (by rfl), ih hdm hp]
    · have hn : b.toNat ≠ 48 := fun e => h (UInt8.toNat_inj.1 e)
      rw [List.dropWhile_cons_of_neg (by simpa using h)]
      exact (dd_of hd (by simp) (fun _ b' m' e' => by cases e'; exact hn)).symm
theorem dd_inj {a b : Nat} (h : Lib.decDigits a = Lib.decDigits b) : a = b := by rw [← dd_dec a, h, dd_dec]
theorem dd_canon {n : Nat} : 1 < (Lib.decDigits n).length → ∀ b m, Lib.decDigits n = b :: m → b.toNat ≠ 48 := by
  intro h b m e
  rcases Nat.eq_zero_or_pos n with h0 | h0
  · subst h0; rw [Lib.decDigits_one (by omega)] at h; simp at h
  · obtain ⟨b', l', e', hb'⟩ := dd_head h0
    rw [e'] at e; cases e; omega
/-- How many digits: below 10^k there are at most k. -/
theorem dd_len {n k : Nat} (hk : 0 < k) (h : n < 10 ^ k) : (Lib.decDigits n).length ≤ k := by
  induction n using Nat.strongRecOn generalizing k with
  | _ n ih =>
    by_cases h1 : n < 10
    · rw [Lib.decDigits_one h1]; simp; omega
    · rw [dd_big h1, List.length_append]
      have hk2 : 1 < k := by
        rcases Nat.lt_or_ge 1 k with h2 | h2
        · exact h2
        · have : k = 1 := by omega
          subst this; simp at h; omega
      have := ih (n / 10) (by omega) (k := k - 1) (by omega) (by
        have : 10 ^ k = 10 ^ (k - 1) * 10 := by rw [← Nat.pow_succ]; congr 1; omega
        omega)
      simp; omega
end Go.Big
