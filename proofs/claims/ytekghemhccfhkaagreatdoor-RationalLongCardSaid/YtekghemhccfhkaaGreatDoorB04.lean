/-
  Walks of the program's functions: Mk, AddTo, MulMath, DdMath.
-/
import Derived.Test.YtekghemhccfhkaaGreatDoorB03
import Derived.Laws.IdiomCopy
import Derived.Laws.CopyRow
import Derived.Laws.MakeOwn
namespace Go.Big
open Go Go.RowKit
variable {P : Program}

theorem _root_.Go.RowKit.Below.put {B : Nat} {a w : World} (h : Below B a w) {g : Nat} (hg : B ≤ g) (k : IntKind) (l : List Nat) : Below B a (wput w g k l) :=
  h.trans ⟨rfl, rfl, rfl, by rw [put_size]; exact Nat.le_refl _, fun j hj => setRow_other w g j _ (by omega)⟩
theorem isRow.seg {w : World} {g : Nat} {t : TypeId} {k : IntKind} {pre seg post : List Nat} (h : isRow w g t k (pre ++ (seg ++ post))) {cap : Nat} (h1 : seg.length ≤ cap) (h2 : seg.length ≤ 1099511627776) :
    SlA w k (some ⟨g, pre.length, none⟩) cap seg :=
  ⟨h1, h2, fun _ => ⟨g, pre.length, rfl, h.lt, fun j hj => by rw [h.cell (by simp; omega), nth_mid _ _ _ _ hj]⟩⟩
theorem isRow.sl {w : World} {g : Nat} {t : TypeId} {k : IntKind} {l : List Nat} (h : isRow w g t k l) {cap : Nat} (h1 : l.length ≤ cap) (h2 : l.length ≤ 1099511627776) :
    SlA w k (some ⟨g, 0, none⟩) cap l := by
  have := isRow.seg (pre := []) (post := []) (by simpa using h) h1 h2
  simpa using this
theorem isRow.storeRow {w : World} {g : Nat} {t : TypeId} {k : IntKind} {l : List Nat} (h : isRow w g t k l) (i x : Nat) : isRow (w.setCell ⟨g, i, none⟩ (.int k (x : Int))) g t k (l.set i x) := by
  rw [h.store]; exact h.put _
theorem isRow.drewN {w : World} {g : Nat} {t : TypeId} {k : IntKind} {l : List Nat} (h : isRow w g t k l) (n : Nat) : isRow (w.drewN n) g t k l := h
theorem isRow.store2 {w : World} {g : Nat} {t : TypeId} {k : IntKind} {l : List Nat} (h : isRow w g t k l) (i x j y : Nat) : isRow ((w.setCell ⟨g, i, none⟩ (.int k (x : Int))).setCell ⟨g, j, none⟩ (.int k (y : Int))).drew g t k ((l.set i x).set j y) :=
  (h.storeRow i x).storeRow j y
theorem isRow.below {w w' : World} {g : Nat} {t : TypeId} {k : IntKind} {l : List Nat} (h : isRow w g t k l) (hb : Below w.heap.size w w') : isRow w' g t k l := by
  unfold isRow at *
  rw [hb.block g (Array.getElem?_eq_some_iff.1 h).1, h]
theorem isRow.other {w : World} {g g' : Nat} {t : TypeId} {k k' : IntKind} {l : List Nat} (h : isRow w g t k l) (hne : g ≠ g') (l' : List Nat) : isRow (wput w g' k' l') g t k l := by
  unfold isRow at *
  unfold wput
  rw [setRow_other w g' g _ hne, h]
theorem isRow.otherCell {w : World} {g : Nat} {t : TypeId} {k : IntKind} {l : List Nat} (h : isRow w g t k l) {p : Addr} (hne : g ≠ p.block) (v : Value) : isRow (w.setCell p v) g t k l := by
  unfold isRow at *
  rw [Below.heap_setCell w p v g hne, h]
theorem isRow_alloc (w : World) (t : TypeId) (k : IntKind) (l : List Nat) : isRow (w.alloc (.cells (cellsOf k l) t)) w.heap.size t k l := heap_alloc_new w _

def zeros (n : Nat) : List Nat := List.replicate n 0
theorem zeros_len (n : Nat) : (zeros n).length = n := by simp [zeros]
theorem zeros_wd {B : Nat} (hB : 0 < B) (n : Nat) : Wd B (zeros n) := Wd.replicate hB
theorem zeros_val (B n : Nat) : val B (zeros n) = 0 := val_replicate B n
theorem zeros_drop (n k : Nat) : (zeros n).drop k = zeros (n - k) := by simp [zeros]
theorem zeros_nth (n i : Nat) : nth (zeros n) i = 0 := by
  unfold zeros nth
  rw [List.getD_eq_getElem?_getD, List.getElem?_replicate]; split <;> rfl
theorem cells_zero (k : IntKind) (n : Nat) : madeCells (Value.int k 0).cells n = cellsOf k (zeros n) := by
  apply Array.ext
  · simp [madeCells, cellsOf, zeros]
  · intro i h1 h2
    have e : i % 1 = 0 := Nat.mod_one i
    simp [madeCells, cellsOf, Value.cells, e, zeros]

/-- 'make([]T, n)' of an integer type. -/
theorem run_mk (t e : TypeId) (k : IntKind) (ht : P.underlying t = some (.slice e)) (bytes : Nat) (hi : (P.info? e).map (fun i => (i.zero, i.size, i.bytes)) = some (some (.int k 0), 1, bytes)) (hby : bytes ≤ 8)
    (x : Int) (n : Nat) (hx : x = n) (hn : n ≤ 1099511627776) (w : World) :
    (Instr.makeSlice t (.int .i64 x) (.int .i64 x)).run P w = .ok (.slice (some ⟨w.heap.size, 0, none⟩) n n) (w.alloc (.cells (cellsOf k (zeros n)) e)) := by
  subst hx
  obtain ⟨i, hi', hi⟩ : ∃ i, P.info? e = some i ∧ (i.zero, i.size, i.bytes) = (some (.int k 0), 1, bytes) := by
    cases hq : P.info? e with
    | none => rw [hq] at hi; cases hi
    | some i => rw [hq] at hi; exact ⟨i, rfl, by simpa using hi⟩
  simp only [Prod.mk.injEq] at hi
  have hb : i.bytes ≤ 8 := by omega
  have hbytes : (i.bytes : Int) * (n : Int) ≤ 281474976710656 := by
    have h1 : i.bytes * n ≤ 8 * 1099511627776 := Nat.mul_le_mul hb hn
    have h2 : ((i.bytes * n : Nat) : Int) ≤ 281474976710656 := by omega
    rwa [Int.natCast_mul] at h2
  have := run_make (P := P) w t e i (.int k 0) ht hi' hi.1 .i64 .i64 n n (by omega) (Int.le_refl _) hbytes (by omega)
  rw [this, hi.2.1]
  simp only [Int.toNat_natCast, Nat.mul_one, cells_zero]

theorem list_splice (L l : List Nat) (off : Nat) (k : IntKind) :
    ((cellsOf k L).toList.take off ++ (l.map fun (n : Nat) => Value.int k (Int.ofNat n)) ++ (cellsOf k L).toList.drop (off + (l.map fun (n : Nat) => Value.int k (Int.ofNat n)).length)).toArray =
      cellsOf k (L.take off ++ (l ++ L.drop (off + l.length))) := by
  simp [cellsOf, List.map_take, List.map_drop]

/-- 'copy(d, s)': into a row of the call's own. -/
theorem run_copy (dT sT ty elem : TypeId) (hu : P.underlying dT = some (.slice elem)) (hs : (P.info? elem).map (·.size) = some 1)
    {w : World} {g : Nat} {t : TypeId} {k : IntKind} {L l : List Nat} {off dLen dCap cap : Nat} {so : Option Addr} (hg : isRow w g t k L) (hl : SlA w k so cap l) (h1 : l.length ≤ dLen) (h2 : off + dLen ≤ L.length) :
    (Builtin.copy_ #[dT, sT] ty #[.slice (some ⟨g, off, none⟩) dLen dCap, .slice so l.length cap]).run P w = .ok (goInt l.length) (wput w g k (L.take off ++ (l ++ L.drop (off + l.length)))) := by
  rcases Nat.eq_zero_or_pos l.length with h0 | hpos
  · have : l = [] := List.eq_nil_of_length_eq_zero h0
    subst this
    rw [run_copy_none w dT sT ty elem _ _ _ _ _ _ hu hs (by simp)]
    simp only [List.length_nil, Nat.add_zero, List.nil_append, List.take_append_drop, put_self hg]; rfl
  · obtain ⟨b, o, rfl, _, hc⟩ := hl.at hpos
    have := run_copy_row (P := P) w dT sT ty elem g off dLen dCap ⟨b, o, none⟩ l.length cap (cellsOf k L) t (l.map fun (n : Nat) => Value.int k (Int.ofNat n)) hu hs hg
      (by simp [Nat.min_eq_left h1]) (fun j v hj => by
        have hjl : j < l.length := by
          rcases Nat.lt_or_ge j l.length with h | h
          · exact h
          · simp [List.getElem?_eq_none h] at hj
        have e : (⟨b, o, none⟩ : Addr).add j = ⟨b, o + j, none⟩ := by unfold Addr.add; split <;> simp_all
        rw [e, hc j hjl]
        simp [hjl] at hj
        rw [← hj, nth_lt hjl]) (by simp [cellsOf]; omega) (fun v hv => by
        obtain ⟨x, _, rfl⟩ := List.mem_map.1 hv
        rfl)
    rw [this]
    simp only [List.length_map]
    congr 1
    unfold wput
    rw [← list_splice]
    simp
theorem len_lt {B K n : Nat} {l : List Nat} (hB : 1 < B) (hz : Nz l) (hv : val B l = n) (hn : n < B ^ K) : l.length ≤ K := by
  rcases Nat.eq_zero_or_pos l.length with h | h
  · omega
  · have := val_ge (B := B) hz (by intro e; simp [e] at h)
    have h2 : B ^ (l.length - 1) < B ^ K := by omega
    have := (Nat.pow_lt_pow_iff_right hB).1 h2
    omega
end Go.Big
namespace Go.Proofs.YtekghemhccfhkaaGreatDoor
open Go.RowKit Go.Big
theorem run_add0 (x c : Nat) (hc : c ≤ 1) (w : World) :
    (callFunc 222 #[.int .u64 x, .int .u64 0, .int .u64 c]).run Tryz.prog w =
      .ok (.value (.tuple #[.int .u64 (addLo x 0 c), .int .u64 (addHi x 0 c)])) w := run_add x 0 c hc w

def AddPost (w : World) (g : Nat) (pre a post b : List Nat) (e : Ending) (w' : World) : Prop :=
  ∃ (cur : List Nat) (c : Nat), e = .returned (.int .u64 c) ∧ w' = wput w g .u64 (pre ++ (cur ++ post)) ∧ Added a b cur c

set_option maxRecDepth 100000 in
set_option maxHeartbeats 400000 in
theorem addTo_any (g capa capb : Nat) (bo : Option Addr) (pre a post b : List Nat) (w : World)
    (hg : isRow w g 71 .u64 (pre ++ (a ++ post))) (ha : Wd B64 a) (hbw : Wd B64 b) (hb : SlA w .u64 bo capb b) (hne : b ≠ [] → ∀ p, bo = some p → p.block ≠ g)
    (hl : b.length ≤ a.length) (hm : a.length ≤ 1099511627776) :
    Calls Tryz.prog 213 #[.slice (some ⟨g, pre.length, none⟩) a.length capa, .slice bo b.length capb] w (AddPost w g pre a post b) := by
  go_enter Tryz.func213, Tryz.ntmps213
  go_wp2
  go_loopw [5, 11] (fun c i wr => ∃ (k cn : Nat) (cur : List Nat), k ≤ b.length ∧ i = .int .i64 k ∧ c = .int .u64 cn ∧ AddInv a b k cur cn ∧ wr = wput w g .u64 (pre ++ (cur ++ post)))
    (fun _ i _ => b.length - (intOf i).toNat)
  case atStart => exact ⟨0, 0, a, Nat.zero_le _, rfl, rfl, AddInv.start b ha, (put_self hg).symm⟩
  case round =>
    obtain ⟨k, cn, cur, hk, rfl, rfl, hinv, rfl⟩ := hrel
    have hcn := hinv.carry
    have HL : Hid (cur.length = a.length) := hinv.len
    by_cases hlt : k < b.length
    · obtain ⟨gb, offb, rfl, _, hbc⟩ := hb.at hlt
      have hgb : gb ≠ g := hne (by intro e; simp [e] at hlt) _ rfl
      have hcb : (wput w g .u64 (pre ++ (cur ++ post))).cell? ⟨gb, offb + k, none⟩ = some (.int .u64 (nth b k)) := by rw [put_other _ _ _ hgb]; exact hbc k hlt
      have hca : (wput w g .u64 (pre ++ (cur ++ post))).cell? ⟨g, pre.length + k, none⟩ = some (.int .u64 (nth cur k)) := by
        rw [(hg.put _).cell (by have := HL.out; simp; omega), nth_mid _ _ _ _ (by have := HL.out; omega)]
      have hfr : (wput w g .u64 (pre ++ (cur ++ post))).frozen? ⟨g, pre.length + k, none⟩ = false := (hg.put _).frozen _
      have hadd := run_add (nth cur k) (nth b k) cn hcn (wput w g .u64 (pre ++ (cur ++ post)))
      generalize hW : wput w g .u64 (pre ++ (cur ++ post)) = W at *
      have HW := Lib.hid hW
      clear hW hb hbc hgb hne
      go_wp2_with fail
      go_roundw
      case rel => exact ⟨k + 1, _, cur.set k (addLo (nth cur k) (nth b k) cn), by omega, by go_num, rfl, hinv.step (by omega) hlt hbw, by rw [← HW.out, put_store hg, set_mid _ _ _ _ _ (by have := HL.out; omega)]⟩
      case measure => simp [intOf]; omega
    · have hkb : k = b.length := by omega
      subst hkb
      clear hb hne
      go_wp2_with fail
      go_loopw [5, 8] (fun c i wr => ∃ (k cn : Nat) (cur : List Nat), b.length ≤ k ∧ k ≤ a.length ∧ i = .int .i64 k ∧ c = .int .u64 cn ∧ AddInv a b k cur cn ∧ wr = wput w g .u64 (pre ++ (cur ++ post)))
        (fun _ i _ => a.length - (intOf i).toNat)
      case atStart => exact ⟨b.length, cn, cur, Nat.le_refl _, hl, rfl, rfl, hinv, rfl⟩
      case round =>
        clear hinv HL hcn
        obtain ⟨k, cn, cur, hk, hka, rfl, rfl, hinv, rfl⟩ := hrel
        have hcn := hinv.carry
        have HL : Hid (cur.length = a.length) := hinv.len
        by_cases hlt : k < a.length
        · have hca : (wput w g .u64 (pre ++ (cur ++ post))).cell? ⟨g, pre.length + k, none⟩ = some (.int .u64 (nth cur k)) := by
            rw [(hg.put _).cell (by have := HL.out; simp; omega), nth_mid _ _ _ _ (by have := HL.out; omega)]
          have hfr : (wput w g .u64 (pre ++ (cur ++ post))).frozen? ⟨g, pre.length + k, none⟩ = false := (hg.put _).frozen _
          have hadd := run_add0 (nth cur k) cn hcn (wput w g .u64 (pre ++ (cur ++ post)))
          generalize hW : wput w g .u64 (pre ++ (cur ++ post)) = W at *
          have HW := Lib.hid hW
          clear hW
          by_cases hz : cn = 0
          · subst hz
            go_wp2_with fail
            go_ret
            exact ⟨cur, 0, rfl, HW.out.symm, hinv.done hk hka (.inr rfl)⟩
          · have hz' : ((cn : Int) != 0) = true := by rw [bne_iff_ne]; omega
            go_wp2_with fail
            go_roundw
            case rel => exact ⟨k + 1, _, cur.set k (addLo (nth cur k) 0 cn), by omega, by omega, by go_num, rfl, hinv.step0 hlt hk, by rw [← HW.out, put_store hg, set_mid _ _ _ _ _ (by have := HL.out; omega)]⟩
            case measure => simp [intOf]; omega
        · go_wp2_with fail
          go_ret
          exact ⟨cur, cn, rfl, rfl, hinv.done hk hka (.inl hlt)⟩
end Go.Proofs.YtekghemhccfhkaaGreatDoor
namespace Go.Big
open Go Go.RowKit
def mulHi (x y : Nat) : Nat := x * y / 18446744073709551616
def mulLo (x y : Nat) : Nat := x * y % 18446744073709551616
theorem mulLo_lt (x y : Nat) : mulLo x y < 18446744073709551616 := Nat.mod_lt _ (by decide)
theorem mul_le {x y : Nat} (hx : x < 18446744073709551616) (hy : y < 18446744073709551616) : x * y ≤ 340282366920938463426481119284349108225 :=
  Nat.le_trans (Nat.mul_le_mul (Nat.le_sub_one_of_lt hx) (Nat.le_sub_one_of_lt hy)) (by decide)
theorem mul_eq (x y : Nat) : mulLo x y + 18446744073709551616 * mulHi x y = x * y := by unfold mulLo mulHi; omega

/-- v * w + carry: the low word, the high word. -/
def mcLo (v w c : Nat) : Nat := addLo (mulLo v w) c 0
def mcHi (v w c : Nat) : Nat := addLo (mulHi v w) 0 (addHi (mulLo v w) c 0)
theorem mc_eq {v w c : Nat} (hv : v < 18446744073709551616) (hw : w < 18446744073709551616) (hc : c < 18446744073709551616) :
    mcLo v w c + 18446744073709551616 * mcHi v w c = v * w + c := by
  have h := mul_le hv hw
  unfold mcLo mcHi addLo addHi mulLo mulHi
  generalize v * w = p at *
  omega
theorem mcLo_lt (v w c : Nat) : mcLo v w c < 18446744073709551616 := addLo_lt _ _ _
theorem mcHi_lt (v w c : Nat) : mcHi v w c < 18446744073709551616 := addLo_lt _ _ _
/-- s + v * w + carry: the carry behind it. -/
def maHi (s v w c : Nat) : Nat := addLo (mcHi v w c) 0 (addHi s (mcLo v w c) 0)
theorem ma_eq {s v w c : Nat} (hs : s < 18446744073709551616) (hv : v < 18446744073709551616) (hw : w < 18446744073709551616) (hc : c < 18446744073709551616) :
    addLo s (mcLo v w c) 0 + 18446744073709551616 * maHi s v w c = s + v * w + c := by
  have h := mul_le hv hw
  have e := mc_eq hv hw hc
  have h1 := mcLo_lt v w c
  unfold maHi
  generalize mcLo v w c = a at *
  generalize mcHi v w c = b at *
  generalize v * w = p at *
  unfold addLo addHi
  omega
/-- s - (v * w + carry): the carry behind it. -/
def msHi (s v w c : Nat) : Nat := addLo (mcHi v w c) 0 (subHi s (mcLo v w c) 0)
theorem ms_eq {s v w c : Nat} (hs : s < 18446744073709551616) (hv : v < 18446744073709551616) (hw : w < 18446744073709551616) (hc : c < 18446744073709551616) :
    subLo s (mcLo v w c) 0 + v * w + c = s + 18446744073709551616 * msHi s v w c := by
  have h := mul_le hv hw
  have e := mc_eq hv hw hc
  have h1 := mcLo_lt v w c
  unfold msHi
  generalize mcLo v w c = a at *
  generalize mcHi v w c = b at *
  generalize v * w = p at *
  unfold addLo subHi subLo
  split <;> omega

structure MacInv (s0 a : List Nat) (w i : Nat) (cur : List Nat) (c : Nat) : Prop where
  len : cur.length = s0.length
  wd : Wd B64 cur
  carry : c < 18446744073709551616
  rest : cur.drop i = s0.drop i
  eq : val B64 (cur.take i) + c * B64 ^ i = val B64 (s0.take i) + w * val B64 (a.take i)
theorem MacInv.start {s0 : List Nat} (a : List Nat) (w : Nat) (h : Wd B64 s0) : MacInv s0 a w 0 s0 0 := ⟨rfl, h, by decide, rfl, by simp [val]⟩
theorem MacInv.step {s0 a cur : List Nat} {w i c : Nat} (h : MacInv s0 a w i cur c) (hi : i < s0.length) (hia : i < a.length) (wa : Wd B64 a) (hw : w < 18446744073709551616) :
    MacInv s0 a w (i + 1) (cur.set i (addLo (nth cur i) (mcLo (nth a i) w c) 0)) (maHi (nth cur i) (nth a i) w c) := by
  have hic : i < cur.length := by rw [h.len]; exact hi
  have hv := wa.nth hia
  refine ⟨by rw [List.length_set, h.len], h.wd.set (addLo_lt _ _ _), addLo_lt _ _ _, by rw [drop_set_succ, drop_succ_of h.rest], ?_⟩
  rw [set_take_val B64 cur i _ hic, take_val_nth B64 s0 i hi, take_val_nth B64 a i hia]
  have e1 := h.eq
  have e2 := ma_eq (s := nth cur i) (h.wd.nth hic) hv hw h.carry
  rw [nth_drop h.rest] at e2 ⊢
  rw [Nat.pow_succ]
  grind
theorem MacInv.done {s0 a cur : List Nat} {w c : Nat} (h : MacInv s0 a w a.length cur c) (hl : s0.length = a.length) : val B64 cur + c * B64 ^ a.length = val B64 s0 + w * val B64 a := by
  have e := h.eq
  rwa [List.take_of_length_le (by rw [h.len]; omega), List.take_of_length_le (by omega), List.take_length] at e

/-- The same in place: a * w. -/
structure ScInv (a : List Nat) (w i : Nat) (cur : List Nat) (c : Nat) : Prop where
  len : cur.length = a.length
  wd : Wd B64 cur
  carry : c < 18446744073709551616
  rest : cur.drop i = a.drop i
  eq : val B64 (cur.take i) + c * B64 ^ i = w * val B64 (a.take i)
theorem ScInv.start {a : List Nat} (w : Nat) (h : Wd B64 a) : ScInv a w 0 a 0 := ⟨rfl, h, by decide, rfl, by simp [val]⟩
theorem ScInv.step {a cur : List Nat} {w i c : Nat} (h : ScInv a w i cur c) (hia : i < a.length) (wa : Wd B64 a) (hw : w < 18446744073709551616) :
    ScInv a w (i + 1) (cur.set i (mcLo (nth cur i) w c)) (mcHi (nth cur i) w c) := by
  have hic : i < cur.length := by rw [h.len]; exact hia
  have hv := wa.nth hia
  refine ⟨by rw [List.length_set, h.len], h.wd.set (mcLo_lt _ _ _), mcHi_lt _ _ _, by rw [drop_set_succ, drop_succ_of h.rest], ?_⟩
  rw [set_take_val B64 cur i _ hic, take_val_nth B64 a i hia]
  have e1 := h.eq
  have e2 := mc_eq (v := nth cur i) (h.wd.nth hic) hw h.carry
  rw [nth_drop h.rest] at e2 ⊢
  rw [Nat.pow_succ]
  grind
theorem ScInv.done {a cur : List Nat} {w c : Nat} (h : ScInv a w a.length cur c) : val B64 cur + c * B64 ^ a.length = w * val B64 a := by
  have e := h.eq
  rwa [List.take_of_length_le (by rw [h.len]; omega), List.take_length] at e

structure MsInv (s0 a : List Nat) (w i : Nat) (cur : List Nat) (c : Nat) : Prop where
  len : cur.length = s0.length
  wd : Wd B64 cur
  carry : c < 18446744073709551616
  rest : cur.drop i = s0.drop i
  eq : val B64 (cur.take i) + w * val B64 (a.take i) = val B64 (s0.take i) + c * B64 ^ i
theorem MsInv.start {s0 : List Nat} (a : List Nat) (w : Nat) (h : Wd B64 s0) : MsInv s0 a w 0 s0 0 := ⟨rfl, h, by decide, rfl, by simp [val]⟩
theorem MsInv.step {s0 a cur : List Nat} {w i c : Nat} (h : MsInv s0 a w i cur c) (hi : i < s0.length) (hia : i < a.length) (wa : Wd B64 a) (hw : w < 18446744073709551616) :
    MsInv s0 a w (i + 1) (cur.set i (subLo (nth cur i) (mcLo (nth a i) w c) 0)) (msHi (nth cur i) (nth a i) w c) := by
  have hic : i < cur.length := by rw [h.len]; exact hi
  have hv := wa.nth hia
  refine ⟨by rw [List.length_set, h.len], h.wd.set (subLo_lt _ _ _), addLo_lt _ _ _, by rw [drop_set_succ, drop_succ_of h.rest], ?_⟩
  rw [set_take_val B64 cur i _ hic, take_val_nth B64 s0 i hi, take_val_nth B64 a i hia]
  have e1 := h.eq
  have e2 := ms_eq (s := nth cur i) (h.wd.nth hic) hv hw h.carry
  rw [nth_drop h.rest] at e2 ⊢
  rw [Nat.pow_succ]
  grind
/-- The last word takes the carry. -/
theorem MsInv.done {s0 a cur : List Nat} {w c : Nat} (h : MsInv s0 a w a.length cur c) (hl : s0.length = a.length + 1) :
    val B64 (cur.set a.length (subLo (nth cur a.length) c 0)) + w * val B64 a = val B64 s0 + subHi (nth cur a.length) c 0 * B64 ^ s0.length := by
  have hic : a.length < cur.length := by rw [h.len]; omega
  have e := h.eq
  rw [List.take_length] at e
  have e2 := sub_eq (x := nth cur a.length) (y := c) (c := 0) (h.wd.nth hic) h.carry (by omega)
  have e3 := set_take_val B64 cur a.length (subLo (nth cur a.length) c 0) hic
  rw [List.take_of_length_le (by rw [List.length_set, h.len]; omega)] at e3
  have e4 := take_val_nth B64 s0 a.length (by omega)
  rw [List.take_of_length_le (by omega)] at e4
  rw [e3, e4, hl, Nat.pow_succ]
  rw [nth_drop h.rest] at e2 ⊢
  grind
end Go.Big
namespace Go.Big
open Go Go.RowKit
/-- Long division behind the digits from k on: R is the rest, Q the quotient. -/
structure DdInv (B : Nat) (a b : List Nat) (k : Nat) (R Q : List Nat) : Prop where
  rlen : R.length = a.length + 1
  qlen : Q.length = a.length - b.length + 1
  rwd : Wd B R
  qwd : Wd B Q
  zero : ∀ j, k + b.length ≤ j → nth R j = 0
  lt : val B (R.drop k) < val B b
  eq : val B R + val B b * (B ^ k * val B (Q.drop k)) = val B a

theorem nth_append_right {a b : List Nat} {i : Nat} (h : a.length ≤ i) : nth (a ++ b) i = nth b (i - a.length) := by
  simp [nth, List.getElem?_append_right h]
theorem nth_append_left {a b : List Nat} {i : Nat} (h : i < a.length) : nth (a ++ b) i = nth a i := by
  simp [nth, List.getElem?_append_left h]

theorem DdInv.start {B : Nat} {a b : List Nat} (hB : 1 < B) (wa : Wd B a) (nb : Nz b) (hb : 2 ≤ b.length) (hl : b.length ≤ a.length) :
    DdInv B a b (a.length - b.length + 1) (a ++ zeros 1) (zeros (a.length - b.length + 1)) := by
  refine ⟨by simp [zeros], zeros_len _, wa.append (zeros_wd (by omega) _), zeros_wd (by omega) _, ?_, ?_, ?_⟩
  · intro j hj
    rw [nth_append_right (by omega), zeros_nth]
  · rw [List.drop_append_of_le_length (by omega), val_append, zeros_val, Nat.mul_zero, Nat.add_zero]
    have h1 := val_lt (wa.drop (a.length - b.length + 1))
    have h2 := val_ge (B := B) nb (by intro e; simp [e] at hb)
    rw [List.length_drop, show a.length - (a.length - b.length + 1) = b.length - 1 from by omega] at h1
    omega
  · rw [zeros_drop, zeros_val, val_append, zeros_val]; simp

/-- The window of the rest: its first words and what stands above. -/
theorem window_val {B : Nat} {R : List Nat} {i n : Nat} (hl : i + n + 1 ≤ R.length) (hz : ∀ j, i + 1 + n ≤ j → nth R j = 0) :
    val B ((R.drop i).take (n + 1)) = val B (R.drop i) := by
  rw [take_drop_val B (R.drop i) (n + 1) (by rw [List.length_drop]; omega), List.drop_drop]
  have : val B (R.drop (i + (n + 1))) = 0 := val_of_zero fun j => by rw [nth_drop']; exact hz _ (by omega)
  rw [this]; simp
theorem parts3' (l : List Nat) (k n : Nat) : l = l.take k ++ ((l.drop k).take n ++ l.drop (k + n)) := by
  rw [← List.drop_drop, List.take_append_drop, List.take_append_drop]
theorem DdInv.window {B : Nat} {a b R Q : List Nat} {i : Nat} (h : DdInv B a b (i + 1) R Q) (hi : i ≤ a.length - b.length) (hl : b.length ≤ a.length) :
    ((R.drop i).take (b.length + 1)).length = b.length + 1 ∧ Wd B ((R.drop i).take (b.length + 1)) ∧ val B ((R.drop i).take (b.length + 1)) = val B (R.drop i) ∧
      val B ((R.drop i).take (b.length + 1)) < B * val B b := by
  have hr := h.rlen
  have hv : val B ((R.drop i).take (b.length + 1)) = val B (R.drop i) := window_val (by omega) h.zero
  refine ⟨by rw [List.length_take, List.length_drop]; omega, (h.rwd.drop i).take _, hv, ?_⟩
  rw [hv, drop_val_nth B R i (by omega)]
  have h1 := h.lt
  have h2 := h.rwd.nth (i := i) (by omega)
  have h3 : B * (val B (R.drop (i + 1)) + 1) ≤ B * val B b := Nat.mul_le_mul_left _ h1
  rw [Nat.mul_add, Nat.mul_one] at h3
  omega
theorem DdInv.step {B : Nat} {a b R Q cur : List Nat} {i d : Nat} (h : DdInv B a b (i + 1) R Q) (hi : i ≤ a.length - b.length) (hl : b.length ≤ a.length) (wb : Wd B b)
    (hcl : cur.length = b.length + 1) (hcw : Wd B cur) (hd : d < B) (hlt : val B cur < val B b) (he : val B cur + d * val B b = val B ((R.drop i).take (b.length + 1))) :
    DdInv B a b i (R.take i ++ (cur ++ R.drop (i + (b.length + 1)))) (Q.set i d) := by
  have hr := h.rlen
  have hq := h.qlen
  obtain ⟨w1, w2, w3, w4⟩ := h.window hi hl
  have hpre : (R.take i).length = i := by rw [List.length_take]; omega
  have hpost : ∀ j, nth (R.drop (i + (b.length + 1))) j = 0 := fun j => by rw [nth_drop']; exact h.zero _ (by omega)
  have hp0 : val B (R.drop (i + (b.length + 1))) = 0 := val_of_zero hpost
  have htop : nth cur b.length = 0 := by
    have h1 := val_lt wb
    have e1 := take_val_nth B cur b.length (by omega)
    rw [List.take_of_length_le (by omega)] at e1
    rcases Nat.eq_zero_or_pos (nth cur b.length) with h2 | h2
    · exact h2
    · have : B ^ b.length * 1 ≤ B ^ b.length * nth cur b.length := Nat.mul_le_mul_left _ h2
      omega
  have hdrop : (R.take i ++ (cur ++ R.drop (i + (b.length + 1)))).drop i = cur ++ R.drop (i + (b.length + 1)) := by
    rw [List.drop_append_of_le_length (by omega), List.drop_eq_nil_of_le (by omega), List.nil_append]
  refine ⟨?_, by rw [List.length_set, hq], (h.rwd.take i).append (hcw.append (h.rwd.drop _)), h.qwd.set hd, ?_, ?_, ?_⟩
  · simp only [List.length_append, hpre, hcl, List.length_drop]; omega
  · intro j hj
    rw [nth_append_right (by omega), hpre]
    by_cases hjb : j = i + b.length
    · subst hjb
      rw [nth_append_left (by omega), Nat.add_sub_cancel_left]; exact htop
    · rw [nth_append_right (by omega)]; exact hpost _
  · rw [hdrop, val_append, hp0]; simpa using hlt
  · rw [val_append, val_append, hp0, hpre, drop_val_nth B (Q.set i d) i (by rw [List.length_set]; omega), nth_set_self (by omega), drop_set_succ]
    have e1 := h.eq
    have e2 := congrArg (val B) (parts3' R i (b.length + 1))
    rw [val_append, val_append, hp0, hpre] at e2
    rw [← e1, e2, ← he, Nat.pow_succ]
    grind
theorem DdInv.done {B : Nat} {a b R Q : List Nat} (h : DdInv B a b 0 R Q) (hl : b.length ≤ a.length) : val B Q = val B a / val B b ∧ val B (R.take b.length) = val B a % val B b := by
  have e := h.eq
  have h1 := h.lt
  have hr := h.rlen
  simp only [List.drop_zero, Nat.pow_zero, Nat.one_mul] at e h1
  have h2 : val B (R.take b.length) = val B R := by
    rw [take_drop_val B R b.length (by omega), val_of_zero (l := R.drop b.length) fun j => by rw [nth_drop']; exact h.zero _ (by omega)]
    simp
  rw [h2]
  refine ⟨?_, ?_⟩
  · rw [← e, Nat.add_comm, Nat.mul_add_div (by omega), Nat.div_eq_of_lt h1, Nat.add_zero]
  · rw [← e, Nat.add_comm, Nat.mul_add_mod, Nat.mod_eq_of_lt h1]
/-- Adding back: what is missing, and by how much the digit is too large. -/
structure InInv (s0 b cur : List Nat) (d c : Nat) : Prop where
  len : cur.length = s0.length
  wd : Wd B64 cur
  carry : c ≤ 1
  dlt : d < B64
  eq : val B64 cur + d * val B64 b = val B64 s0 + c * B64 ^ s0.length
  up : val B64 s0 < (d + 1) * val B64 b
theorem InInv.step {s0 b cur cur' : List Nat} {d c' : Nat} (h : InInv s0 b cur d 1) (ha : Added cur b cur' c') : 0 < d ∧ InInv s0 b cur' (d - 1) (1 - c') := by
  have h1 := val_lt h.wd
  rw [h.len] at h1
  have e := h.eq
  have e2 := ha.eq
  rw [h.len] at e2
  have hd : 0 < d := by
    rcases Nat.eq_zero_or_pos d with h2 | h2
    · subst h2; omega
    · exact h2
  obtain ⟨p, rfl⟩ : ∃ p, d = p + 1 := ⟨d - 1, by omega⟩
  have e3 : (p + 1) * val B64 b = p * val B64 b + val B64 b := by rw [Nat.add_mul, Nat.one_mul]
  refine ⟨hd, by rw [ha.len, h.len], ha.wd, by omega, by have := h.dlt; omega, ?_, ?_⟩
  · simp only [Nat.add_sub_cancel]
    rcases Nat.eq_zero_or_pos c' with h4 | h4
    · subst h4; omega
    · have : c' = 1 := by have := ha.carry; omega
      subst this; omega
  · simp only [Nat.add_sub_cancel]; omega
theorem InInv.done {s0 b cur : List Nat} {d : Nat} (h : InInv s0 b cur d 0) : val B64 cur + d * val B64 b = val B64 s0 ∧ val B64 cur < val B64 b := by
  have e := h.eq
  have u := h.up
  have e3 : (d + 1) * val B64 b = d * val B64 b + val B64 b := by rw [Nat.add_mul, Nat.one_mul]
  omega
end Go.Big
