/-
  Walks of the program's functions: WChunks, Fr, IntB, IsDig, Str.
-/
import Derived.Test.YtekghemhccfhkaaGreatDoorB02
import Derived.Test.YtekghemhccfhkaaGreatDoorB09
import Derived.Test.YtekghemhccfhkaaGreatDoorB05
import Derived.Deep.RegionHeld3
import Derived.Test.YtekghemhccfhkaaGreatDoorB08
namespace Go.Big
open Go Go.RowKit
/-- What the call works on: a number of its own, and the bytes in block gb; below B0 all is as it was in W0. -/
structure WcsW (B0 : Nat) (W0 : World) (B gb : Nat) (tb t : TypeId) (wr : World) (v : Value) (l : List Nat) (row : List Nat) : Prop where
  own : OwnL B wr t v l
  wd : Wd B64 l
  row : isRow wr gb tb .u8 row
  lt : gb < B
  bel : Below B0 W0 wr
  bb : B0 ≤ gb
  sz : B ≤ wr.heap.size
theorem WcsW.drewN {B0 : Nat} {W0 : World} {B gb : Nat} {tb t : TypeId} {wr : World} {v : Value} {l row : List Nat} (h : WcsW B0 W0 B gb tb t wr v l row) (d : Nat) : WcsW B0 W0 B gb tb t (wr.drewN d) v l row := by
  obtain ⟨ao, cap, e, h1, h2, h3⟩ := h.own
  refine ⟨⟨ao, cap, e, h1, h2, ?_⟩, h.wd, h.row.drewN d, h.lt, below_drewN h.bel d, h.bb, h.sz⟩
  rcases h3 with h3 | ⟨g, post, e, hg, hr⟩
  · exact .inl h3
  · exact .inr ⟨g, post, e, hg, hr.drewN d⟩
theorem WcsW.putRow {B0 : Nat} {W0 : World} {B gb : Nat} {tb t : TypeId} {wr : World} {v : Value} {l row : List Nat} (h : WcsW B0 W0 B gb tb t wr v l row) (row' : List Nat) : WcsW B0 W0 B gb tb t (wput wr gb .u8 row') v l row' := by
  obtain ⟨ao, cap, e, h1, h2, h3⟩ := h.own
  refine ⟨⟨ao, cap, e, h1, h2, ?_⟩, h.wd, h.row.put row', h.lt, h.bel.put h.bb _ _, h.bb, by rw [put_size]; exact h.sz⟩
  rcases h3 with h3 | ⟨g, post, e, hg, hr⟩
  · exact .inl h3
  · exact .inr ⟨g, post, e, hg, hr.other (by have := h.lt; omega) row'⟩
theorem OwnL.cut {B : Nat} {w : World} {t : TypeId} {ao : Option Addr} {cap : Nat} {l : List Nat} (h : OwnL B w t (.slice ao l.length cap) l) (k : Nat) (hk : k ≤ l.length) : OwnL B w t (.slice ao k cap) (l.take k) := by
  obtain ⟨ao', cap', e, h1, h2, h3⟩ := h
  simp only [Value.slice.injEq] at e
  obtain ⟨rfl, _, rfl⟩ := e
  have hl : (l.take k).length = k := by rw [List.length_take]; omega
  refine ⟨ao, cap, by rw [hl], by omega, by omega, ?_⟩
  rcases h3 with rfl | ⟨g, post, e, hg, hr⟩
  · left; simp
  · exact .inr ⟨g, l.drop k ++ post, e, hg, by rw [← List.append_assoc, List.take_append_drop]; exact hr⟩
end Go.Big
namespace Go.Proofs.YtekghemhccfhkaaGreatDoor
open Go.RowKit Go.Big
set_option maxRecDepth 100000 in
set_option maxHeartbeats 1000000 in
theorem divW_zero (ao : Option Addr) (cap x : Nat) (w : World) : Calls Tryz.prog 173 #[.slice ao 0 cap, .int .u64 x] w fun e w' => e = .returned (.int .u64 0) ∧ ∃ d, w' = w.drewN d := by
  go_enter Tryz.func173, Tryz.ntmps173
  go_wp2_with fail
  go_loopw [5, 6] (fun c i wr => c = .int .u64 0 ∧ i = .int .i64 (-1) ∧ wr = w) (fun _ _ _ => 0)
  case atStart => exact ⟨rfl, rfl, rfl⟩
  case round =>
    obtain ⟨rfl, rfl, rfl⟩ := hrel
    go_wp2_with fail
    go_ret
    exact ⟨rfl, 0, rfl⟩
def DwOwn (B0 : Nat) (W0 : World) (B gb : Nat) (tb : TypeId) (v : Value) (n x : Nat) (row : List Nat) (e : Ending) (w' : World) : Prop :=
  ∃ l' r : _, e = .returned (.int .u64 (r : Nat)) ∧ r = n % x ∧ WcsW B0 W0 B gb tb 71 w' v l' row ∧ val B64 l' = n / x
theorem divW_own {B0 : Nat} {W0 : World} {B gb : Nat} {tb : TypeId} {wr : World} {v : Value} {l row : List Nat} (h : WcsW B0 W0 B gb tb 71 wr v l row) {x n : Nat} (hx0 : 0 < x) (hx : x < 18446744073709551616) (hn : val B64 l = n) :
    Calls Tryz.prog 173 #[v, .int .u64 x] wr (DwOwn B0 W0 B gb tb v n x row) := by
  subst hn
  obtain ⟨ao, cap, rfl, h1, h2, h3⟩ := h.own
  rcases h3 with rfl | ⟨g, post, rfl, hg, hr⟩
  · refine (divW_zero ao cap x wr).mono ?_
    rintro e w' ⟨rfl, d, rfl⟩
    refine ⟨[], 0, rfl, by simp [val], h.drewN d, by simp [val]⟩
  · refine (divideByWord_at (pre := []) (post := post) (by simpa using hr) h.wd hx0 hx h2 rfl rfl).mono ?_
    rintro e w' ⟨cur, d, rfl, rfl, hl, hw, hv⟩
    refine ⟨cur, _, rfl, rfl, WcsW.drewN ⟨⟨some ⟨g, 0, none⟩, cap, by rw [hl], by omega, by omega, .inr ⟨g, post, rfl, hg, ?_⟩⟩, hw, ?_, h.lt, ?_, h.bb, by rw [put_size]; exact h.sz⟩ d, hv⟩
    · exact hr.put _
    · exact h.row.other (by have := h.lt; omega) _
    · exact h.bel.put (by have := h.lt; have := h.bb; omega) _ _
def TrOwn (B0 : Nat) (W0 : World) (B gb : Nat) (tb : TypeId) (n : Nat) (row : List Nat) (e : Ending) (w' : World) : Prop :=
  ∃ v l', e = .returned v ∧ WcsW B0 W0 B gb tb 71 w' v l' row ∧ val B64 l' = n
theorem trim_own {B0 : Nat} {W0 : World} {B gb : Nat} {tb : TypeId} {wr : World} {v : Value} {l row : List Nat} (h : WcsW B0 W0 B gb tb 71 wr v l row) {n : Nat} (hn : val B64 l = n) :
    Calls Tryz.prog 174 #[v] wr (TrOwn B0 W0 B gb tb n row) := by
  subst hn
  obtain ⟨ao, cap, rfl, sa⟩ := h.own.sl
  refine (trim_det_at sa rfl).mono ?_
  rintro e w' ⟨rfl, rfl⟩
  refine ⟨_, l.take (tl l l.length), rfl, ⟨h.own.cut _ (tl_le _ _), h.wd.take _, h.row, h.lt, h.bel, h.bb, h.sz⟩, ?_⟩
  rw [tl_val B64 l _ (Nat.le_refl _), List.take_length]
def WcsPost (B0 : Nat) (W0 : World) (gb : Nat) (tb : TypeId) (row : List Nat) (e : Ending) (w' : World) : Prop := e = .returned (.tuple #[]) ∧ isRow w' gb tb .u8 row ∧ Below B0 W0 w'
def WcsRel (B0 : Nat) (W0 : World) (B gb off capb T n : Nat) (tb : TypeId) (pre cur post : List Nat) (L : Nat) (x y : Value) (wr : World) : Prop :=
  ∃ (l tail : List Nat) (m : Nat), x = .slice (some ⟨gb, off, none⟩) L capb ∧ L ≤ capb ∧ L ≤ T ∧ tail.length + L = T ∧ val B64 l = m ∧ digs T n = digs L m ++ tail ∧ WcsW B0 W0 B gb tb 71 wr y l (pre ++ ((cur.take L ++ tail) ++ post))
theorem slice_bytes {ao : Option Addr} {n cap k : Nat} (h1 : k ≤ n) (w : World) : (Instr.slice 39 (.slice ao n cap) (some (.int .i64 (k : Int))) none none).run Tryz.prog w = .ok (.slice (dropA ao cap k) (n - k) (cap - k)) w :=
  run_slice_from 39 5 Tryz.underlying39 (by kernel_rfl) ao n cap k h1 w
theorem slice_bytes_to {ao : Option Addr} {n cap k : Nat} (h1 : k ≤ cap) (w : World) : (Instr.slice 39 (.slice ao n cap) none (some (.int .i64 (k : Int))) none).run Tryz.prog w = .ok (.slice ao k cap) w :=
  run_slice_to 39 5 Tryz.underlying39 (by kernel_rfl) ao n cap k h1 w
theorem writeChunk_at {w : World} {g cap v off k : Nat} {t : TypeId} {pre cur post : List Nat} (hg : isRow w g t .u8 (pre ++ (cur ++ post))) (hv : v < 18446744073709551616) (hl : cur.length ≤ 1099511627776) (ho : pre.length = off) (hk : cur.length = k) :
    Calls Tryz.prog 172 #[.slice (some ⟨g, off, none⟩) k cap, .int .u64 v] w fun e w' => e = .returned (.tuple #[]) ∧ w' = wput w g .u8 (pre ++ (digs k v ++ post)) := by
  subst ho hk; exact writeChunk_any hg hv hl
set_option maxRecDepth 100000 in
set_option maxHeartbeats 1000000 in
/-- writeChunks -/
theorem writeChunks_any {B0 : Nat} {W0 w : World} {gb capb n off T : Nat} {tb : TypeId} {pre cur post : List Nat} {va : Value} (hr : isRow w gb tb .u8 (pre ++ (cur ++ post))) (ha : NatV w .u64 B64 va n) (hT : cur.length = T) (hcap : T ≤ capb) (ho : pre.length = off) (hm : T ≤ 1099511627776)
    (hb : Below B0 W0 w) (hbb : B0 ≤ gb) :
    Calls Tryz.prog 137 #[.slice (some ⟨gb, off, none⟩) T capb, va] w (WcsPost B0 W0 gb tb (pre ++ (digs T n ++ post))) := by
  obtain ⟨ao, cap, l, rfl, sa, wa, _, ea⟩ := ha
  have HC := Lib.hid (clone_any sa rfl)
  have hgb := hr.lt
  have HR := Lib.hid hr
  have HB := Lib.hid hb
  have HW := Lib.hid (And.intro wa ea)
  have HH := Lib.hid (And.intro hT ho)
  clear sa wa ea hr hb hT ho
  go_enter Tryz.func137, Tryz.ntmps137
  go_wp2_with fail
  refine HC.out.mono ?_
  rintro e w1 ⟨v, rfl, hown, hb1⟩
  have HST := Lib.hid (show WcsRel B0 W0 w.heap.size gb off capb T n tb pre cur post T (.slice (some ⟨gb, off, none⟩) T capb) v w1 from
    ⟨l, [], n, rfl, hcap, Nat.le_refl _, by simp, HW.out.2, by simp, ⟨hown, HW.out.1, by rw [List.take_of_length_le (by rw [HH.out.1]; exact Nat.le_refl _), List.append_nil]; exact HR.out.below hb1, hgb, HB.out.trans (hb1.mono (by omega)), hbb, hb1.size⟩⟩)
  clear hown hb1 HC HW HR
  go_wp2_with fail
  go_loopg [0, 4] T (fun g x y wr => WcsRel B0 W0 w.heap.size gb off capb T n tb pre cur post g x y wr)
  case atStart => exact HST.out
  case round =>
    clear HST
    obtain ⟨l, tail, m, rfl, h1, h2, h3, h4, h5, h6⟩ := hrel
    by_cases h0 : 0 < gk
    · obtain ⟨k, hk⟩ : ∃ k, min gk 19 = k := ⟨_, rfl⟩
      obtain ⟨s, hs⟩ : ∃ s, gk = s + k := ⟨gk - k, by omega⟩
      have hk1 : 0 < k := by omega
      have hgs : gk - s = k := by omega
      have hk2 : k ≤ 19 := by omega
      have hmx : max 0 ((gk : Int) - 19) = (s : Int) := by omega
      have hsl : ∀ w, (Instr.slice 39 (.slice (some ⟨gb, off, none⟩) gk capb) (some (.int .i64 (s : Int))) none none).run Tryz.prog w = .ok (.slice (some ⟨gb, off + s, none⟩) k (capb - s)) w := by
        intro w
        rw [slice_bytes (by omega)]
        unfold dropA
        rw [if_neg (by omega), hgs]
        simp [Addr.add]
      have hsl2 : ∀ w, (Instr.slice 39 (.slice (some ⟨gb, off, none⟩) gk capb) none (some (.int .i64 (s : Int))) none).run Tryz.prog w = .ok (.slice (some ⟨gb, off, none⟩) s capb) w := fun w => slice_bytes_to (by omega) w
      have hD : Calls Tryz.prog 173 #[u4, .int .u64 10000000000000000000] wr.drew (DwOwn B0 W0 w.heap.size gb tb u4 m 10000000000000000000 (pre ++ ((cur.take gk ++ tail) ++ post))) := divW_own (x := 10000000000000000000) (h6.drewN 1) (by decide) (by decide) h4
      have HD := Lib.hid hD
      clear hD
      have HI := Lib.hid (And.intro h3 (And.intro h4 (And.intro h5 h6)))
      have HK := Lib.hid (And.intro hk hs)
      clear h3 h4 h5 h6 hk hs hgs
      have hct : (cur.take gk).length = gk := by rw [List.length_take]; have := HH.out.1; omega
      have hregroup : ∀ mid : List Nat, pre ++ ((cur.take s ++ (mid ++ tail)) ++ post) = (pre ++ cur.take s) ++ (mid ++ (tail ++ post)) := by intro mid; simp
      have hmid : cur.take gk = cur.take s ++ (cur.take gk).drop s := by
        conv => lhs; rw [← List.take_append_drop s (cur.take gk)]
        rw [List.take_take, Nat.min_eq_left (by omega)]
      have hml : ((cur.take gk).drop s).length = k := by rw [List.length_drop, hct]; have := HK.out; omega
      have hrow0 : pre ++ ((cur.take gk ++ tail) ++ post) = (pre ++ cur.take s) ++ ((cur.take gk).drop s ++ (tail ++ post)) := by
        conv => lhs; rw [hmid, List.append_assoc (cur.take s)]
        exact hregroup _
      have hpl : (pre ++ cur.take s).length = off + s := by rw [List.length_append, List.length_take, HH.out.2]; have := HH.out.1; omega
      have HWC := fun (w2 : World) (r : Nat) (hrm : r = m % 10000000000000000000) (hr : isRow w2 gb tb .u8 (pre ++ ((cur.take gk ++ tail) ++ post))) =>
        writeChunk_at (w := w2) (cap := capb - s) (v := r) (by rw [← hrow0]; exact hr) (by rw [hrm]; exact Nat.lt_of_lt_of_le (Nat.mod_lt _ (by decide)) (by decide)) (by rw [hml]; omega) hpl hml
      have HRG := Lib.hid hregroup
      have HWC := Lib.hid HWC
      have HM := Lib.hid hml
      clear hct hmid hml hrow0 hpl hregroup
      go_wp2_with fail
      go_region_held3 (fun w' => True) (exact trivial)
        (first | (go_at_call 173; (with_reducible refine HD.out.mono ?_); rintro e w2 ⟨l2, r, rfl, hr2, hw2, hv2⟩; have HR2 := Lib.hid hr2; clear hr2) | (go_at_call 172; (with_reducible refine (HWC.out _ _ HR2.out hw2.row).mono ?_); rintro e w3 ⟨rfl, hw3⟩) | fail)
      clear hw3
      have hw3 := hw2.putRow (pre ++ ((cur.take s ++ (digs k r ++ tail)) ++ post))
      have hreq : pre ++ ((cur.take s ++ (digs k r ++ tail)) ++ post) = pre ++ (cur.take s ++ (digs k r ++ (tail ++ post))) := by simp
      obtain ⟨W3, hW3⟩ : ∃ W3, wput w2 gb .u8 (pre ++ (cur.take s ++ (digs k r ++ (tail ++ post)))) = W3 := ⟨_, rfl⟩
      rw [hreq, hW3] at hw3
      rw [← hreq] at hw3
      rw [hW3]
      have HTR := Lib.hid (trim_own hw3 hv2)
      clear hw3 hreq hW3 hw2 hv2 HD HWC HRG
      go_wp2_with fail
      refine HTR.out.mono ?_
      rintro e w4 ⟨v', l4, rfl, hw4, hv4⟩
      have hdig : digs T n = digs s (m / 10000000000000000000) ++ (digs k r ++ tail) := by
        have e0 := HI.out.2.2.1
        have e1 := HK.out
        rw [e0, e1.2, digs_add, List.append_assoc]
        have er : digs k r = digs k m := by
          rw [HR2.out]; exact digs_mod k 19 m hk2
        rw [er]
        by_cases hk19 : k = 19
        · rw [hk19]
        · have : s = 0 := by omega
          rw [this]; rfl
      have hlen : (digs k r ++ tail).length + s = T := by
        have e0 := HI.out.1
        have e1 := HK.out
        rw [List.length_append, digs_len]; omega
      have HREL := Lib.hid (show WcsRel B0 W0 w.heap.size gb off capb T n tb pre cur post s (.slice (some ⟨gb, off, none⟩) s capb) v' w4 from
        ⟨l4, digs k r ++ tail, _, rfl, by have := HK.out; omega, by have := HK.out; omega, hlen, hv4, hdig, hw4⟩)
      clear hdig hlen hw4 hv4
      go_wp2_with fail
      go_roundg s
      case rel => exact HREL.out
      case measure => have := HK.out; omega
    · have hg0 : gk = 0 := by omega
      have HF := Lib.hid (And.intro h5 (And.intro h6.row h6.bel))
      clear h3 h4 h5 h6
      go_wp2_with fail
      go_end0
      subst hg0
      refine ⟨rfl, ?_, HF.out.2.2⟩
      have := HF.out.2.1
      rw [List.take_zero, List.nil_append] at this
      rw [HF.out.1]
      exact this
end Go.Proofs.YtekghemhccfhkaaGreatDoor
namespace Go.Big
open Go Go.RowKit
/-- A cell of a struct's box: an int or a pointer. -/
def IP (c : Value) : Prop := (∃ x, c = .int .i64 x) ∨ ∃ p, c = .pointer p
theorem IP.int (x : Int) : IP (.int .i64 x) := .inl ⟨x, rfl⟩
theorem IP.ptr (p : Option Addr) : IP (.pointer p) := .inr ⟨p, rfl⟩
/-- Block g is a box of ints and pointers. -/
def Bx (w : World) (g : Nat) (cs : Array Value) (t : TypeId) : Prop := w.heap[g]? = some (.cells cs t (0, 0)) ∧ ∀ c ∈ cs, IP c
theorem Bx.below {w w' : World} {g : Nat} {cs : Array Value} {t : TypeId} (h : Bx w g cs t) (hb : Below w.heap.size w w') : Bx w' g cs t :=
  ⟨by rw [hb.block g (Array.getElem?_eq_some_iff.1 h.1).1, h.1], h.2⟩
theorem row_set' {w : World} {g : Nat} {cs : Array Value} {t : TypeId} (h : w.heap[g]? = some (.cells cs t (0, 0))) (i : Nat) (v : Value) : (w.setCell ⟨g, i, none⟩ v).heap[g]? = some (.cells (cs.setIfInBounds i v) t (0, 0)) := by
  rw [setCell_eq_setRow w g i cs t (0, 0) v h]
  exact setRow_heap w g cs _ t (0, 0) h
theorem Bx.set {w : World} {g : Nat} {cs : Array Value} {t : TypeId} (h : Bx w g cs t) (i : Nat) {v : Value} (hv : IP v) : Bx (w.setCell ⟨g, i, none⟩ v) g (cs.setIfInBounds i v) t := by
  refine ⟨row_set' h.1 i v, fun c hc => ?_⟩
  rcases Array.mem_or_eq_of_mem_setIfInBounds hc with h1 | h1
  · exact h.2 c h1
  · rw [h1]; exact hv
theorem Bx.other {w : World} {g g' : Nat} {cs : Array Value} {t : TypeId} (h : Bx w g cs t) (hn : g ≠ g') (i : Nat) (v : Value) : Bx (w.setCell ⟨g', i, none⟩ v) g cs t :=
  ⟨by rw [Below.heap_setCell _ _ _ _ hn]; exact h.1, h.2⟩
theorem Bx.drewN {w : World} {g : Nat} {cs : Array Value} {t : TypeId} (h : Bx w g cs t) (n : Nat) : Bx (w.drewN n) g cs t := h
theorem Bx.cell {w : World} {g : Nat} {cs : Array Value} {t : TypeId} (h : Bx w g cs t) (i : Nat) : w.cell? ⟨g, i, none⟩ = cs[i]? := cell_rowB h.1 i
theorem Bx.frozen {w : World} {g : Nat} {cs : Array Value} {t : TypeId} (h : Bx w g cs t) (i : Nat) : w.frozen? ⟨g, i, none⟩ = false := by
  have := h.1
  simp [World.frozen?, this]
theorem Bx.ip {w : World} {g : Nat} {cs : Array Value} {t : TypeId} (h : Bx w g cs t) {i : Nat} {c : Value} (hc : w.cell? ⟨g, i, none⟩ = some c) : IP c := by
  rw [h.cell] at hc
  exact h.2 c (Array.mem_of_getElem? hc)
theorem Bx.lt {w : World} {g : Nat} {cs : Array Value} {t : TypeId} (h : Bx w g cs t) : g < w.heap.size := (Array.getElem?_eq_some_iff.1 h.1).1
theorem Bx.new (w : World) {cs : Array Value} (t : TypeId) (h : ∀ c ∈ cs, IP c) : Bx (w.alloc (.cells cs t)) w.heap.size cs t := ⟨heap_alloc_new w _, h⟩
theorem cell_setO {w : World} {g i : Nat} {c : Value} {p : Addr} (h : p.block ≠ g) : (w.setCell ⟨g, i, none⟩ c).cell? p = w.cell? p :=
  World.cell?_setCell_other _ _ _ _ (fun e => h (by rw [← e]))
theorem SlA.setIP {w : World} {g i : Nat} {cs : Array Value} {t : TypeId} {c : Value} {ao : Option Addr} {cap : Nat} {l : List Nat} {k : IntKind} (hb : Bx w g cs t) (h : SlA w k ao cap l) (hk : k ≠ .i64) : SlA (w.setCell ⟨g, i, none⟩ c) k ao cap l := by
  refine ⟨h.le, h.max, fun hl => ?_⟩
  obtain ⟨b, off, e, hlt, hc⟩ := h.cells hl
  have hne : b ≠ g := by
    rintro rfl
    rcases hb.ip (hc 0 (List.length_pos_iff.2 hl)) with ⟨x, e1⟩ | ⟨p, e1⟩
    · simp only [Value.int.injEq] at e1; exact hk e1.1
    · cases e1
  exact ⟨b, off, e, by simpa using hlt, fun j hj => by rw [cell_setO hne]; exact hc j hj⟩
theorem NatV.setIP {w : World} {g i : Nat} {cs : Array Value} {t : TypeId} {c v : Value} {B n : Nat} (hb : Bx w g cs t) (h : NatV w .u64 B v n) : NatV (w.setCell ⟨g, i, none⟩ c) .u64 B v n := by
  obtain ⟨ao, cap, l, e, hs, r⟩ := h
  exact ⟨ao, cap, l, e, hs.setIP hb (by decide), r⟩
theorem LongV.setIP {w : World} {g i a : Nat} {cs : Array Value} {t : TypeId} {c : Value} {n : Int} (hb : Bx w g cs t) (h : LongV w a n) : LongV (w.setCell ⟨g, i, none⟩ c) a n := by
  obtain ⟨ng, sz, m, h1, h2, h3, h4, h5⟩ := h
  have hne : a ≠ g := by
    rintro rfl
    rcases hb.ip h1 with ⟨x, e1⟩ | ⟨p, e1⟩ <;> cases e1
  exact ⟨ng, sz, m, by rw [cell_setO hne]; exact h1, by rw [cell_setO hne]; exact h2, h3.setIP hb, h4, h5⟩
theorem IntV.setIP {w : World} {g i : Nat} {cs : Array Value} {t : TypeId} {c v : Value} {n : Int} (hb : Bx w g cs t) (h : IntV w v n) : IntV (w.setCell ⟨g, i, none⟩ c) v n := by
  rcases h with h | ⟨a, e, h⟩
  · exact .inl h
  · exact .inr ⟨a, e, h.setIP hb⟩
theorem IntV.drewN {w : World} {v : Value} {n : Int} (h : IntV w v n) (d : Nat) : IntV (w.drewN d) v n := h.below ((Below.refl w.heap.size w).trans ⟨rfl, rfl, rfl, Nat.le_refl _, fun _ _ => rfl⟩)
/-- An Int is two cells: an int and a pointer. -/
theorem IntV.two {w : World} {v : Value} {n : Int} (h : IntV w v n) : ∃ x p, v = .agg #[.int .i64 x, .pointer p] := by
  rcases h with ⟨_, e⟩ | ⟨a, e, _⟩
  · exact ⟨_, _, e⟩
  · exact ⟨_, _, e⟩
/-- An Int as an argument: its two cells, and what is known of them. -/
theorem IntV.cs {w : World} {v : Value} {n : Int} (h : IntV w v n) : (IsS n ∧ v = .agg #[.int .i64 n, .pointer none]) ∨ ∃ a, v = .agg #[.int .i64 0, .pointer (some ⟨a, 0, none⟩)] ∧ LongV w a n ∧ ¬ IsS n := by
  rcases h with ⟨hs, e⟩ | ⟨a, e, h⟩
  · exact .inl ⟨hs, e⟩
  · obtain ⟨ng, sz, m, _, _, _, _, h5⟩ := id h
    exact .inr ⟨a, e, h, h5⟩
theorem box1 (w : World) (cs : Array Value) (t : TypeId) (h : ∀ c ∈ cs, IP c) : ∃ w0, w.alloc (.cells cs t) = w0 ∧ Below w.heap.size w w0 ∧ Bx w0 w.heap.size cs t ∧ w0.heap.size = w.heap.size + 1 := by
  refine ⟨_, rfl, (Below.refl _ _).alloc (Nat.le_refl _) _, Bx.new w t h, by simp⟩
theorem ip2 (x : Int) (p : Option Addr) : ∀ c ∈ #[Value.int .i64 x, .pointer p], IP c := by
  intro c hc; simp at hc; rcases hc with rfl | rfl
  · exact IP.int _
  · exact IP.ptr _
/-- An Int laid in a box. -/
theorem IntV.set2 {w : World} {g i : Nat} {cs : Array Value} {t : TypeId} {x : Int} {p : Option Addr} {v : Value} {n : Int} (hb : Bx w g cs t) (h : IntV w v n) :
    IntV ((w.setCell ⟨g, i, none⟩ (.int .i64 x)).setCell ⟨g, i + 1, none⟩ (.pointer p)) v n :=
  (h.setIP hb).setIP (hb.set i (IP.int x))
end Go.Big
namespace Go.Proofs.YtekghemhccfhkaaGreatDoor
open Go.RowKit Go.Big
def RetInt (w : World) (n : Int) (e : Ending) (w' : World) : Prop := ∃ v, e = .returned v ∧ IntV w' v n ∧ Below w.heap.size w w'
theorem long_new {w1 : World} {sz : Value} {m a : Nat} {ng : Bool} (h : NatV w1 .u64 B64 sz m) (hn : ¬ IsS (signed ng m)) (ha : w1.heap.size = a) :
    LongV (w1.alloc (.cells #[.bool ng, sz] 110)) a (signed ng m) := by
  subst ha
  have hr := heap_alloc_new w1 (.cells #[.bool ng, sz] 110)
  exact ⟨ng, sz, m, by rw [cell_rowB hr]; rfl, by rw [cell_rowB hr]; rfl, h.below (below_box _ _ _), rfl, hn⟩
theorem below3 (w : World) (o1 o2 o3 : Obj) : Below w.heap.size w (((w.alloc o1).alloc o2).alloc o3) :=
  (((Below.refl _ _).alloc (Nat.le_refl _) _).alloc (by simp) _).alloc (by simp; omega) _
theorem below2 (w : World) (o1 o2 : Obj) : Below w.heap.size w ((w.alloc o1).alloc o2) :=
  ((Below.refl _ _).alloc (Nat.le_refl _) _).alloc (by simp) _
set_option maxRecDepth 100000 in
set_option maxHeartbeats 1000000 in
theorem sw_pos {x : Nat} (hx : (x : Int) ≤ 9223372036854775807) (w : World) : Calls Tryz.prog 133 #[.bool false, .int .u64 x] w (RetInt w (x : Int)) := by
  have hw : IntKind.i64.wrap (x : Int) = (x : Int) := by rw [IntKind.wrap_i64]; omega
  go_enter Tryz.func133, Tryz.ntmps133
  go_wp2_with fail
  exact bodyPost_ret (v := smInt x) (by simp [results, Tryz.results133, go_sem, smInt]) rfl ⟨_, rfl, .inl ⟨⟨by omega, hx⟩, rfl⟩, below_box _ _ _⟩
theorem wrap_neg64 {x : Nat} (hx : (x : Int) ≤ 9223372036854775808) : IntKind.i64.wrap (IntKind.u64.wrap (-(x : Int))) = -(x : Int) := by
  rw [IntKind.wrap_i64, IntKind.wrap_u64]; omega
set_option maxRecDepth 100000 in
set_option maxHeartbeats 1000000 in
theorem sw_neg {x : Nat} (hx : (x : Int) ≤ 9223372036854775808) (w : World) : Calls Tryz.prog 133 #[.bool true, .int .u64 x] w (RetInt w (-(x : Int))) := by
  have hw := wrap_neg64 hx
  go_enter Tryz.func133, Tryz.ntmps133
  go_wp2_with fail
  exact bodyPost_ret (v := smInt (-(x : Int))) (by simp [results, Tryz.results133, go_sem, smInt]) rfl ⟨_, rfl, .inl ⟨⟨by omega, by omega⟩, rfl⟩, below_box _ _ _⟩
set_option maxRecDepth 100000 in
set_option maxHeartbeats 1000000 in
theorem sw_long {x : Nat} (ng : Bool) (h : ¬ IsS (signed ng x)) (hx : x < 18446744073709551616) (w : World) : Calls Tryz.prog 133 #[.bool ng, .int .u64 x] w (RetInt w (signed ng x)) := by
  have H := Lib.hid h
  unfold IsS signed at h
  have h0 : 0 < x := by cases ng <;> simp at h <;> omega
  cases ng
  · have h1 : decide ((x : Int) ≤ 9223372036854775807) = false := by simp at h ⊢; omega
    go_enter Tryz.func133, Tryz.ntmps133
    go_wp2_with fail
    refine bodyPost_ret (v := ptrInt (w.heap.size + 2)) (by simp [results, Tryz.results133, go_sem, ptrInt]) rfl ⟨_, rfl, .inr ⟨_, rfl, ?_⟩, below3 _ _ _ _⟩
    exact long_new (by
      have := natv_word h0 hx (w.alloc (.cells #[.int .i64 0, .pointer (some { block := w.heap.size + 1 + 1, off := 0 })] 63))
      simpa using this) H.out (by simp)
  · have h1 : decide ((x : Int) ≤ 9223372036854775808) = false := by simp at h ⊢; omega
    go_enter Tryz.func133, Tryz.ntmps133
    go_wp2_with fail
    refine bodyPost_ret (v := ptrInt (w.heap.size + 2)) (by simp [results, Tryz.results133, go_sem, ptrInt]) rfl ⟨_, rfl, .inr ⟨_, rfl, ?_⟩, below3 _ _ _ _⟩
    exact long_new (by
      have := natv_word h0 hx (w.alloc (.cells #[.int .i64 0, .pointer (some { block := w.heap.size + 1 + 1, off := 0 })] 63))
      simpa using this) H.out (by simp)
theorem signedWord_any (ng : Bool) {x : Nat} (hx : x < 18446744073709551616) (w : World) : Calls Tryz.prog 133 #[.bool ng, .int .u64 x] w (RetInt w (signed ng x)) := by
  by_cases h : IsS (signed ng x)
  · unfold IsS signed at h
    cases ng
    · exact sw_pos (by simp at h; omega) w
    · exact sw_neg (by simp at h; omega) w
  · exact sw_long ng h hx w
/-- signed -/
theorem signed_zero (ng : Bool) (ao : Option Addr) (cap : Nat) (w : World) : Calls Tryz.prog 113 #[.bool ng, .slice ao 0 cap] w (RetInt w 0) := by
  go_enter Tryz.func113, Tryz.ntmps113
  go_wp2_with fail
  exact bodyPost_ret (v := smInt 0) (by simp [results, Tryz.results113, go_sem, smInt]) rfl ⟨_, rfl, .inl ⟨⟨by omega, by omega⟩, rfl⟩, below_box _ _ _⟩
set_option maxRecDepth 100000 in
set_option maxHeartbeats 1000000 in
theorem signed_one (ng : Bool) {x : Nat} (hx : x < 18446744073709551616) {b off cap : Nat} {w : World} (hc : w.cell? ⟨b, off, none⟩ = some (.int .u64 x)) :
    Calls Tryz.prog 113 #[.bool ng, .slice (some ⟨b, off, none⟩) 1 cap] w (RetInt w (signed ng x)) := by
  have hlt := World.block_lt_of_cell? w _ hc
  obtain ⟨w0, hw0⟩ : ∃ w0, w.alloc (.cells #[.int .i64 0, .pointer none] 63) = w0 := ⟨_, rfl⟩
  obtain ⟨hb, hrow, hsz⟩ := box_facts hw0
  have hbx : Bx w0 w.heap.size #[.int .i64 0, .pointer none] 63 := ⟨hrow, by simp [IP]⟩
  have k1 : w0.cell? ⟨b, off, none⟩ = some (.int .u64 x) := (hb.cell (p := ⟨b, off, none⟩) hlt).trans hc
  have HB := Lib.hid hb
  have HX := Lib.hid hbx
  clear hc hb hrow hsz hlt hbx
  go_enter Tryz.func113, Tryz.ntmps113
  go_wp2_with fail
  refine (signedWord_any ng hx _).mono ?_
  rintro e w1 ⟨v, rfl, hv, hb1⟩
  have hx1 := HX.out.below hb1
  obtain ⟨y, p, rfl⟩ := hv.two
  have HV := Lib.hid (hv.set2 (i := 0) (x := y) (p := p) hx1)
  have HB1 := Lib.hid (((below_trans HB.out hb1).setCell (p := ⟨w.heap.size, 0, none⟩) (Nat.le_refl _) (.int .i64 y)).setCell (p := ⟨w.heap.size, 0 + 1, none⟩) (Nat.le_refl _) (.pointer p))
  have c0 := hx1.cell 0
  have c1 := hx1.cell 1
  have f0 := hx1.frozen 0
  have f1 := hx1.frozen 1
  have HX2 := Lib.hid ((hx1.set 0 (IP.int y)).set 1 (IP.ptr p))
  clear hv hb1 hx1 hw0
  go_wp2_with fail
  refine bodyPost_ret (v := .agg #[.int .i64 y, .pointer p]) (by
    have g0 := HX2.out.cell 0
    have g1 := HX2.out.cell 1
    simp [results, Tryz.results113, go_sem, g0, g1]) rfl ⟨_, rfl, HV.out, HB1.out⟩
set_option maxRecDepth 100000 in
set_option maxHeartbeats 1000000 in
theorem signed_many (ng : Bool) {n m cap : Nat} {ao : Option Addr} {w : World} (h : NatV w .u64 B64 (.slice ao n cap) m) (hn : 2 ≤ n) (hs : ¬ IsS (signed ng m)) :
    Calls Tryz.prog 113 #[.bool ng, .slice ao n cap] w (RetInt w (signed ng m)) := by
  have H := Lib.hid (And.intro h hs)
  clear h hs
  go_enter Tryz.func113, Tryz.ntmps113
  go_wp2_with fail
  refine bodyPost_ret (v := ptrInt (w.heap.size + 1)) (by simp [results, Tryz.results113, go_sem, ptrInt]) rfl ⟨_, rfl, .inr ⟨_, rfl, ?_⟩, below2 _ _ _⟩
  exact long_new (H.out.1.below (below_box _ _ _)) H.out.2 (by simp)
theorem signed_any (ng : Bool) {v : Value} {m : Nat} {w : World} (h : NatV w .u64 B64 v m) : Calls Tryz.prog 113 #[.bool ng, v] w (RetInt w (signed ng m)) := by
  have h0 := h
  obtain ⟨ao, cap, l, rfl, sa, wa, za, ea⟩ := h
  by_cases h1 : l.length = 0
  · have : l = [] := List.eq_nil_of_length_eq_zero h1
    subst this
    have : m = 0 := by rw [← ea]; rfl
    subst this
    rw [show signed ng 0 = 0 by unfold signed; split <;> rfl]
    exact signed_zero ng ao cap w
  · by_cases h2 : l.length = 1
    · obtain ⟨x, rfl⟩ := List.length_eq_one_iff.1 h2
      obtain ⟨b, off, rfl, hlt, hc⟩ := sa.at (i := 0) (by simp)
      have hx := wa x (by simp)
      have hm : m = x := by rw [← ea]; simp [val]
      subst hm
      exact signed_one ng hx (hc 0 (by simp))
    · refine signed_many ng h0 (by omega) ?_
      have hne : l ≠ [] := by rintro rfl; simp at h1
      have h3 := val_ge (B := B64) za hne
      have h4 : B64 ^ 1 ≤ B64 ^ (l.length - 1) := Nat.pow_le_pow_right (by decide) (by omega)
      rw [ea] at h3
      have h5 : 18446744073709551616 ≤ m := by rw [Nat.pow_one] at h4; exact Nat.le_trans h4 h3
      unfold IsS signed
      split <;> omega
end Go.Proofs.YtekghemhccfhkaaGreatDoor
namespace Go.Proofs.YtekghemhccfhkaaGreatDoor
open Go.RowKit Go.Big
def IsDigPost (s : ByteArray) (w : World) (e : Ending) (w' : World) : Prop := ∃ b : Bool, e = .returned (.bool b) ∧ (b = true ↔ Dig s.data.toList ∧ 0 < s.size) ∧ w' = w
set_option maxRecDepth 100000 in
set_option maxHeartbeats 1000000 in
/-- isDigits -/
theorem isDigits_any (s : ByteArray) (hl : s.size ≤ 1099511627776) (w : World) :
    Calls Tryz.prog 148 #[.string s] w (IsDigPost s w) := by
  have hsz : s.data.toList.length = s.size := (Lib.size_eq s).symm
  have HS := Lib.hid hsz
  clear hsz
  go_enter Tryz.func148, Tryz.ntmps148
  go_wp2_with fail
  go_loopw [6] (fun y wr => w = wr ∧ ∃ i : Nat, i ≤ s.size ∧ y = .int .i64 i ∧ Hid (Dig (s.data.toList.take i))) (fun y _ => s.size - (intOf y).toNat)
  case atStart => exact ⟨rfl, 0, by omega, rfl, fun b hb => by simp at hb⟩
  case round =>
    obtain ⟨rfl, i, hi, rfl, hdig⟩ := hrel
    by_cases h : i < s.size
    · have hb : s[i] = s.data.toList[i]'(by have := HS.out; omega) := by simp [ByteArray.getElem_eq_getElem_data]
      have hmem : s[i] ∈ s.data.toList := by rw [hb]; exact List.getElem_mem _
      have hnext : 48 ≤ s[i].toNat ∧ s[i].toNat ≤ 57 → Hid (Dig (s.data.toList.take (i + 1))) := by
        intro hc b hbm
        rw [List.take_succ_eq_append_getElem (by have := HS.out; omega), ← hb] at hbm
        rcases List.mem_append.1 hbm with h1 | h1
        · exact hdig.out b h1
        · rw [List.mem_singleton.1 h1]; exact hc
      have HN := Lib.hid hnext
      have HM := Lib.hid hmem
      obtain ⟨c, hc⟩ : ∃ c, s[i].toNat = c := ⟨_, rfl⟩
      have hci : ((s[i].toNat : Nat) : Int) = (c : Int) := by rw [hc]
      have HC := Lib.hid hc
      clear hnext hmem hb hc
      by_cases c1 : c < 48
      · go_wp2_with fail
        go_ret
        refine ⟨false, rfl, ⟨fun h => (by cases h), fun h => ?_⟩, rfl⟩
        have h1 := h.1 _ HM.out
        rw [HC.out] at h1
        omega
      · by_cases c2 : 57 < c
        · go_wp2_with fail
          go_ret
          refine ⟨false, rfl, ⟨fun h => (by cases h), fun h => ?_⟩, rfl⟩
          have h1 := h.1 _ HM.out
          rw [HC.out] at h1
          omega
        · go_wp2_with fail
          go_roundw
          case rel => exact ⟨by first | rfl | trivial, i + 1, by omega, rfl, HN.out (by rw [HC.out]; omega)⟩
          case measure => simp [intOf]; omega
    · have he : i = s.size := by omega
      have hf : s.data.toList.take i = s.data.toList := List.take_of_length_le (by have := HS.out; omega)
      rw [hf] at hdig
      clear hf
      subst he
      by_cases h0 : s.size = 0
      · have hem : s.toList.isEmpty = true := by
          rw [Lib.toList_data, List.isEmpty_iff_length_eq_zero, HS.out]; exact h0
        have H0 := Lib.hid h0
        clear h0
        go_wp2_with fail
        go_ret
        exact ⟨false, rfl, ⟨fun h => (by cases h), fun h => (by have := h.2; have := H0.out; omega)⟩, rfl⟩
      · have hem : s.toList.isEmpty = false := by
          rw [← Bool.not_eq_true, Lib.toList_data, List.isEmpty_iff_length_eq_zero, HS.out]; exact h0
        have H0 := Lib.hid h0
        clear h0
        go_wp2_with fail
        go_ret
        exact ⟨true, rfl, ⟨fun _ => ⟨hdig.out, by have := H0.out; omega⟩, fun _ => rfl⟩, rfl⟩
end Go.Proofs.YtekghemhccfhkaaGreatDoor
namespace Go.Proofs.YtekghemhccfhkaaGreatDoor
open Go.RowKit Go.Big
theorem powers_small {n : Int} (h : n ≤ 608) (w : World) : Calls Tryz.prog 104 #[.int .i64 n] w fun e w' => e = .returned (.slice none 0 0) ∧ w' = w := by
  go_enter Tryz.func104, Tryz.ntmps104
  go_wp2_with fail
  go_ret
  exact ⟨rfl, rfl⟩
theorem readDigits_small {t : ByteArray} {l : List UInt8} (ht : t = ⟨l.toArray⟩) (hd : Dig l) (hl : l.length ≤ 608) (v : Value) (w : World) : Calls Tryz.prog 150 #[.string t, v] w (RetNat w (dec l)) := by
  have hs : t.size ≤ 608 := by rw [ht, Lib.size_mk]; exact hl
  have H := Lib.hid (by have := readChunks_any l hd (by omega) w; rw [← ht] at this; exact this)
  clear ht
  go_enter Tryz.func150, Tryz.ntmps150
  go_wp2_with fail
  refine H.out.mono ?_
  intro e w' hr
  obtain ⟨v', rfl, hv⟩ := hr
  have HV := Lib.hid hv
  clear hv
  go_wp2_with fail
  go_ret
  exact ⟨v', rfl, HV.out⟩
set_option maxRecDepth 100000 in
set_option maxHeartbeats 1000000 in
theorem writeDigits_small {B0 : Nat} {W0 w : World} {gb capb n off T : Nat} {tb : TypeId} {pre cur post : List Nat} {va vp : Value} (hr : isRow w gb tb .u8 (pre ++ (cur ++ post))) (ha : NatV w .u64 B64 va n) (hT : cur.length = T) (hcap : T ≤ capb) (ho : pre.length = off) (hm : T ≤ 608)
    (hb : Below B0 W0 w) (hbb : B0 ≤ gb) :
    Calls Tryz.prog 103 #[.slice (some ⟨gb, off, none⟩) T capb, va, vp] w (WcsPost B0 W0 gb tb (pre ++ (digs T n ++ post))) := by
  have H := Lib.hid (writeChunks_any hr ha hT hcap ho (by omega) hb hbb)
  clear hr ha hT ho hb
  go_enter Tryz.func103, Tryz.ntmps103
  go_wp2_with fail
  refine H.out.mono ?_
  rintro e w' ⟨rfl, h1, h2⟩
  have HF := Lib.hid (And.intro h1 h2)
  clear h1 h2
  go_wp2_with fail
  go_end0
  exact ⟨rfl, HF.out.1, HF.out.2⟩
/-- What FromDigits gives. -/
def FdPost (s : ByteArray) (w : World) (e : Ending) (w' : World) : Prop :=
  ∃ v b, e = .returned (.tuple #[v, .bool b]) ∧ Below w.heap.size w w' ∧ (b = true ∧ Dig s.data.toList ∧ 0 < s.size ∧ IntV w' v (dec s.data.toList) ∨ b = false ∧ ¬ (Dig s.data.toList ∧ 0 < s.size) ∧ IntV w' v 0)
set_option maxRecDepth 100000 in
set_option maxHeartbeats 1000000 in
theorem fromDigits_any (s : ByteArray) (hl : s.size ≤ 608) (w : World) : Calls Tryz.prog 110 #[.string s] w (FdPost s w) := by
  have HD := Lib.hid (fun w => isDigits_any s (by omega) w)
  have HX := Lib.hid (Bx.new w (cs := #[.int .i64 0, .pointer none]) 63 (by simp [IP]))
  have hsz : s.data.toList.length = s.size := (Lib.size_eq s).symm
  have HZ := Lib.hid hsz
  clear hsz
  go_enter Tryz.func110, Tryz.ntmps110
  go_wp2_with fail
  refine (HD.out _).mono ?_
  rintro e w1 ⟨b, rfl, hb, rfl⟩
  have HB := Lib.hid hb
  clear hb HD
  cases b
  · go_wp2_with fail
    refine bodyPost_ret (v := .tuple #[smInt 0, .bool false]) (by simp [results, Tryz.results110, go_sem, smInt]) rfl ⟨_, _, rfl, ?_, .inr ⟨rfl, ?_, .inl ⟨⟨by omega, by omega⟩, rfl⟩⟩⟩
    · exact below_box _ _ _
    · intro h; have := HB.out.2 h; cases this
  · have HG := Lib.hid (HB.out.1 rfl)
    by_cases hs : s.size ≤ 19
    · have hdl : dec s.data.toList < 18446744073709551616 := by
        have h1 := dec_lt HG.out.1
        have h2 : 10 ^ s.data.toList.length ≤ 10 ^ 19 := Nat.pow_le_pow_right (by decide) (by rw [HZ.out]; exact hs)
        exact Nat.lt_of_lt_of_le h1 (Nat.le_trans h2 (by decide))
      have HR := Lib.hid (fun w => readChunk_any s HG.out.1 hs w)
      have HSW := Lib.hid (fun w => signedWord_any false hdl w)
      clear hdl
      go_wp2_with fail
      refine (HR.out _).mono ?_
      rintro e w2 ⟨rfl, rfl⟩
      go_wp2_with fail
      refine (HSW.out _).mono ?_
      rintro e w3 ⟨v, rfl, hv, hb3⟩
      rw [show signed false (dec s.data.toList) = (dec s.data.toList : Int) from rfl] at hv
      have HBB := Lib.hid hb3
      clear hb3 HSW HR
      have hx1 := HX.out.below HBB.out
      obtain ⟨y, p, rfl⟩ := hv.two
      have HV := Lib.hid (hv.set2 (i := 0) (x := y) (p := p) hx1)
      have HB1 := Lib.hid (((below_trans (below_box _ _ _) HBB.out).setCell (p := ⟨w.heap.size, 0, none⟩) (Nat.le_refl _) (.int .i64 y)).setCell (p := ⟨w.heap.size, 0 + 1, none⟩) (Nat.le_refl _) (.pointer p))
      have c0 := hx1.cell 0
      have c1 := hx1.cell 1
      have f0 := hx1.frozen 0
      have f1 := hx1.frozen 1
      have HX2 := Lib.hid ((hx1.set 0 (IP.int y)).set 1 (IP.ptr p))
      clear hv hx1
      go_wp2_with fail
      refine bodyPost_ret (v := .tuple #[.agg #[.int .i64 y, .pointer p], .bool true]) (by
        have g0 := HX2.out.cell 0
        have g1 := HX2.out.cell 1
        simp [results, Tryz.results110, go_sem, g0, g1]) rfl ⟨_, _, rfl, HB1.out, .inl ⟨rfl, HG.out.1, HG.out.2, HV.out⟩⟩
    · have HR := Lib.hid (fun w => readDigits_small (t := s) (l := s.data.toList) (Lib.mk_data s).symm HG.out.1 (by rw [HZ.out]; exact hl) (.slice none 0 0) w)
      go_wp2_with fail
      refine (powers_small (by omega) _).mono ?_
      rintro e w2 ⟨rfl, rfl⟩
      go_wp2_with fail
      refine (HR.out _).mono ?_
      rintro e w3 ⟨v3, rfl, hv3, hb3⟩
      have HB3 := Lib.hid hb3
      have HS := Lib.hid (signed_any false hv3)
      clear hv3 hb3
      go_wp2_with fail
      refine HS.out.mono ?_
      rintro e w4 ⟨v, rfl, hv, hb4⟩
      rw [show signed false (dec s.data.toList) = (dec s.data.toList : Int) from rfl] at hv
      have HBB := Lib.hid (below_trans HB3.out hb4)
      clear hb4 HS HR
      have hx1 := HX.out.below HBB.out
      obtain ⟨y, p, rfl⟩ := hv.two
      have HV := Lib.hid (hv.set2 (i := 0) (x := y) (p := p) hx1)
      have HB1 := Lib.hid (((below_trans (below_box _ _ _) HBB.out).setCell (p := ⟨w.heap.size, 0, none⟩) (Nat.le_refl _) (.int .i64 y)).setCell (p := ⟨w.heap.size, 0 + 1, none⟩) (Nat.le_refl _) (.pointer p))
      have c0 := hx1.cell 0
      have c1 := hx1.cell 1
      have f0 := hx1.frozen 0
      have f1 := hx1.frozen 1
      have HX2 := Lib.hid ((hx1.set 0 (IP.int y)).set 1 (IP.ptr p))
      clear hv hx1
      go_wp2_with fail
      refine bodyPost_ret (v := .tuple #[.agg #[.int .i64 y, .pointer p], .bool true]) (by
        have g0 := HX2.out.cell 0
        have g1 := HX2.out.cell 1
        simp [results, Tryz.results110, go_sem, g0, g1]) rfl ⟨_, _, rfl, HB1.out, .inl ⟨rfl, HG.out.1, HG.out.2, HV.out⟩⟩
end Go.Proofs.YtekghemhccfhkaaGreatDoor
