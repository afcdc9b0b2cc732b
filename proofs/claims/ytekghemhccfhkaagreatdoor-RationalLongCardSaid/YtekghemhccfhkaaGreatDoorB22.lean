/-
  Walks of the program's functions: WChunks, Str, WChunksF.
-/
import Derived.Test.YtekghemhccfhkaaGreatDoorB08
import Derived.Test.YtekghemhccfhkaaGreatDoorB21
import Derived.Test.YtekghemhccfhkaaGreatDoorB17
import Derived.Deep.RegionHeld3
import Derived.Test.YtekghemhccfhkaaGreatDoorB07
import Derived.Test.YtekghemhccfhkaaGreatDoorB16
namespace Go.Big
open Go Go.RowKit
/-- What the call works on: a number of its own, and the bytes in block gb; below B0 all is as it was in W0. -/
structure WcsW (B0 : Nat) (W0 : World) (B gb : Nat) (tb t : TypeId) (wr : World) (v : Value) (l : List Nat) (row : List Nat) : Prop where
  own : OwnL B wr t v l
  wd : Wd B64 l
  row : isRow wr gb tb .u8 row
  lt : gb < B
  bel : Below B0 W0 wr
  bb : B0 ≤ gb
  sz : B ≤ wr.heap.size
theorem WcsW.drewN {B0 : Nat} {W0 : World} {B gb : Nat} {tb t : TypeId} {wr : World} {v : Value} {l row : List Nat} (h : WcsW B0 W0 B gb tb t wr v l row) (d : Nat) : WcsW B0 W0 B gb tb t (wr.drewN d) v l row := by
  obtain ⟨ao, cap, e, h1, h2, h3⟩ := h.own
  refine ⟨⟨ao, cap, e, h1, h2, ?_⟩, h.wd, h.row.drewN d, h.lt, below_drewN h.bel d, h.bb, h.sz⟩
  rcases h3 with h3 | ⟨g, post, e, hg, hr⟩
  · exact .inl h3
  · exact .inr ⟨g, post, e, hg, hr.drewN d⟩
theorem WcsW.putRow {B0 : Nat} {W0 : World} {B gb : Nat} {tb t : TypeId} {wr : World} {v : Value} {l row : List Nat} (h : WcsW B0 W0 B gb tb t wr v l row) (row' : List Nat) : WcsW B0 W0 B gb tb t (wput wr gb .u8 row') v l row' := by
  obtain ⟨ao, cap, e, h1, h2, h3⟩ := h.own
  refine ⟨⟨ao, cap, e, h1, h2, ?_⟩, h.wd, h.row.put row', h.lt, h.bel.put h.bb _ _, h.bb, by rw [put_size]; exact h.sz⟩
  rcases h3 with h3 | ⟨g, post, e, hg, hr⟩
  · exact .inl h3
  · exact .inr ⟨g, post, e, hg, hr.other (by have := h.lt; omega) row'⟩
theorem OwnL.cut {B : Nat} {w : World} {t : TypeId} {ao : Option Addr} {cap : Nat} {l : List Nat} (h : OwnL B w t (.slice ao l.length cap) l) (k : Nat) (hk : k ≤ l.length) : OwnL B w t (.slice ao k cap) (l.take k) := by
  obtain ⟨ao', cap', e, h1, h2, h3⟩ := h
  simp only [Value.slice.injEq] at e
  obtain ⟨rfl, _, rfl⟩ := e
  have hl : (l.take k).length = k := by rw [List.length_take]; omega
  refine ⟨ao, cap, by rw [hl], by omega, by omega, ?_⟩
  rcases h3 with rfl | ⟨g, post, e, hg, hr⟩
  · left; simp
  · exact .inr ⟨g, l.drop k ++ post, e, hg, by rw [← List.append_assoc, List.take_append_drop]; exact hr⟩
end Go.Big
namespace Go.Proofs.YtekghemhccfhkaaGreatDoor
open Go.RowKit Go.Big
set_option maxRecDepth 100000 in
set_option maxHeartbeats 1000000 in
theorem divW_zero (ao : Option Addr) (cap x : Nat) (w : World) : Calls Tryz.prog 173 #[.slice ao 0 cap, .int .u64 x] w fun e w' => e = .returned (.int .u64 0) ∧ ∃ d, w' = w.drewN d := by
  go_enter Tryz.func173, Tryz.ntmps173
  go_wp2_with fail
  go_loopw [5, 6] (fun c i wr => c = .int .u64 0 ∧ i = .int .i64 (-1) ∧ wr = w) (fun _ _ _ => 0)
  case atStart => exact ⟨rfl, rfl, rfl⟩
  case round =>
    obtain ⟨rfl, rfl, rfl⟩ := hrel
    go_wp2_with fail
    go_ret
    exact ⟨rfl, 0, rfl⟩
def DwOwn (B0 : Nat) (W0 : World) (B gb : Nat) (tb : TypeId) (v : Value) (n x : Nat) (row : List Nat) (e : Ending) (w' : World) : Prop :=
  ∃ l' r : _, e = .returned (.int .u64 (r : Nat)) ∧ r = n % x ∧ WcsW B0 W0 B gb tb 71 w' v l' row ∧ val B64 l' = n / x
theorem divW_own {B0 : Nat} {W0 : World} {B gb : Nat} {tb : TypeId} {wr : World} {v : Value} {l row : List Nat} (h : WcsW B0 W0 B gb tb 71 wr v l row) {x n : Nat} (hx0 : 0 < x) (hx : x < 18446744073709551616) (hn : val B64 l = n) :
    Calls Tryz.prog 173 #[v, .int .u64 x] wr (DwOwn B0 W0 B gb tb v n x row) := by
  subst hn
  obtain ⟨ao, cap, rfl, h1, h2, h3⟩ := h.own
  rcases h3 with rfl | ⟨g, post, rfl, hg, hr⟩
  · refine (divW_zero ao cap x wr).mono ?_
    rintro e w' ⟨rfl, d, rfl⟩
    refine ⟨[], 0, rfl, by simp [val], h.drewN d, by simp [val]⟩
  · refine (divideByWord_at (pre := []) (post := post) (by simpa using hr) h.wd hx0 hx h2 rfl rfl).mono ?_
    rintro e w' ⟨cur, d, rfl, rfl, hl, hw, hv⟩
    refine ⟨cur, _, rfl, rfl, WcsW.drewN ⟨⟨some ⟨g, 0, none⟩, cap, by rw [hl], by omega, by omega, .inr ⟨g, post, rfl, hg, ?_⟩⟩, hw, ?_, h.lt, ?_, h.bb, by rw [put_size]; exact h.sz⟩ d, hv⟩
    · exact hr.put _
    · exact h.row.other (by have := h.lt; omega) _
    · exact h.bel.put (by have := h.lt; have := h.bb; omega) _ _
def TrOwn (B0 : Nat) (W0 : World) (B gb : Nat) (tb : TypeId) (n : Nat) (row : List Nat) (e : Ending) (w' : World) : Prop :=
  ∃ v l', e = .returned v ∧ WcsW B0 W0 B gb tb 71 w' v l' row ∧ val B64 l' = n
theorem trim_own {B0 : Nat} {W0 : World} {B gb : Nat} {tb : TypeId} {wr : World} {v : Value} {l row : List Nat} (h : WcsW B0 W0 B gb tb 71 wr v l row) {n : Nat} (hn : val B64 l = n) :
    Calls Tryz.prog 174 #[v] wr (TrOwn B0 W0 B gb tb n row) := by
  subst hn
  obtain ⟨ao, cap, rfl, sa⟩ := h.own.sl
  refine (trim_det_at sa rfl).mono ?_
  rintro e w' ⟨rfl, rfl⟩
  refine ⟨_, l.take (tl l l.length), rfl, ⟨h.own.cut _ (tl_le _ _), h.wd.take _, h.row, h.lt, h.bel, h.bb, h.sz⟩, ?_⟩
  rw [tl_val B64 l _ (Nat.le_refl _), List.take_length]
def WcsPost (B0 : Nat) (W0 : World) (gb : Nat) (tb : TypeId) (row : List Nat) (e : Ending) (w' : World) : Prop := e = .returned (.tuple #[]) ∧ isRow w' gb tb .u8 row ∧ Below B0 W0 w'
def WcsRel (B0 : Nat) (W0 : World) (B gb off capb T n : Nat) (tb : TypeId) (pre cur post : List Nat) (L : Nat) (x y : Value) (wr : World) : Prop :=
  ∃ (l tail : List Nat) (m : Nat), x = .slice (some ⟨gb, off, none⟩) L capb ∧ L ≤ capb ∧ L ≤ T ∧ tail.length + L = T ∧ val B64 l = m ∧ digs T n = digs L m ++ tail ∧ WcsW B0 W0 B gb tb 71 wr y l (pre ++ ((cur.take L ++ tail) ++ post))
theorem slice_bytes {ao : Option Addr} {n cap k : Nat} (h1 : k ≤ n) (w : World) : (Instr.slice 39 (.slice ao n cap) (some (.int .i64 (k : Int))) none none).run Tryz.prog w = .ok (.slice (dropA ao cap k) (n - k) (cap - k)) w :=
  run_slice_from 39 5 Tryz.underlying39 (by kernel_rfl) ao n cap k h1 w
theorem slice_bytes_to {ao : Option Addr} {n cap k : Nat} (h1 : k ≤ cap) (w : World) : (Instr.slice 39 (.slice ao n cap) none (some (.int .i64 (k : Int))) none).run Tryz.prog w = .ok (.slice ao k cap) w :=
  run_slice_to 39 5 Tryz.underlying39 (by kernel_rfl) ao n cap k h1 w
theorem writeChunk_at {w : World} {g cap v off k : Nat} {t : TypeId} {pre cur post : List Nat} (hg : isRow w g t .u8 (pre ++ (cur ++ post))) (hv : v < 18446744073709551616) (hl : cur.length ≤ 1099511627776) (ho : pre.length = off) (hk : cur.length = k) :
    Calls Tryz.prog 172 #[.slice (some ⟨g, off, none⟩) k cap, .int .u64 v] w fun e w' => e = .returned (.tuple #[]) ∧ w' = wput w g .u8 (pre ++ (digs k v ++ post)) := by
  subst ho hk; exact writeChunk_any hg hv hl
set_option maxRecDepth 100000 in
set_option maxHeartbeats 1000000 in
/-- writeChunks -/
theorem writeChunks_any {B0 : Nat} {W0 w : World} {gb capb n off T : Nat} {tb : TypeId} {pre cur post : List Nat} {va : Value} (hr : isRow w gb tb .u8 (pre ++ (cur ++ post))) (ha : NatV w .u64 B64 va n) (hT : cur.length = T) (hcap : T ≤ capb) (ho : pre.length = off) (hm : T ≤ 1099511627776)
    (hb : Below B0 W0 w) (hbb : B0 ≤ gb) :
    Calls Tryz.prog 137 #[.slice (some ⟨gb, off, none⟩) T capb, va] w (WcsPost B0 W0 gb tb (pre ++ (digs T n ++ post))) := by
  obtain ⟨ao, cap, l, rfl, sa, wa, _, ea⟩ := ha
  have HC := Lib.hid (clone_any sa rfl)
  have hgb := hr.lt
  have HR := Lib.hid hr
  have HB := Lib.hid hb
  have HW := Lib.hid (And.intro wa ea)
  have HH := Lib.hid (And.intro hT ho)
  clear sa wa ea hr hb hT ho
  go_enter Tryz.func137, Tryz.ntmps137
  go_wp2_with fail
  refine HC.out.mono ?_
  rintro e w1 ⟨v, rfl, hown, hb1⟩
  have HST := Lib.hid (show WcsRel B0 W0 w.heap.size gb off capb T n tb pre cur post T (.slice (some ⟨gb, off, none⟩) T capb) v w1 from
    ⟨l, [], n, rfl, hcap, Nat.le_refl _, by simp, HW.out.2, by simp, ⟨hown, HW.out.1, by rw [List.take_of_length_le (by rw [HH.out.1]; exact Nat.le_refl _), List.append_nil]; exact HR.out.below hb1, hgb, HB.out.trans (hb1.mono (by omega)), hbb, hb1.size⟩⟩)
  clear hown hb1 HC HW HR
  go_wp2_with fail
  go_loopg [0, 4] T (fun g x y wr => WcsRel B0 W0 w.heap.size gb off capb T n tb pre cur post g x y wr)
  case atStart => exact HST.out
  case round =>
    clear HST
    obtain ⟨l, tail, m, rfl, h1, h2, h3, h4, h5, h6⟩ := hrel
    by_cases h0 : 0 < gk
    · obtain ⟨k, hk⟩ : ∃ k, min gk 19 = k := ⟨_, rfl⟩
      obtain ⟨s, hs⟩ : ∃ s, gk = s + k := ⟨gk - k, by omega⟩
      have hk1 : 0 < k := by omega
      have hgs : gk - s = k := by omega
      have hk2 : k ≤ 19 := by omega
      have hmx : max 0 ((gk : Int) - 19) = (s : Int) := by omega
      have hsl : ∀ w, (Instr.slice 39 (.slice (some ⟨gb, off, none⟩) gk capb) (some (.int .i64 (s : Int))) none none).run Tryz.prog w = .ok (.slice (some ⟨gb, off + s, none⟩) k (capb - s)) w := by
        intro w
        rw [slice_bytes (by omega)]
        unfold dropA
        rw [if_neg (by omega), hgs]
        simp [Addr.add]
      have hsl2 : ∀ w, (Instr.slice 39 (.slice (some ⟨gb, off, none⟩) gk capb) none (some (.int .i64 (s : Int))) none).run Tryz.prog w = .ok (.slice (some ⟨gb, off, none⟩) s capb) w := fun w => slice_bytes_to (by omega) w
      have hD : Calls Tryz.prog 173 #[u4, .int .u64 10000000000000000000] wr.drew (DwOwn B0 W0 w.heap.size gb tb u4 m 10000000000000000000 (pre ++ ((cur.take gk ++ tail) ++ post))) := divW_own (x := 10000000000000000000) (h6.drewN 1) (by decide) (by decide) h4
      have HD := Lib.hid hD
      clear hD
      have HI := Lib.hid (And.intro h3 (And.intro h4 (And.intro h5 h6)))
      have HK := Lib.hid (And.intro hk hs)
      clear h3 h4 h5 h6 hk hs hgs
      have hct : (cur.take gk).length = gk := by rw [List.length_take]; have := HH.out.1; omega
      have hregroup : ∀ mid : List Nat, pre ++ ((cur.take s ++ (mid ++ tail)) ++ post) = (pre ++ cur.take s) ++ (mid ++ (tail ++ post)) := by intro mid; simp
      have hmid : cur.take gk = cur.take s ++ (cur.take gk).drop s := by
        conv => lhs; rw [← List.take_append_drop s (cur.take gk)]
        rw [List.take_take, Nat.min_eq_left (by omega)]
      have hml : ((cur.take gk).drop s).length = k := by rw [List.length_drop, hct]; have := HK.out; omega
      have hrow0 : pre ++ ((cur.take gk ++ tail) ++ post) = (pre ++ cur.take s) ++ ((cur.take gk).drop s ++ (tail ++ post)) := by
        conv => lhs; rw [hmid, List.append_assoc (cur.take s)]
        exact hregroup _
      have hpl : (pre ++ cur.take s).length = off + s := by rw [List.length_append, List.length_take, HH.out.2]; have := HH.out.1; omega
      have HWC := fun (w2 : World) (r : Nat) (hrm : r = m % 10000000000000000000) (hr : isRow w2 gb tb .u8 (pre ++ ((cur.take gk ++ tail) ++ post))) =>
        writeChunk_at (w := w2) (cap := capb - s) (v := r) (by rw [← hrow0]; exact hr) (by rw [hrm]; exact Nat.lt_of_lt_of_le (Nat.mod_lt _ (by decide)) (by decide)) (by rw [hml]; omega) hpl hml
      have HRG := Lib.hid hregroup
      have HWC := Lib.hid HWC
      have HM := Lib.hid hml
      clear hct hmid hml hrow0 hpl hregroup
      go_wp2_with fail
      go_region_held3 (fun w' => True) (exact trivial)
        (first | (go_at_call 173; (with_reducible refine HD.out.mono ?_); rintro e w2 ⟨l2, r, rfl, hr2, hw2, hv2⟩; have HR2 := Lib.hid hr2; clear hr2) | (go_at_call 172; (with_reducible refine (HWC.out _ _ HR2.out hw2.row).mono ?_); rintro e w3 ⟨rfl, hw3⟩) | fail)
      clear hw3
      have hw3 := hw2.putRow (pre ++ ((cur.take s ++ (digs k r ++ tail)) ++ post))
      have hreq : pre ++ ((cur.take s ++ (digs k r ++ tail)) ++ post) = pre ++ (cur.take s ++ (digs k r ++ (tail ++ post))) := by simp
      obtain ⟨W3, hW3⟩ : ∃ W3, wput w2 gb .u8 (pre ++ (cur.take s ++ (digs k r ++ (tail ++ post)))) = W3 := ⟨_, rfl⟩
      rw [hreq, hW3] at hw3
      rw [← hreq] at hw3
      rw [hW3]
      have HTR := Lib.hid (trim_own hw3 hv2)
      clear hw3 hreq hW3 hw2 hv2 HD HWC HRG
      go_wp2_with fail
      refine HTR.out.mono ?_
      rintro e w4 ⟨v', l4, rfl, hw4, hv4⟩
      have hdig : digs T n = digs s (m / 10000000000000000000) ++ (digs k r ++ tail) := by
        have e0 := HI.out.2.2.1
        have e1 := HK.out
        rw [e0, e1.2, digs_add, List.append_assoc]
        have er : digs k r = digs k m := by
          rw [HR2.out]; exact digs_mod k 19 m hk2
        rw [er]
        by_cases hk19 : k = 19
        · rw [hk19]
        · have : s = 0 := by omega
          rw [this]; rfl
      have hlen : (digs k r ++ tail).length + s = T := by
        have e0 := HI.out.1
        have e1 := HK.out
        rw [List.length_append, digs_len]; omega
      have HREL := Lib.hid (show WcsRel B0 W0 w.heap.size gb off capb T n tb pre cur post s (.slice (some ⟨gb, off, none⟩) s capb) v' w4 from
        ⟨l4, digs k r ++ tail, _, rfl, by have := HK.out; omega, by have := HK.out; omega, hlen, hv4, hdig, hw4⟩)
      clear hdig hlen hw4 hv4
      go_wp2_with fail
      go_roundg s
      case rel => exact HREL.out
      case measure => have := HK.out; omega
    · have hg0 : gk = 0 := by omega
      have HF := Lib.hid (And.intro h5 (And.intro h6.row h6.bel))
      clear h3 h4 h5 h6
      go_wp2_with fail
      go_end0
      subst hg0
      refine ⟨rfl, ?_, HF.out.2.2⟩
      have := HF.out.2.1
      rw [List.take_zero, List.nil_append] at this
      rw [HF.out.1]
      exact this
end Go.Proofs.YtekghemhccfhkaaGreatDoor
namespace Go.Proofs.YtekghemhccfhkaaGreatDoor
open Go.RowKit Go.Big
theorem powers_small {n : Int} (h : n ≤ 608) (w : World) : Calls Tryz.prog 104 #[.int .i64 n] w fun e w' => e = .returned (.slice none 0 0) ∧ w' = w := by
  go_enter Tryz.func104, Tryz.ntmps104
  go_wp2_with fail
  go_ret
  exact ⟨rfl, rfl⟩
theorem readDigits_small {t : ByteArray} {l : List UInt8} (ht : t = ⟨l.toArray⟩) (hd : Dig l) (hl : l.length ≤ 608) (v : Value) (w : World) : Calls Tryz.prog 150 #[.string t, v] w (RetNat w (dec l)) := by
  have hs : t.size ≤ 608 := by rw [ht, Lib.size_mk]; exact hl
  have H := Lib.hid (by have := readChunks_any l hd (by omega) w; rw [← ht] at this; exact this)
  clear ht
  go_enter Tryz.func150, Tryz.ntmps150
  go_wp2_with fail
  refine H.out.mono ?_
  intro e w' hr
  obtain ⟨v', rfl, hv⟩ := hr
  have HV := Lib.hid hv
  clear hv
  go_wp2_with fail
  go_ret
  exact ⟨v', rfl, HV.out⟩
set_option maxRecDepth 100000 in
set_option maxHeartbeats 1000000 in
theorem writeDigits_small {B0 : Nat} {W0 w : World} {gb capb n off T : Nat} {tb : TypeId} {pre cur post : List Nat} {va vp : Value} (hr : isRow w gb tb .u8 (pre ++ (cur ++ post))) (ha : NatV w .u64 B64 va n) (hT : cur.length = T) (hcap : T ≤ capb) (ho : pre.length = off) (hm : T ≤ 608)
    (hb : Below B0 W0 w) (hbb : B0 ≤ gb) :
    Calls Tryz.prog 103 #[.slice (some ⟨gb, off, none⟩) T capb, va, vp] w (WcsPost B0 W0 gb tb (pre ++ (digs T n ++ post))) := by
  have H := Lib.hid (writeChunks_any hr ha hT hcap ho (by omega) hb hbb)
  clear hr ha hT ho hb
  go_enter Tryz.func103, Tryz.ntmps103
  go_wp2_with fail
  refine H.out.mono ?_
  rintro e w' ⟨rfl, h1, h2⟩
  have HF := Lib.hid (And.intro h1 h2)
  clear h1 h2
  go_wp2_with fail
  go_end0
  exact ⟨rfl, HF.out.1, HF.out.2⟩
/-- What FromDigits gives. -/
def FdPost (s : ByteArray) (w : World) (e : Ending) (w' : World) : Prop :=
  ∃ v b, e = .returned (.tuple #[v, .bool b]) ∧ Below w.heap.size w w' ∧ (b = true ∧ Dig s.data.toList ∧ 0 < s.size ∧ IntV w' v (dec s.data.toList) ∨ b = false ∧ ¬ (Dig s.data.toList ∧ 0 < s.size) ∧ IntV w' v 0)
set_option maxRecDepth 100000 in
set_option maxHeartbeats 1000000 in
theorem fromDigits_any (s : ByteArray) (hl : s.size ≤ 608) (w : World) : Calls Tryz.prog 110 #[.string s] w (FdPost s w) := by
  have HD := Lib.hid (fun w => isDigits_any s (by omega) w)
  have HX := Lib.hid (Bx.new w (cs := #[.int .i64 0, .pointer none]) 63 (by simp [IP]))
  have hsz : s.data.toList.length = s.size := (Lib.size_eq s).symm
  have HZ := Lib.hid hsz
  clear hsz
  go_enter Tryz.func110, Tryz.ntmps110
  go_wp2_with fail
  refine (HD.out _).mono ?_
  rintro e w1 ⟨b, rfl, hb, rfl⟩
  have HB := Lib.hid hb
  clear hb HD
  cases b
  · go_wp2_with fail
    refine bodyPost_ret (v := .tuple #[smInt 0, .bool false]) (by simp [results, Tryz.results110, go_sem, smInt]) rfl ⟨_, _, rfl, ?_, .inr ⟨rfl, ?_, .inl ⟨⟨by omega, by omega⟩, rfl⟩⟩⟩
    · exact below_box _ _ _
    · intro h; have := HB.out.2 h; cases this
  · have HG := Lib.hid (HB.out.1 rfl)
    by_cases hs : s.size ≤ 19
    · have hdl : dec s.data.toList < 18446744073709551616 := by
        have h1 := dec_lt HG.out.1
        have h2 : 10 ^ s.data.toList.length ≤ 10 ^ 19 := Nat.pow_le_pow_right (by decide) (by rw [HZ.out]; exact hs)
        exact Nat.lt_of_lt_of_le h1 (Nat.le_trans h2 (by decide))
      have HR := Lib.hid (fun w => readChunk_any s HG.out.1 hs w)
      have HSW := Lib.hid (fun w => signedWord_any false hdl w)
      clear hdl
      go_wp2_with fail
      refine (HR.out _).mono ?_
      rintro e w2 ⟨rfl, rfl⟩
      go_wp2_with fail
      refine (HSW.out _).mono ?_
      rintro e w3 ⟨v, rfl, hv, hb3⟩
      rw [show signed false (dec s.data.toList) = (dec s.data.toList : Int) from rfl] at hv
      have HBB := Lib.hid hb3
      clear hb3 HSW HR
      have hx1 := HX.out.below HBB.out
      obtain ⟨y, p, rfl⟩ := hv.two
      have HV := Lib.hid (hv.set2 (i := 0) (x := y) (p := p) hx1)
      have HB1 := Lib.hid (((below_trans (below_box _ _ _) HBB.out).setCell (p := ⟨w.heap.size, 0, none⟩) (Nat.le_refl _) (.int .i64 y)).setCell (p := ⟨w.heap.size, 0 + 1, none⟩) (Nat.le_refl _) (.pointer p))
      have c0 := hx1.cell 0
      have c1 := hx1.cell 1
      have f0 := hx1.frozen 0
      have f1 := hx1.frozen 1
      have HX2 := Lib.hid ((hx1.set 0 (IP.int y)).set 1 (IP.ptr p))
      clear hv hx1
      go_wp2_with fail
      refine bodyPost_ret (v := .tuple #[.agg #[.int .i64 y, .pointer p], .bool true]) (by
        have g0 := HX2.out.cell 0
        have g1 := HX2.out.cell 1
        simp [results, Tryz.results110, go_sem, g0, g1]) rfl ⟨_, _, rfl, HB1.out, .inl ⟨rfl, HG.out.1, HG.out.2, HV.out⟩⟩
    · have HR := Lib.hid (fun w => readDigits_small (t := s) (l := s.data.toList) (Lib.mk_data s).symm HG.out.1 (by rw [HZ.out]; exact hl) (.slice none 0 0) w)
      go_wp2_with fail
      refine (powers_small (by omega) _).mono ?_
      rintro e w2 ⟨rfl, rfl⟩
      go_wp2_with fail
      refine (HR.out _).mono ?_
      rintro e w3 ⟨v3, rfl, hv3, hb3⟩
      have HB3 := Lib.hid hb3
      have HS := Lib.hid (signed_any false hv3)
      clear hv3 hb3
      go_wp2_with fail
      refine HS.out.mono ?_
      rintro e w4 ⟨v, rfl, hv, hb4⟩
      rw [show signed false (dec s.data.toList) = (dec s.data.toList : Int) from rfl] at hv
      have HBB := Lib.hid (below_trans HB3.out hb4)
      clear hb4 HS HR
      have hx1 := HX.out.below HBB.out
      obtain ⟨y, p, rfl⟩ := hv.two
      have HV := Lib.hid (hv.set2 (i := 0) (x := y) (p := p) hx1)
      have HB1 := Lib.hid (((below_trans (below_box _ _ _) HBB.out).setCell (p := ⟨w.heap.size, 0, none⟩) (Nat.le_refl _) (.int .i64 y)).setCell (p := ⟨w.heap.size, 0 + 1, none⟩) (Nat.le_refl _) (.pointer p))
      have c0 := hx1.cell 0
      have c1 := hx1.cell 1
      have f0 := hx1.frozen 0
      have f1 := hx1.frozen 1
      have HX2 := Lib.hid ((hx1.set 0 (IP.int y)).set 1 (IP.ptr p))
      clear hv hx1
      go_wp2_with fail
      refine bodyPost_ret (v := .tuple #[.agg #[.int .i64 y, .pointer p], .bool true]) (by
        have g0 := HX2.out.cell 0
        have g1 := HX2.out.cell 1
        simp [results, Tryz.results110, go_sem, g0, g1]) rfl ⟨_, _, rfl, HB1.out, .inl ⟨rfl, HG.out.1, HG.out.2, HV.out⟩⟩
end Go.Proofs.YtekghemhccfhkaaGreatDoor
namespace Go.Big
open Go Go.RowKit
/-- Every block that was there lies as it lay, but that of number g. -/
structure Fx (g : Nat) (w w' : World) : Prop where
  os : w'.os = w.os
  tape : w'.tape = w.tape
  output : w'.output = w.output
  size : w.heap.size ≤ w'.heap.size
  block : ∀ j, j < w.heap.size → j ≠ g → w'.heap[j]? = w.heap[j]?
theorem Fx.refl (g : Nat) (w : World) : Fx g w w := ⟨rfl, rfl, rfl, Nat.le_refl _, fun _ _ _ => rfl⟩
theorem Fx.of_below (g : Nat) {w w' : World} (h : Below w.heap.size w w') : Fx g w w' := ⟨h.os, h.tape, h.output, h.size, fun j hj _ => h.block j hj⟩
theorem Fx.trans {g : Nat} {a b c : World} (h : Fx g a b) (k : Fx g b c) : Fx g a c := ⟨k.os.trans h.os, k.tape.trans h.tape, k.output.trans h.output, Nat.le_trans h.size k.size, fun j hj hn => (k.block j (Nat.lt_of_lt_of_le hj h.size) hn).trans (h.block j hj hn)⟩
theorem Fx.below {g B : Nat} {w w' : World} (h : Fx g w w') (hg : B ≤ g) (hB : B ≤ w.heap.size) : Below B w w' := ⟨h.os, h.tape, h.output, h.size, fun j hj => h.block j (by omega) (by omega)⟩
theorem Fx.drewN {g : Nat} {w w' : World} (h : Fx g w w') (d : Nat) : Fx g w (w'.drewN d) := ⟨h.os, h.tape, h.output, h.size, h.block⟩
theorem Fx.putSelf {g : Nat} {w w' : World} (h : Fx g w w') (k : IntKind) (l : List Nat) : Fx g w (wput w' g k l) :=
  ⟨h.os, h.tape, h.output, by rw [put_size]; exact h.size, fun j hj hn => (setRow_other w' g j _ hn).trans (h.block j hj hn)⟩
theorem Fx.put {g : Nat} {w w' : World} (h : Fx g w w') {g' : Nat} (hg : w.heap.size ≤ g') (k : IntKind) (l : List Nat) : Fx g w (wput w' g' k l) :=
  ⟨h.os, h.tape, h.output, by rw [put_size]; exact h.size, fun j hj hn => (setRow_other w' g' j _ (by omega)).trans (h.block j hj hn)⟩
theorem Fx.cell {g : Nat} {w w' : World} (h : Fx g w w') {p : Addr} (hp : p.block < w.heap.size) (hn : p.block ≠ g) : w'.cell? p = w.cell? p := World.cell?_of_block (h.block p.block hp hn)
/-- A number lies elsewhere than a row of bytes. -/
theorem SlA.fx {g : Nat} {w w' : World} {tb : TypeId} {row : List Nat} {ao : Option Addr} {cap : Nat} {l : List Nat} (h : SlA w .u64 ao cap l) (hr : isRow w g tb .u8 row) (hf : Fx g w w') : SlA w' .u64 ao cap l := by
  refine ⟨h.le, h.max, fun hl => ?_⟩
  obtain ⟨b, off, e, hlt, hc⟩ := h.cells hl
  have hne : b ≠ g := by
    rintro rfl
    have h1 := hc 0 (List.length_pos_iff.2 hl)
    unfold isRow at hr
    rw [cell_rowB hr] at h1
    have h2 : (off + 0) < (cellsOf .u8 row).size := by
      rcases Nat.lt_or_ge (off + 0) (cellsOf .u8 row).size with h | h
      · exact h
      · rw [Array.getElem?_eq_none h] at h1; cases h1
    have h3 : off + 0 < row.length := by simpa [cellsOf] using h2
    rw [cellsOf_get h3] at h1
    cases h1
  exact ⟨b, off, e, Nat.lt_of_lt_of_le hlt hf.size, fun j hj => by rw [hf.cell (p := ⟨b, off + j, none⟩) hlt hne]; exact hc j hj⟩
theorem NatV.fx {g : Nat} {w w' : World} {tb : TypeId} {row : List Nat} {v : Value} {n : Nat} (h : NatV w .u64 B64 v n) (hr : isRow w g tb .u8 row) (hf : Fx g w w') : NatV w' .u64 B64 v n := by
  obtain ⟨ao, cap, l, e, hs, r⟩ := h
  exact ⟨ao, cap, l, e, hs.fx hr hf, r⟩
end Go.Big
namespace Go.Big
open Go Go.RowKit
/-- What the call works on: a number of its own, and the bytes in block gb; below B0 all is as it was in W0. -/
structure FcsW (W0 : World) (B gb : Nat) (tb t : TypeId) (wr : World) (v : Value) (l : List Nat) (row : List Nat) : Prop where
  own : OwnL B wr t v l
  wd : Wd B64 l
  row : isRow wr gb tb .u8 row
  lt : gb < B
  bel : Fx gb W0 wr
  bb : W0.heap.size ≤ B
  sz : B ≤ wr.heap.size
theorem FcsW.drewN {W0 : World} {B gb : Nat} {tb t : TypeId} {wr : World} {v : Value} {l row : List Nat} (h : FcsW W0 B gb tb t wr v l row) (d : Nat) : FcsW W0 B gb tb t (wr.drewN d) v l row := by
  obtain ⟨ao, cap, e, h1, h2, h3⟩ := h.own
  refine ⟨⟨ao, cap, e, h1, h2, ?_⟩, h.wd, h.row.drewN d, h.lt, h.bel.drewN d, h.bb, h.sz⟩
  rcases h3 with h3 | ⟨g, post, e, hg, hr⟩
  · exact .inl h3
  · exact .inr ⟨g, post, e, hg, hr.drewN d⟩
theorem FcsW.putRow {W0 : World} {B gb : Nat} {tb t : TypeId} {wr : World} {v : Value} {l row : List Nat} (h : FcsW W0 B gb tb t wr v l row) (row' : List Nat) : FcsW W0 B gb tb t (wput wr gb .u8 row') v l row' := by
  obtain ⟨ao, cap, e, h1, h2, h3⟩ := h.own
  refine ⟨⟨ao, cap, e, h1, h2, ?_⟩, h.wd, h.row.put row', h.lt, h.bel.putSelf _ _, h.bb, by rw [put_size]; exact h.sz⟩
  rcases h3 with h3 | ⟨g, post, e, hg, hr⟩
  · exact .inl h3
  · exact .inr ⟨g, post, e, hg, hr.other (by have := h.lt; omega) row'⟩
end Go.Big
namespace Go.Proofs.YtekghemhccfhkaaGreatDoor
open Go.RowKit Go.Big
def FDwOwn (W0 : World) (B gb : Nat) (tb : TypeId) (v : Value) (n x : Nat) (row : List Nat) (e : Ending) (w' : World) : Prop :=
  ∃ l' r : _, e = .returned (.int .u64 (r : Nat)) ∧ r = n % x ∧ FcsW W0 B gb tb 71 w' v l' row ∧ val B64 l' = n / x
theorem divF_own {W0 : World} {B gb : Nat} {tb : TypeId} {wr : World} {v : Value} {l row : List Nat} (h : FcsW W0 B gb tb 71 wr v l row) {x n : Nat} (hx0 : 0 < x) (hx : x < 18446744073709551616) (hn : val B64 l = n) :
    Calls Tryz.prog 173 #[v, .int .u64 x] wr (FDwOwn W0 B gb tb v n x row) := by
  subst hn
  obtain ⟨ao, cap, rfl, h1, h2, h3⟩ := h.own
  rcases h3 with rfl | ⟨g, post, rfl, hg, hr⟩
  · refine (divW_zero ao cap x wr).mono ?_
    rintro e w' ⟨rfl, d, rfl⟩
    refine ⟨[], 0, rfl, by simp [val], h.drewN d, by simp [val]⟩
  · refine (divideByWord_at (pre := []) (post := post) (by simpa using hr) h.wd hx0 hx h2 rfl rfl).mono ?_
    rintro e w' ⟨cur, d, rfl, rfl, hl, hw, hv⟩
    refine ⟨cur, _, rfl, rfl, FcsW.drewN ⟨⟨some ⟨g, 0, none⟩, cap, by rw [hl], by omega, by omega, .inr ⟨g, post, rfl, hg, ?_⟩⟩, hw, ?_, h.lt, ?_, h.bb, by rw [put_size]; exact h.sz⟩ d, hv⟩
    · exact hr.put _
    · exact h.row.other (by have := h.lt; omega) _
    · exact h.bel.put (Nat.le_trans h.bb hg) _ _
def FTrOwn (W0 : World) (B gb : Nat) (tb : TypeId) (n : Nat) (row : List Nat) (e : Ending) (w' : World) : Prop :=
  ∃ v l', e = .returned v ∧ FcsW W0 B gb tb 71 w' v l' row ∧ val B64 l' = n
theorem trimF_own {W0 : World} {B gb : Nat} {tb : TypeId} {wr : World} {v : Value} {l row : List Nat} (h : FcsW W0 B gb tb 71 wr v l row) {n : Nat} (hn : val B64 l = n) :
    Calls Tryz.prog 174 #[v] wr (FTrOwn W0 B gb tb n row) := by
  subst hn
  obtain ⟨ao, cap, rfl, sa⟩ := h.own.sl
  refine (trim_det_at sa rfl).mono ?_
  rintro e w' ⟨rfl, rfl⟩
  refine ⟨_, l.take (tl l l.length), rfl, ⟨h.own.cut _ (tl_le _ _), h.wd.take _, h.row, h.lt, h.bel, h.bb, h.sz⟩, ?_⟩
  rw [tl_val B64 l _ (Nat.le_refl _), List.take_length]
def FcsPost (W0 : World) (gb : Nat) (tb : TypeId) (row : List Nat) (e : Ending) (w' : World) : Prop := e = .returned (.tuple #[]) ∧ isRow w' gb tb .u8 row ∧ Fx gb W0 w'
def FcsRel (W0 : World) (B gb off capb T n : Nat) (tb : TypeId) (pre cur post : List Nat) (L : Nat) (x y : Value) (wr : World) : Prop :=
  ∃ (l tail : List Nat) (m : Nat), x = .slice (some ⟨gb, off, none⟩) L capb ∧ L ≤ capb ∧ L ≤ T ∧ tail.length + L = T ∧ val B64 l = m ∧ digs T n = digs L m ++ tail ∧ FcsW W0 B gb tb 71 wr y l (pre ++ ((cur.take L ++ tail) ++ post))
set_option maxRecDepth 100000 in
set_option maxHeartbeats 1000000 in
/-- writeChunks -/
theorem writeChunks_f {w : World} {gb capb n off T : Nat} {tb : TypeId} {pre cur post : List Nat} {va : Value} (hr : isRow w gb tb .u8 (pre ++ (cur ++ post))) (ha : NatV w .u64 B64 va n) (hT : cur.length = T) (hcap : T ≤ capb) (ho : pre.length = off) (hm : T ≤ 1099511627776) :
    Calls Tryz.prog 137 #[.slice (some ⟨gb, off, none⟩) T capb, va] w (FcsPost w gb tb (pre ++ (digs T n ++ post))) := by
  obtain ⟨ao, cap, l, rfl, sa, wa, _, ea⟩ := ha
  have HC := Lib.hid (clone_any sa rfl)
  have hgb := hr.lt
  have HR := Lib.hid hr
  have HW := Lib.hid (And.intro wa ea)
  have HH := Lib.hid (And.intro hT ho)
  clear sa wa ea hr hT ho
  go_enter Tryz.func137, Tryz.ntmps137
  go_wp2_with fail
  refine HC.out.mono ?_
  rintro e w1 ⟨v, rfl, hown, hb1⟩
  have HST := Lib.hid (show FcsRel w w.heap.size gb off capb T n tb pre cur post T (.slice (some ⟨gb, off, none⟩) T capb) v w1 from
    ⟨l, [], n, rfl, hcap, Nat.le_refl _, by simp, HW.out.2, by simp, ⟨hown, HW.out.1, by rw [List.take_of_length_le (by rw [HH.out.1]; exact Nat.le_refl _), List.append_nil]; exact HR.out.below hb1, hgb, Fx.of_below gb hb1, Nat.le_refl _, hb1.size⟩⟩)
  clear hown hb1 HC HW HR
  go_wp2_with fail
  go_loopg [0, 4] T (fun g x y wr => FcsRel w w.heap.size gb off capb T n tb pre cur post g x y wr)
  case atStart => exact HST.out
  case round =>
    clear HST
    obtain ⟨l, tail, m, rfl, h1, h2, h3, h4, h5, h6⟩ := hrel
    by_cases h0 : 0 < gk
    · obtain ⟨k, hk⟩ : ∃ k, min gk 19 = k := ⟨_, rfl⟩
      obtain ⟨s, hs⟩ : ∃ s, gk = s + k := ⟨gk - k, by omega⟩
      have hk1 : 0 < k := by omega
      have hgs : gk - s = k := by omega
      have hk2 : k ≤ 19 := by omega
      have hmx : max 0 ((gk : Int) - 19) = (s : Int) := by omega
      have hsl : ∀ w, (Instr.slice 39 (.slice (some ⟨gb, off, none⟩) gk capb) (some (.int .i64 (s : Int))) none none).run Tryz.prog w = .ok (.slice (some ⟨gb, off + s, none⟩) k (capb - s)) w := by
        intro w
        rw [slice_bytes (by omega)]
        unfold dropA
        rw [if_neg (by omega), hgs]
        simp [Addr.add]
      have hsl2 : ∀ w, (Instr.slice 39 (.slice (some ⟨gb, off, none⟩) gk capb) none (some (.int .i64 (s : Int))) none).run Tryz.prog w = .ok (.slice (some ⟨gb, off, none⟩) s capb) w := fun w => slice_bytes_to (by omega) w
      have hD : Calls Tryz.prog 173 #[u4, .int .u64 10000000000000000000] wr.drew (FDwOwn w w.heap.size gb tb u4 m 10000000000000000000 (pre ++ ((cur.take gk ++ tail) ++ post))) := divF_own (x := 10000000000000000000) (h6.drewN 1) (by decide) (by decide) h4
      have HD := Lib.hid hD
      clear hD
      have HI := Lib.hid (And.intro h3 (And.intro h4 (And.intro h5 h6)))
      have HK := Lib.hid (And.intro hk hs)
      clear h3 h4 h5 h6 hk hs hgs
      have hct : (cur.take gk).length = gk := by rw [List.length_take]; have := HH.out.1; omega
      have hregroup : ∀ mid : List Nat, pre ++ ((cur.take s ++ (mid ++ tail)) ++ post) = (pre ++ cur.take s) ++ (mid ++ (tail ++ post)) := by intro mid; simp
      have hmid : cur.take gk = cur.take s ++ (cur.take gk).drop s := by
        conv => lhs; rw [← List.take_append_drop s (cur.take gk)]
        rw [List.take_take, Nat.min_eq_left (by omega)]
      have hml : ((cur.take gk).drop s).length = k := by rw [List.length_drop, hct]; have := HK.out; omega
      have hrow0 : pre ++ ((cur.take gk ++ tail) ++ post) = (pre ++ cur.take s) ++ ((cur.take gk).drop s ++ (tail ++ post)) := by
        conv => lhs; rw [hmid, List.append_assoc (cur.take s)]
        exact hregroup _
      have hpl : (pre ++ cur.take s).length = off + s := by rw [List.length_append, List.length_take, HH.out.2]; have := HH.out.1; omega
      have HWC := fun (w2 : World) (r : Nat) (hrm : r = m % 10000000000000000000) (hr : isRow w2 gb tb .u8 (pre ++ ((cur.take gk ++ tail) ++ post))) =>
        writeChunk_at (w := w2) (cap := capb - s) (v := r) (by rw [← hrow0]; exact hr) (by rw [hrm]; exact Nat.lt_of_lt_of_le (Nat.mod_lt _ (by decide)) (by decide)) (by rw [hml]; omega) hpl hml
      have HRG := Lib.hid hregroup
      have HWC := Lib.hid HWC
      have HM := Lib.hid hml
      clear hct hmid hml hrow0 hpl hregroup
      go_wp2_with fail
      go_region_held3 (fun w' => True) (exact trivial)
        (first | (go_at_call 173; (with_reducible refine HD.out.mono ?_); rintro e w2 ⟨l2, r, rfl, hr2, hw2, hv2⟩; have HR2 := Lib.hid hr2; clear hr2) | (go_at_call 172; (with_reducible refine (HWC.out _ _ HR2.out hw2.row).mono ?_); rintro e w3 ⟨rfl, hw3⟩) | fail)
      clear hw3
      have hw3 := hw2.putRow (pre ++ ((cur.take s ++ (digs k r ++ tail)) ++ post))
      have hreq : pre ++ ((cur.take s ++ (digs k r ++ tail)) ++ post) = pre ++ (cur.take s ++ (digs k r ++ (tail ++ post))) := by simp
      obtain ⟨W3, hW3⟩ : ∃ W3, wput w2 gb .u8 (pre ++ (cur.take s ++ (digs k r ++ (tail ++ post)))) = W3 := ⟨_, rfl⟩
      rw [hreq, hW3] at hw3
      rw [← hreq] at hw3
      rw [hW3]
      have HTR := Lib.hid (trimF_own hw3 hv2)
      clear hw3 hreq hW3 hw2 hv2 HD HWC HRG
      go_wp2_with fail
      refine HTR.out.mono ?_
      rintro e w4 ⟨v', l4, rfl, hw4, hv4⟩
      have hdig : digs T n = digs s (m / 10000000000000000000) ++ (digs k r ++ tail) := by
        have e0 := HI.out.2.2.1
        have e1 := HK.out
        rw [e0, e1.2, digs_add, List.append_assoc]
        have er : digs k r = digs k m := by
          rw [HR2.out]; exact digs_mod k 19 m hk2
        rw [er]
        by_cases hk19 : k = 19
        · rw [hk19]
        · have : s = 0 := by omega
          rw [this]; rfl
      have hlen : (digs k r ++ tail).length + s = T := by
        have e0 := HI.out.1
        have e1 := HK.out
        rw [List.length_append, digs_len]; omega
      have HREL := Lib.hid (show FcsRel w w.heap.size gb off capb T n tb pre cur post s (.slice (some ⟨gb, off, none⟩) s capb) v' w4 from
        ⟨l4, digs k r ++ tail, _, rfl, by have := HK.out; omega, by have := HK.out; omega, hlen, hv4, hdig, hw4⟩)
      clear hdig hlen hw4 hv4
      go_wp2_with fail
      go_roundg s
      case rel => exact HREL.out
      case measure => have := HK.out; omega
    · have hg0 : gk = 0 := by omega
      have HF := Lib.hid (And.intro h5 (And.intro h6.row h6.bel))
      clear h3 h4 h5 h6
      go_wp2_with fail
      go_end0
      subst hg0
      refine ⟨rfl, ?_, HF.out.2.2⟩
      have := HF.out.2.1
      rw [List.take_zero, List.nil_append] at this
      rw [HF.out.1]
      exact this
end Go.Proofs.YtekghemhccfhkaaGreatDoor
