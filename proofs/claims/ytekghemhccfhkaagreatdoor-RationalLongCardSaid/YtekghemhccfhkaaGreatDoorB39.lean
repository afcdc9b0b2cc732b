/-
  Walks of the program's functions: Pw10, Pw11, Pw12, PwBig, WdLong, Rd, FdLong.
-/
import Derived.Test.YtekghemhccfhkaaGreatDoorB22
import Derived.Test.YtekghemhccfhkaaGreatDoorB13
import Derived.Deep.LoopGhost
import Derived.Laws.AppendOwn
import Derived.Test.YtekghemhccfhkaaGreatDoorB18
import Derived.Test.YtekghemhccfhkaaGreatDoorB41
namespace Go.Big
open Go Go.RowKit
/-- The powers that a number is split at. -/
def tenp (k : Nat) : Nat := 10 ^ (19 * 2 ^ k)
theorem tenp_succ (k : Nat) : tenp k * tenp k = tenp (k + 1) := by
  unfold tenp; rw [← Nat.pow_add]; congr 1; rw [Nat.pow_succ]; omega
theorem tenp_lt (k : Nat) : tenp k < B64 ^ 2 ^ k := by
  unfold tenp; rw [Nat.pow_mul]
  exact Nat.pow_lt_pow_left (by decide) (by have := Nat.pow_pos (n := k) (show 0 < 2 by decide); omega)
def IsSl (c : Value) : Prop := ∃ ao n m, c = .slice ao n m
theorem SlA.fxS {g : Nat} {w w' : World} {cur : Array Value} {t : TypeId} {f : Nat × Nat} {ao : Option Addr} {cap : Nat} {l : List Nat} (h : SlA w .u64 ao cap l) (hr : w.heap[g]? = some (.cells cur t f)) (hs : ∀ c ∈ cur, IsSl c) (hf : Fx g w w') : SlA w' .u64 ao cap l := by
  refine ⟨h.le, h.max, fun hl => ?_⟩
  obtain ⟨b, off, e, hlt, hc⟩ := h.cells hl
  have hne : b ≠ g := by
    rintro rfl
    have h1 := hc 0 (List.length_pos_iff.2 hl)
    have h2 : w.cell? ⟨b, off + 0, none⟩ = cur[off + 0]? := by simp [World.cell?, hr]
    rw [h2] at h1
    obtain ⟨ao, n, m, e⟩ := hs _ (Array.mem_of_getElem? h1)
    cases e
  exact ⟨b, off, e, Nat.lt_of_lt_of_le hlt hf.size, fun j hj => by rw [hf.cell (p := ⟨b, off + j, none⟩) hlt hne]; exact hc j hj⟩
theorem NatV.fxS {g : Nat} {w w' : World} {cur : Array Value} {t : TypeId} {f : Nat × Nat} {v : Value} {n : Nat} (h : NatV w .u64 B64 v n) (hr : w.heap[g]? = some (.cells cur t f)) (hs : ∀ c ∈ cur, IsSl c) (hf : Fx g w w') : NatV w' .u64 B64 v n := by
  obtain ⟨ao, cap, l, e, hs', r⟩ := h
  exact ⟨ao, cap, l, e, hs'.fxS hr hs hf, r⟩
theorem NatV.isSl {w : World} {v : Value} {n : Nat} (h : NatV w .u64 B64 v n) : IsSl v := by
  obtain ⟨ao, cap, l, e, _⟩ := h; exact ⟨_, _, _, e⟩
/-- A slice of the call's own that holds the first k powers. -/
def OwnPw (B : Nat) (w : World) (v : Value) (k : Nat) : Prop :=
  ∃ g cap cur, v = .slice (some ⟨g, 0, none⟩) k cap ∧ B ≤ g ∧ w.heap[g]? = some (.cells cur 108 (0, 0)) ∧ k ≤ cap ∧ cap ≤ maxLen ∧ cur.size = cap ∧ (∀ c ∈ cur, IsSl c) ∧ ∀ i, i < k → ∃ x, cur[i]? = some x ∧ NatV w .u64 B64 x (tenp i)
theorem OwnPw.below {B : Nat} {w w' : World} {v : Value} {k : Nat} (h : OwnPw B w v k) (hb : Below w.heap.size w w') : OwnPw B w' v k := by
  obtain ⟨g, cap, cur, e, h1, h2, h3, h4, h5, h6, h7⟩ := h
  refine ⟨g, cap, cur, e, h1, by rw [hb.block g (Array.getElem?_eq_some_iff.1 h2).1, h2], h3, h4, h5, h6, fun i hi => ?_⟩
  obtain ⟨x, e1, e2⟩ := h7 i hi
  exact ⟨x, e1, e2.below hb⟩
/-- A slice that holds the first k powers. -/
def PwV (w : World) (v : Value) (k : Nat) : Prop :=
  ∃ ao cap, v = .slice ao k cap ∧ k ≤ cap ∧ ∀ i, i < k → ∃ g x, ao = some ⟨g, 0, none⟩ ∧ w.cell? ⟨g, i, none⟩ = some x ∧ NatV w .u64 B64 x (tenp i)
theorem OwnPw.pwv {B : Nat} {w : World} {v : Value} {k : Nat} (h : OwnPw B w v k) : PwV w v k := by
  obtain ⟨g, cap, cur, e, h1, h2, h3, h4, h5, h6, h7⟩ := h
  refine ⟨_, cap, e, h3, fun i hi => ?_⟩
  obtain ⟨x, e1, e2⟩ := h7 i hi
  exact ⟨g, x, rfl, by rw [cell_rowB h2]; exact e1, e2⟩
theorem PwV.below {w w' : World} {v : Value} {k : Nat} (h : PwV w v k) (hb : Below w.heap.size w w') : PwV w' v k := by
  obtain ⟨ao, cap, e, h1, h2⟩ := h
  refine ⟨ao, cap, e, h1, fun i hi => ?_⟩
  obtain ⟨g, x, e1, e2, e3⟩ := h2 i hi
  exact ⟨g, x, e1, (hb.cell (p := ⟨g, i, none⟩) (World.block_lt_of_cell? w _ e2)).trans e2, e3.below hb⟩
theorem PwV.nil (w : World) : PwV w (.slice none 0 0) 0 := ⟨none, 0, rfl, Nat.le_refl _, fun i hi => by omega⟩
theorem PwV.fx {g : Nat} {w w' : World} {tb : TypeId} {row : List Nat} {v : Value} {k : Nat} (h : PwV w v k) (hr : isRow w g tb .u8 row) (hf : Fx g w w') : PwV w' v k := by
  obtain ⟨ao, cap, e, h1, h2⟩ := h
  refine ⟨ao, cap, e, h1, fun i hi => ?_⟩
  obtain ⟨b, x, e1, e2, e3⟩ := h2 i hi
  have hne : b ≠ g := by
    rintro rfl
    unfold isRow at hr
    rw [cell_rowB hr] at e2
    have h3 : i < row.length := by
      rcases Nat.lt_or_ge i (cellsOf .u8 row).size with h | h
      · simpa [cellsOf] using h
      · rw [Array.getElem?_eq_none h] at e2; cases e2
    rw [cellsOf_get h3] at e2
    obtain ⟨_, _, _, e4⟩ := e3.isSl
    rw [e4] at e2
    cases e2
  exact ⟨b, x, e1, (hf.cell (p := ⟨b, i, none⟩) (World.block_lt_of_cell? w _ e2) hne).trans e2, e3.fx hr hf⟩
theorem PwV.take {w : World} {v : Value} {k : Nat} (h : PwV w v (k + 1)) : ∃ ao cap, v = .slice ao (k + 1) cap ∧ k + 1 ≤ cap ∧ PwV w (.slice ao k cap) k ∧ ∃ g x, ao = some ⟨g, 0, none⟩ ∧ w.cell? ⟨g, k, none⟩ = some x ∧ NatV w .u64 B64 x (tenp k) := by
  obtain ⟨ao, cap, e, h1, h2⟩ := h
  exact ⟨ao, cap, e, h1, ⟨ao, cap, rfl, by omega, fun i hi => h2 i (by omega)⟩, h2 k (by omega)⟩
end Go.Big
namespace Go.Proofs.YtekghemhccfhkaaGreatDoor
open Go.RowKit Go.Big
theorem info108 : (Tryz.prog.info? 108).map (fun i => (i.zero, i.size, i.bytes)) = some (some (.slice none 0 0), 1, 24) := by kernel_rfl
theorem own_append {B : Nat} {w : World} {v x : Value} {k : Nat} {a : Addr} {ty : TypeId} (h : OwnPw B w v k) (hk : k < 1000) (hx : NatV w .u64 B64 x (tenp k)) (ha : w.cell? a = some x) (hB : B ≤ w.heap.size) :
    ∃ v' w', (Builtin.append_ #[112, 112] ty #[v, .slice (some a) 1 1]).run Tryz.prog w = .ok v' w' ∧ OwnPw B w' v' (k + 1) ∧ Below B w w' ∧ B ≤ w'.heap.size := by
  obtain ⟨i, hi, hz⟩ := Option.map_eq_some_iff.1 info108
  simp only [Prod.mk.injEq] at hz
  obtain ⟨hz, hs, hby⟩ := hz
  obtain ⟨g, cap, cur, rfl, hbg, hg, hkc, hcm, hcs, hsl, hnv⟩ := h
  have hadd : a.add 0 = a := by simp [Addr.add]
  have hnews : ∀ j u, [x][j]? = some u → w.cell? (a.add j) = some u := fun j u hj => by
    cases j with
    | zero => simp at hj; rw [hadd, ha, hj]
    | succ j => simp at hj
  have hone : ∀ u ∈ [x], u.oneCell' = true := fun u hu => by
    obtain ⟨ao, n, m, e⟩ := hx.isSl
    simp at hu; rw [hu, e]; rfl
  by_cases hroom : k + 1 ≤ cap
  · have hr := run_append_room (P := Tryz.prog) w 112 ty 108 i Tryz.underlying112 hi g k cap cur hg a 1 1 [x] (by simp [hs]) hnews hone hroom (by rw [hs]; simp; omega)
    simp only [hs, Nat.mul_one, List.length_singleton] at hr
    have hf : Fx g w (w.setRow g (cur.toList.take k ++ [x] ++ cur.toList.drop (k + 1)).toArray) := ⟨rfl, rfl, rfl, by rw [setRow_size]; exact Nat.le_refl _, fun j _ hn => setRow_other w g j _ hn⟩
    have hlen : cur.toList.length = cap := by simpa using hcs
    have htk : (cur.toList.take k).length = k := by rw [List.length_take]; omega
    refine ⟨_, _, hr, ⟨g, cap, _, rfl, hbg, setRow_heap w g cur _ 108 _ hg, hroom, hcm, ?_, ?_, ?_⟩, hf.below hbg hB, by rw [setRow_size]; exact hB⟩
    · simp only [List.size_toArray, List.length_append, List.length_take, List.length_drop, List.length_singleton]; omega
    · intro c hc
      simp only [List.mem_toArray, List.mem_append, List.mem_singleton] at hc
      rcases hc with (h1 | h1) | h1
      · exact hsl c (by simpa using List.mem_of_mem_take h1)
      · rw [h1]; exact hx.isSl
      · exact hsl c (by simpa using List.mem_of_mem_drop h1)
    · intro j hj
      simp only [List.getElem?_toArray]
      rcases Nat.lt_or_ge j k with h1 | h1
      · obtain ⟨y, e1, e2⟩ := hnv j h1
        refine ⟨y, ?_, e2.fxS hg hsl hf⟩
        rw [List.append_assoc, List.getElem?_append_left (by omega), List.getElem?_take_of_lt h1]
        simpa using e1
      · have : j = k := by omega
        subst this
        refine ⟨x, ?_, hx.fxS hg hsl hf⟩
        rw [List.append_assoc, List.getElem?_append_right (by omega), htk, Nat.sub_self]; rfl
  · have hlen : cur.toList.length = cap := by simpa using hcs
    have htk : (cur.toList.take k).length = k := by rw [List.length_take]; omega
    have hr := run_append_grow (P := Tryz.prog) w 112 ty 108 i _ Tryz.underlying112 hi hz ⟨g, 0, none⟩ k cap (cur.toList.take k) (by rw [hs, htk, Nat.mul_one])
      (fun j u hj => by
        have hjk : j < k := by
          rcases Nat.lt_or_ge j k with h | h
          · exact h
          · rw [List.getElem?_eq_none (by omega)] at hj; cases hj
        have e : (⟨g, 0, none⟩ : Addr).add j = ⟨g, j, none⟩ := by unfold Addr.add; split <;> simp_all
        rw [e, cell_rowB hg]
        rw [List.getElem?_take_of_lt hjk] at hj
        simpa using hj) a 1 1 [x] (by simp [hs]) hnews (by omega) (by omega) (growslice_fits (by omega) (by rw [hby]; omega))
    have hge := grownCap_ge w (k + 1) cap 108
    have hcm2 : grownCap w (k + 1) cap 108 ≤ maxLen := grownCap_le_maxLen w (k + 1) cap 108 (by simp only [maxLen]; omega)
    have hb : Below w.heap.size w (w.drew.alloc (.cells ((cur.toList.take k).toArray ++ [x].toArray ++ Builtin.zeroCells (Value.slice none 0 0).cells (grownCap w (k + 1) cap 108 - (k + 1))) 108)) := ((Below.refl _ _).drew).alloc (Nat.le_refl _) _
    refine ⟨_, _, hr, ⟨w.heap.size, _, _, rfl, hB, heap_alloc_new w.drew _, hge, hcm2, ?_, ?_, ?_⟩, hb.mono hB, Nat.le_trans hB hb.size⟩
    · simp only [Array.size_append, List.size_toArray, size_zeroCells, htk, List.length_singleton]
      rw [show (Value.slice none 0 0).cells.size = 1 from rfl]; omega
    · intro c hc
      simp only [Array.mem_append, List.mem_toArray, List.mem_singleton] at hc
      rcases hc with (h1 | h1) | h1
      · exact hsl c (by simpa using List.mem_of_mem_take h1)
      · rw [h1]; exact hx.isSl
      · unfold Builtin.zeroCells at h1
        simp [Value.cells, Nat.mod_one] at h1
        exact ⟨_, _, _, h1.2.symm⟩
    · intro j hj
      rcases Nat.lt_or_ge j k with h1 | h1
      · obtain ⟨y, e1, e2⟩ := hnv j h1
        refine ⟨y, ?_, e2.below hb⟩
        rw [Array.append_assoc]
        rw [Array.getElem?_append_left (by simp [htk]; omega)]
        simp only [List.getElem?_toArray]
        rw [List.getElem?_take_of_lt h1]
        simpa using e1
      · have : j = k := by omega
        subst this
        refine ⟨x, ?_, hx.below hb⟩
        rw [Array.append_assoc]
        rw [Array.getElem?_append_right (by simp [htk])]
        rw [Array.getElem?_append_left (by simp [htk])]
        simp [htk]
end Go.Proofs.YtekghemhccfhkaaGreatDoor
namespace Go.Proofs.YtekghemhccfhkaaGreatDoor
open Go.RowKit Go.Big
theorem own_first (w : World) : OwnPw w.heap.size ((w.alloc (.cells #[.int .u64 10000000000000000000] 71)).alloc (.cells #[.slice (some ⟨w.heap.size, 0, none⟩) 1 1] 108)) (.slice (some ⟨w.heap.size + 1, 0, none⟩) 1 1) 1 := by
  have h1 : NatV (w.alloc (.cells #[.int .u64 10000000000000000000] 71)) .u64 B64 (.slice (some ⟨w.heap.size, 0, none⟩) 1 1) 10000000000000000000 := natv_word (x := 10000000000000000000) (by decide) (by decide) w
  have h2 := heap_alloc_new (w.alloc (.cells #[.int .u64 10000000000000000000] 71)) (.cells #[.slice (some ⟨w.heap.size, 0, none⟩) 1 1] 108)
  have hz : (w.alloc (.cells #[.int .u64 10000000000000000000] 71)).heap.size = w.heap.size + 1 := by simp
  rw [hz] at h2
  refine ⟨w.heap.size + 1, 1, _, rfl, by omega, h2, Nat.le_refl _, by simp only [maxLen]; omega, rfl, ?_, ?_⟩
  · intro c hc; simp at hc; exact ⟨_, _, _, hc⟩
  · intro i hi
    have : i = 0 := by omega
    subst this
    refine ⟨_, rfl, ?_⟩
    exact h1.below (below_box _ _ _)
end Go.Proofs.YtekghemhccfhkaaGreatDoor
namespace Go.Proofs.YtekghemhccfhkaaGreatDoor
open Go.RowKit Go.Big
set_option maxRecDepth 100000 in
set_option maxHeartbeats 1000000 in
theorem writeDigits_small_f {w : World} {gb capb n off T : Nat} {tb : TypeId} {pre cur post : List Nat} {va vp : Value} (hr : isRow w gb tb .u8 (pre ++ (cur ++ post))) (ha : NatV w .u64 B64 va n) (hT : cur.length = T) (hcap : T ≤ capb) (ho : pre.length = off) (hm : T ≤ 608) :
    Calls Tryz.prog 103 #[.slice (some ⟨gb, off, none⟩) T capb, va, vp] w (FcsPost w gb tb (pre ++ (digs T n ++ post))) := by
  have H := Lib.hid (writeChunks_f hr ha hT hcap ho (by omega))
  clear hr ha hT ho
  go_enter Tryz.func103, Tryz.ntmps103
  go_wp2_with fail
  refine H.out.mono ?_
  rintro e w' ⟨rfl, h1, h2⟩
  have HF := Lib.hid (And.intro h1 h2)
  clear h1 h2
  go_wp2_with fail
  go_end0
  exact ⟨rfl, HF.out.1, HF.out.2⟩
theorem slice_pw {ao : Option Addr} {n cap k : Nat} (h1 : k ≤ cap) (w : World) : (Instr.slice 112 (.slice ao n cap) none (some (.int .i64 (k : Int))) none).run Tryz.prog w = .ok (.slice ao k cap) w :=
  run_slice_to 112 108 Tryz.underlying112 (by kernel_rfl) ao n cap k h1 w
theorem digs_split (s m n : Nat) : digs s (n / 10 ^ m) ++ digs m (n % 10 ^ m) = digs (s + m) n := by rw [digs_add, digs_mod m m n (Nat.le_refl _)]
end Go.Proofs.YtekghemhccfhkaaGreatDoor
namespace Go.Proofs.YtekghemhccfhkaaGreatDoor
open Go.RowKit Go.Big
end Go.Proofs.YtekghemhccfhkaaGreatDoor
namespace Go.Proofs.YtekghemhccfhkaaGreatDoor
open Go.RowKit Go.Big
def PwLPost (w : World) (n : Nat) (e : Ending) (w' : World) : Prop := ∃ v k, e = .returned v ∧ PwV w' v k ∧ Below w.heap.size w w' ∧ n ≤ 19 * 2 ^ k ∧ k ≤ 9
def PwsLRel (w : World) (g : Nat) (x : Value) (wr : World) : Prop := ∃ k, k + g = 9 ∧ 1 ≤ k ∧ OwnPw w.heap.size wr x k ∧ Below w.heap.size w wr
set_option maxRecDepth 100000 in
set_option maxHeartbeats 1000000 in
theorem powersOfTen_long {n : Nat} (h0 : 608 < n) (h1 : n ≤ 9728) (w : World) : Calls Tryz.prog 104 #[.int .i64 n] w (PwLPost w n) := by
  have H0 := Lib.hid (own_first w)
  have HB := Lib.hid (below2 w (.cells #[.int .u64 10000000000000000000] 71) (.cells #[.slice (some ⟨w.heap.size, 0, none⟩) 1 1] 108))
  go_enter Tryz.func104, Tryz.ntmps104
  go_wp2_with fail
  go_loopg [3] 8 (fun g x wr => PwsLRel w g x wr)
  case atStart => exact ⟨1, rfl, Nat.le_refl _, H0.out, HB.out⟩
  case round =>
    clear H0 HB
    obtain ⟨k, hkg, hk1, hown, hb⟩ := hrel
    have HO := Lib.hid hown
    obtain ⟨g, cap, cur, rfl, hbg, hg, hkc, hcm, hcs, hsl, hnv⟩ := hown
    obtain ⟨x, hx1, hx2⟩ := hnv (k - 1) (by omega)
    have hcell : wr.cell? ⟨g, k - 1, none⟩ = some x := by rw [cell_rowB hg]; exact hx1
    have hxl : tenp (k - 1) < B64 ^ 256 := Nat.lt_of_lt_of_le (tenp_lt _) (Nat.pow_le_pow_right (by decide) (Nat.pow_le_pow_right (by decide) (show k - 1 ≤ 8 by omega)))
    have HX := Lib.hid (And.intro hx2 hxl)
    have HT := Lib.hid (show tenp (k - 1) * tenp (k - 1) = tenp k by rw [tenp_succ]; congr 1; omega)
    have HB := Lib.hid hb
    have HZ := Lib.hid (And.intro hbg (Nat.le_trans hbg (Nat.le_of_lt (Array.getElem?_eq_some_iff.1 hg).1)))
    clear hbg hg hcm hcs hsl hnv hx1 hx2 hxl hb
    have hk : k = 9 ∨ k < 9 := by omega
    rcases hk with rfl | hk9
    · have HF := Lib.hid (show PwLPost w n (.returned (.slice (some ⟨g, 0, none⟩) 9 cap)) wr from ⟨_, 9, rfl, HO.out.pwv, HB.out, h1, Nat.le_refl _⟩)
      clear hcell
      have hw : wrap64 (19 * 2 ^ 9) = (9728 : Int) := by kernel_rfl
      have hlt : ¬ (9728 : Int) < n := by omega
      go_wp2_with fail
      go_ret
      exact HF.out
    · have hci : ((k : Int) - 1).toNat = k - 1 := by omega
      obtain ⟨m, hm⟩ : ∃ m : Nat, 19 * 2 ^ k = m := ⟨_, rfl⟩
      have hp2 : 2 ^ k ≤ 2 ^ 8 := Nat.pow_le_pow_right (by decide) (by omega)
      have hmb : m ≤ 4864 := by omega
      have hw : wrap64 (19 * 2 ^ k) = (m : Int) := by
        have e : (19 * 2 ^ k : Int) = (m : Int) := by rw [← hm]; simp
        rw [e]; unfold wrap64; omega
      have HM := Lib.hid hm
      clear hm hp2
      have hd : m < n ∨ n ≤ m := by omega
      rcases hd with hmn | hmn
      case inr =>
        have HF := Lib.hid (show PwLPost w n (.returned (.slice (some ⟨g, 0, none⟩) k cap)) wr from ⟨_, k, rfl, HO.out.pwv, HB.out, by rw [HM.out]; exact hmn, Nat.le_of_lt hk9⟩)
        clear hcell hci
        have hlt : ¬ (m : Int) < n := by omega
        go_wp2_with fail
        go_ret
        exact HF.out
      have hlt : (m : Int) < n := by omega
      clear hmn hmb
      go_wp2_with fail
      refine (times_all (K := 256) HX.out.1 HX.out.1 (by decide) HX.out.2 HX.out.2).mono ?_
      rintro e w2 ⟨v2, rfl, hv2, hb2⟩
      rw [HT.out] at hv2
      obtain ⟨ao2, n2, c2, rfl⟩ := hv2.isSl
      obtain ⟨W3, hW3⟩ : ∃ W3, w2.alloc (.cells #[.slice ao2 n2 c2] 108) = W3 := ⟨_, rfl⟩
      have hb3 : Below w2.heap.size w2 W3 := by rw [← hW3]; exact below_box _ _ _
      have hc3 : W3.cell? ⟨w2.heap.size, 0, none⟩ = some (.slice ao2 n2 c2) := by
        rw [← hW3, cell_rowB (heap_alloc_new w2 (.cells #[.slice ao2 n2 c2] 108))]; rfl
      have hbz : w.heap.size ≤ W3.heap.size := Nat.le_trans HZ.out.2 (Nat.le_trans hb2.size hb3.size)
      obtain ⟨v', w4, hap, hown4, hb4, hz4⟩ := own_append (ty := 112) ((HO.out.below hb2).below hb3) (by omega) (hv2.below hb3) hc3 hbz
      rw [← hW3] at hap
      have HAP := Lib.hid hap
      have HREL := Lib.hid (show PwsLRel w (gk - 1) v' w4 from ⟨k + 1, by omega, by omega, hown4, (below_trans (below_trans HB.out hb2) hb3).trans hb4⟩)
      clear hv2 hb2 hb3 hc3 hbz hap hown4 hb4 hz4 hW3
      go_wp2_with (at_builtin; refine wpList_append_run rfl (.tmp 20) (.tmp 24) 112 112 rfl _ _ rfl rfl _ _ HAP.out ?_)
      go_roundg (gk - 1)
      case rel => exact HREL.out
      case measure => omega
end Go.Proofs.YtekghemhccfhkaaGreatDoor
namespace Go.Proofs.YtekghemhccfhkaaGreatDoor
open Go.RowKit Go.Big
theorem tenp_ltK {j K : Nat} (h : 2 ^ j ≤ 256) (hK : 256 ≤ K) : tenp j < B64 ^ K := Nat.lt_of_lt_of_le (tenp_lt j) (Nat.pow_le_pow_right (by decide) (Nat.le_trans h hK))
def WdLStep (j : Nat) : Prop := ∀ {w : World} {gb capb n off T : Nat} {tb : TypeId} {pre cur post : List Nat} {va vp : Value}, isRow w gb tb .u8 (pre ++ (cur ++ post)) → NatV w .u64 B64 va n → cur.length = T → T ≤ capb → pre.length = off → PwV w vp j → (T ≤ 608 ∨ T ≤ 19 * 2 ^ j) → T ≤ 100000 → n < B64 ^ 470 →
    Calls Tryz.prog 103 #[.slice (some ⟨gb, off, none⟩) T capb, va, vp] w (FcsPost w gb tb (pre ++ (digs T n ++ post)))
theorem pow_small8 {j : Nat} (h : j ≤ 8) : 1 ≤ 2 ^ j ∧ 2 ^ j ≤ 256 := ⟨Nat.pow_pos (by decide), Nat.pow_le_pow_right (by decide) h⟩
set_option maxRecDepth 100000 in
set_option maxHeartbeats 1000000 in
theorem writeDigits_stepL {j : Nat} (hj : j ≤ 8) (ih : WdLStep j) : WdLStep (j + 1) := by
  intro w gb capb n off T tb pre cur post va vp hr ha hT hcap ho hp hs hT1 hn
  rcases Nat.lt_or_ge 608 T with hbig | hsm
  case inr => exact writeDigits_small_f hr ha hT hcap ho hsm
  have hTs : T ≤ 19 * 2 ^ (j + 1) := by omega
  obtain ⟨ao, cap, rfl, hk, hp', g, x, rfl, hcell, hx⟩ := hp.take
  have hpj := pow_small8 hj
  obtain ⟨m, hm⟩ : ∃ m : Nat, 19 * 2 ^ j = m := ⟨_, rfl⟩
  have hmb : m ≤ 4864 := by omega
  have hw : wrap64 (19 * 2 ^ j) = (m : Int) := by
    have e : (19 * 2 ^ j : Int) = (m : Int) := by rw [← hm]; simp
    rw [e]; unfold wrap64; omega
  have hsp : ∀ w, (Instr.slice 112 (.slice (some ⟨g, 0, none⟩) (j + 1 : Nat) cap) none (some (.int .i64 (j : Int))) none).run Tryz.prog w = .ok (.slice (some ⟨g, 0, none⟩) j cap) w := fun w => slice_pw (by omega) w
  have HPJ := Lib.hid hpj
  have HM := Lib.hid hm
  rcases Nat.lt_or_ge m T with hlt | hge
  · obtain ⟨s, hs2⟩ : ∃ s, T = s + m := ⟨T - m, by omega⟩
    have hi : (T : Int) - (m : Int) = (s : Int) := by omega
    have hs0 : ¬ (s : Int) ≤ 0 := by omega
    have hs00 : ¬ s = 0 := by omega
    have hsb : s ≤ 100000 := by omega
    have hT608 : ¬ (T : Int) ≤ 608 := by omega
    have ht0 : 0 < tenp j := Nat.pow_pos (by decide)
    have htl : tenp j < B64 ^ 470 := tenp_ltK (K := 470) (by omega) (by decide)
    have hmt : tenp j = 10 ^ m := by unfold tenp; rw [hm]
    have HD := Lib.hid (divide_any2 (K := 470) ha hx (by decide) hn htl ht0)
    have hl1 : (cur.take s).length = s := by rw [List.length_take]; omega
    have hl2 : (cur.drop s).length = m := by rw [List.length_drop]; omega
    have hl3 : ∀ z : Nat, (pre ++ digs s z).length = off + s := fun z => by rw [List.length_append, digs_len, ho]
    have hrow1 : pre ++ (cur ++ post) = pre ++ (cur.take s ++ (cur.drop s ++ post)) := by rw [← List.append_assoc (cur.take s), List.take_append_drop]
    have HR := Lib.hid (hrow1 ▸ hr)
    have HQ := Lib.hid (And.intro hl1 (And.intro hl2 hl3))
    have HPV := Lib.hid (And.intro hp' (And.intro ho (show n / tenp j < B64 ^ 470 ∧ n % tenp j < B64 ^ 470 from ⟨Nat.lt_of_le_of_lt (Nat.div_le_self _ _) hn, Nat.lt_of_le_of_lt (Nat.mod_le _ _) hn⟩)))
    have HE := Lib.hid (show ∀ z : List Nat, pre ++ (digs s (n / tenp j) ++ (digs m (n % tenp j) ++ z)) = pre ++ (digs T n ++ z) from fun z => by
      rw [← List.append_assoc (digs s _), hmt, digs_split, ← hs2])
    have HSZ := Lib.hid (And.intro hcap (And.intro hs2 (And.intro hT1 (show s ≤ 19 * 2 ^ j by rw [Nat.pow_succ] at hTs; omega))))
    have hb1 : ∀ w, (Instr.slice 39 (.slice (some ⟨gb, off, none⟩) T capb) none (some (.int .i64 (s : Int))) none).run Tryz.prog w = .ok (.slice (some ⟨gb, off, none⟩) s capb) w := fun w => slice_bytes_to (by omega) w
    have hb2 : ∀ w, (Instr.slice 39 (.slice (some ⟨gb, off, none⟩) T capb) (some (.int .i64 (s : Int))) none none).run Tryz.prog w = .ok (.slice (some ⟨gb, off + s, none⟩) m (capb - s)) w := by
      intro w
      rw [slice_bytes (by omega)]
      unfold dropA
      have e : T - s = m := by omega
      rw [if_neg (by omega), e]
      simp [Addr.add, hs00]
    clear hr ha hT hcap ho hp hp' hs hn hx hm hpj hTs hl1 hl2 hl3 hrow1 hT1 ht0 htl hmt hs2 hlt
    go_enter Tryz.func103, Tryz.ntmps103
    go_wp2_with fail
    refine HD.out.mono ?_
    rintro e w2 ⟨v2, v3, rfl, hv2, hv3, hbw⟩
    have HP2 := Lib.hid (HPV.out.1.below hbw)
    have HR2 := Lib.hid (HR.out.below hbw)
    have hc1 : Calls Tryz.prog 103 #[.slice (some ⟨gb, off, none⟩) s capb, v2, .slice (some ⟨g, 0, none⟩) j cap] w2.drew (FcsPost w2.drew gb tb (pre ++ (digs s (n / tenp j) ++ (cur.drop s ++ post)))) :=
      ih (HR2.out.drewN 1) (hv2.below (below_drewN (Below.refl _ _) 1)) HQ.out.1 (by have := HSZ.out; omega) HPV.out.2.1 (HP2.out.below (below_drewN (Below.refl _ _) 1)) (.inr HSZ.out.2.2.2) (by have := HSZ.out; omega) HPV.out.2.2.1
    have HC1 := Lib.hid hc1
    clear hc1
    have HV3 := Lib.hid hv3
    have HFX := Lib.hid (Fx.of_below gb hbw)
    clear hv2 hv3 hbw
    go_wp2_with fail
    go_region_held3 (fun w' => True) (exact trivial) (first | (go_at_call 103; (with_reducible refine HC1.out.mono ?_); rintro e w4 ⟨rfl, h1, h2⟩) | fail)
    have hf4 : Fx gb w2 w4 := (Fx.drewN (Fx.refl gb w2) 1).trans h2
    have hr4 : isRow w4 gb tb .u8 ((pre ++ digs s (n / tenp j)) ++ (cur.drop s ++ post)) := by rw [List.append_assoc]; exact h1
    have hc2 : Calls Tryz.prog 103 #[.slice (some ⟨gb, off + s, none⟩) m (capb - s), v3, .slice (some ⟨g, 0, none⟩) j cap] w4.drew (FcsPost w4.drew gb tb ((pre ++ digs s (n / tenp j)) ++ (digs m (n % tenp j) ++ post))) :=
      ih (hr4.drewN 1) ((HV3.out.fx HR2.out hf4).below (below_drewN (Below.refl _ _) 1)) HQ.out.2.1 (by have := HSZ.out; omega) (HQ.out.2.2 _) ((HP2.out.fx HR2.out hf4).below (below_drewN (Below.refl _ _) 1)) (.inr (Nat.le_of_eq HM.out.symm)) (by have := HSZ.out; omega) HPV.out.2.2.2
    have HC2 := Lib.hid hc2
    have HF4 := Lib.hid (HFX.out.trans hf4)
    clear hc2 h1 h2 hf4 hr4 HC1
    go_wp2_with fail
    go_region_held3 (fun w' => True) (exact trivial) (first | (go_at_call 103; (with_reducible refine HC2.out.mono ?_); rintro e w5 ⟨rfl, h1, h2⟩) | fail)
    have HFIN := Lib.hid (show FcsPost w gb tb (pre ++ (digs T n ++ post)) (.returned (.tuple #[])) w5 from ⟨rfl, by rw [← HE.out, ← List.append_assoc]; exact h1, HF4.out.trans ((Fx.drewN (Fx.refl gb w4) 1).trans h2)⟩)
    clear h1 h2 HC2
    go_wp2_with fail
    go_end0
    exact HFIN.out
  · have hi : (T : Int) - (m : Int) ≤ 0 := by omega
    have HI := Lib.hid (ih hr ha hT hcap ho hp' (.inr (by omega)) hT1 hn)
    have hT608 : ¬ (T : Int) ≤ 608 := by omega
    clear hr ha hT hcap ho hp hp' hs hn hcell hx hm hpj hTs HPJ
    go_enter Tryz.func103, Tryz.ntmps103
    go_wp2_with fail
    refine HI.out.mono ?_
    rintro e w' ⟨rfl, h1, h2⟩
    have HF := Lib.hid (And.intro h1 h2)
    clear h1 h2
    go_wp2_with fail
    go_end0
    exact ⟨rfl, HF.out.1, HF.out.2⟩
end Go.Proofs.YtekghemhccfhkaaGreatDoor
namespace Go.Proofs.YtekghemhccfhkaaGreatDoor
open Go.RowKit Go.Big
theorem writeDigits_long : ∀ {j : Nat}, j ≤ 9 → WdLStep j
  | 0, _ => fun hr ha hT hcap ho _ hs _ _ => writeDigits_small_f hr ha hT hcap ho (by omega)
  | j + 1, h => writeDigits_stepL (by omega) (writeDigits_long (by omega))
def PwsLPost (w : World) (n : Nat) (e : Ending) (w' : World) : Prop := ∃ v k, e = .returned v ∧ PwV w' v k ∧ Below w.heap.size w w' ∧ (n ≤ 608 ∨ n ≤ 19 * 2 ^ k) ∧ k ≤ 9
theorem powers_long {n : Nat} (h1 : n ≤ 9728) (w : World) : Calls Tryz.prog 104 #[.int .i64 n] w (PwsLPost w n) := by
  rcases Nat.lt_or_ge 608 n with h | h
  · refine (powersOfTen_long h h1 w).mono ?_
    rintro e w' ⟨v, k, rfl, h2, h3, h4, h5⟩
    exact ⟨v, k, rfl, h2, h3, .inr h4, by omega⟩
  · refine (powers_small (n := (n : Int)) (by omega) w).mono ?_
    rintro e w' ⟨rfl, rfl⟩
    exact ⟨_, 0, rfl, PwV.nil _, Below.refl _ _, .inl h, by omega⟩
end Go.Proofs.YtekghemhccfhkaaGreatDoor
namespace Go.Proofs.YtekghemhccfhkaaGreatDoor
open Go.RowKit Go.Big
def RdStep (j : Nat) : Prop := ∀ {w : World} {T : Nat} {l : List UInt8} {t : ByteArray} {vp : Value}, t = ⟨l.toArray⟩ → Dig l → l.length = T → PwV w vp j → (T ≤ 608 ∨ T ≤ 19 * 2 ^ j) → T ≤ 100000 →
    Calls Tryz.prog 150 #[.string t, vp] w (RetNat w (dec l))
theorem dec_lt_b64 {l : List UInt8} {K : Nat} (hd : Dig l) (h : l.length ≤ K) : dec l < B64 ^ K :=
  Nat.lt_of_lt_of_le (dec_lt hd) (Nat.le_trans (Nat.pow_le_pow_right (by decide) h) (Nat.pow_le_pow_left (by decide) _))
set_option maxRecDepth 100000 in
set_option maxHeartbeats 1000000 in
theorem readDigits_step {j : Nat} (hj : j ≤ 8) (ih : RdStep j) : RdStep (j + 1) := by
  intro w T l t vp ht hd hl hp hs hT1
  rcases Nat.lt_or_ge 608 T with hbig | hsm
  case inr => exact readDigits_small ht hd (by omega) vp w
  have hTs : T ≤ 19 * 2 ^ (j + 1) := by omega
  have hsz : t.size = T := by rw [ht, Lib.size_mk]; exact hl
  obtain ⟨ao, cap, rfl, hk, hp', g, x, rfl, hcell, hx⟩ := hp.take
  have hpj : 1 ≤ 2 ^ j ∧ 2 ^ j ≤ 256 := ⟨Nat.pow_pos (by decide), Nat.pow_le_pow_right (by decide : 2 > 0) hj⟩
  obtain ⟨m, hm⟩ : ∃ m : Nat, 19 * 2 ^ j = m := ⟨_, rfl⟩
  have hmb : m ≤ 4864 := by omega
  have hw : wrap64 (19 * 2 ^ j) = (m : Int) := by
    have e : (19 * 2 ^ j : Int) = (m : Int) := by rw [← hm]; simp
    rw [e]; unfold wrap64; omega
  have hsp : ∀ w, (Instr.slice 112 (.slice (some ⟨g, 0, none⟩) (j + 1 : Nat) cap) none (some (.int .i64 (j : Int))) none).run Tryz.prog w = .ok (.slice (some ⟨g, 0, none⟩) j cap) w := fun w => slice_pw (by omega) w
  have HPJ := Lib.hid hpj
  have HM := Lib.hid hm
  have hT608 : ¬ (T : Int) ≤ 608 := by omega
  rcases Nat.lt_or_ge m T with hlt | hge
  · obtain ⟨s, hs2⟩ : ∃ s, T = s + m := ⟨T - m, by omega⟩
    have hi : (T : Int) - (m : Int) = (s : Int) := by omega
    have hs0 : ¬ (s : Int) ≤ 0 := by omega
    have hsb : s ≤ 100000 := by omega
    have hmt : tenp j = 10 ^ m := by unfold tenp; rw [hm]
    have hl1 : (l.take s).length = s := by rw [List.length_take]; omega
    have hl2 : (l.drop s).length = m := by rw [List.length_drop]; omega
    obtain ⟨t1, ht1⟩ : ∃ t1 : ByteArray, t1 = ⟨(l.take s).toArray⟩ := ⟨_, rfl⟩
    obtain ⟨t2, ht2⟩ : ∃ t2 : ByteArray, t2 = ⟨(l.drop s).toArray⟩ := ⟨_, rfl⟩
    have x1 : t.extract 0 s = t1 := by rw [ht, Lib.extract_mk, List.drop_zero, Nat.sub_zero]; exact ht1.symm
    have x2 : t.extract s t.size = t2 := by
      rw [ht, Lib.size_mk, Lib.extract_mk, List.take_of_length_le (by rw [List.length_drop]; omega)]; exact ht2.symm
    have hdec : dec (l.take s) * tenp j + dec (l.drop s) = dec l := by
      conv => rhs; rw [← List.take_append_drop s l, dec_append, hl2]
      rw [hmt]
    obtain ⟨K, hK⟩ : ∃ K : Nat, 100000 = K := ⟨_, rfl⟩
    have HKB := Lib.hid (show K < 400000000 by omega)
    have hb1 := dec_lt_b64 (K := K) (hd.take s) (by omega)
    have hb2 := dec_lt_b64 (K := K) (hd.drop s) (by omega)
    have hb3 : tenp j < B64 ^ K := Nat.lt_of_lt_of_le (tenp_lt j) (Nat.pow_le_pow_right (by decide) (by omega))
    obtain ⟨d1, hd1⟩ : ∃ d, dec (l.take s) = d := ⟨_, rfl⟩
    obtain ⟨d2, hd2⟩ : ∃ d, dec (l.drop s) = d := ⟨_, rfl⟩
    have HC1 := Lib.hid (show ∀ (w : World) (vp : Value), PwV w vp j → Calls Tryz.prog 150 #[.string t1, vp] w (RetNat w d1) by intro w vp h; rw [← hd1]; exact ih ht1 (hd.take s) hl1 h (.inr (by rw [Nat.pow_succ] at hTs; omega)) hsb)
    have HC2 := Lib.hid (show ∀ (w : World) (vp : Value), PwV w vp j → Calls Tryz.prog 150 #[.string t2, vp] w (RetNat w d2) by intro w vp h; rw [← hd2]; exact ih ht2 (hd.drop s) hl2 h (.inr (by omega)) (by omega))
    have hsl1 : ∀ w, (Instr.slice 9 (.string t) none (some (.int .i64 (s : Int))) none).run Tryz.prog w = .ok (.string t1) w := fun w => by
      rw [run_slice_string_h (P := Tryz.prog) (ht := Tryz.underlying9) (kh := .i64) (h := (s : Int)) (h0 := by omega) (h2 := by omega), Int.toNat_natCast, x1]
    have hsl2 : ∀ w, (Instr.slice 9 (.string t) (some (.int .i64 (s : Int))) none none).run Tryz.prog w = .ok (.string t2) w := fun w => by
      rw [run_slice_string_l (P := Tryz.prog) (ht := Tryz.underlying9) (kl := .i64) (l := (s : Int)) (h0 := by omega) (h1 := by omega), Int.toNat_natCast, x2]
    have HB := Lib.hid (And.intro hb1 (And.intro hb2 hb3))
    rw [hd1, hd2] at HB hdec
    have HDEC := Lib.hid hdec
    have HP := Lib.hid hp'
    have HX := Lib.hid hx
    have HCELL := Lib.hid hcell
    clear ht hd hl hp hs hp' hx hcell hm hpj hTs hl1 hl2 hT1 hmt hs2 hlt ht1 ht2 x1 x2 hdec hb1 hb2 hb3 hd1 hd2 ih
    have hc1 : Calls Tryz.prog 150 #[.string t1, .slice (some ⟨g, 0, none⟩) j cap] w.drew (RetNat w.drew d1) := HC1.out _ _ (HP.out.below (below_drewN (Below.refl _ _) 1))
    have HC := Lib.hid hc1
    clear hc1
    go_enter Tryz.func150, Tryz.ntmps150
    go_wp2_with fail
    go_region_held3 (fun w' => True) (exact trivial) (first | (go_at_call 150; (with_reducible refine HC.out.mono ?_); rintro e w4 ⟨v1, rfl, h1, h2⟩) | fail)
    have hb4 : Below w.heap.size w w4 := (below_drewN (Below.refl _ _) 1).trans h2
    have HP4 := Lib.hid (HP.out.below hb4)
    have hc2 : Calls Tryz.prog 150 #[.string t2, .slice (some ⟨g, 0, none⟩) j cap] w4.drew (RetNat w4.drew d2) := HC2.out _ _ (HP4.out.below (below_drewN (Below.refl _ _) 1))
    have HCC := Lib.hid hc2
    have HB4 := Lib.hid hb4
    have HV1 := Lib.hid h1
    clear hc2 hb4 h1 h2
    go_wp2_with fail
    go_region_held3 (fun w' => True) (exact trivial) (first | (go_at_call 150; (with_reducible refine HCC.out.mono ?_); rintro e w5 ⟨v2, rfl, h1, h2⟩) | fail)
    have hb5 : Below w4.heap.size w4 w5 := (below_drewN (Below.refl _ _) 1).trans h2
    have hb05 : Below w.heap.size w w5 := HB4.out.trans (hb5.mono HB4.out.size)
    have hcell5 : w5.cell? ⟨g, j, none⟩ = some x := (hb05.cell (p := ⟨g, j, none⟩) (World.block_lt_of_cell? w _ HCELL.out)).trans HCELL.out
    have hc3 := times_all (K := K) (HV1.out.below hb5) (HX.out.below hb05) HKB.out HB.out.1 HB.out.2.2
    have HC3 := Lib.hid hc3
    have HV2 := Lib.hid h1
    have HB5 := Lib.hid hb05
    clear hc3 h1 h2 hb5 hb05
    go_wp2_with fail
    refine HC3.out.mono ?_
    rintro e w6 ⟨v3, rfl, h1, h2⟩
    have hmul : d1 * tenp j < B64 ^ (K + K) := by
      rw [Nat.pow_add]; exact Nat.mul_lt_mul_of_lt_of_lt HB.out.1 HB.out.2.2
    have hc4 := plus_any (K := K + K) h1 (HV2.out.below h2) (by have := HKB.out; omega) hmul (Nat.lt_of_lt_of_le HB.out.2.1 (Nat.pow_le_pow_right (by decide) (Nat.le_add_left _ _)))
    have HC4 := Lib.hid hc4
    have HB6 := Lib.hid (HB5.out.trans (h2.mono HB5.out.size))
    clear hc4 h1 h2 hmul
    go_wp2_with fail
    refine HC4.out.mono ?_
    rintro e w7 ⟨v4, rfl, h1, h2⟩
    have HFIN := Lib.hid (show RetNat w (dec l) (.returned v4) w7 from ⟨v4, rfl, HDEC.out ▸ h1, HB6.out.trans (h2.mono HB6.out.size)⟩)
    clear h1 h2 HC4
    go_wp2_with fail
    go_ret
    exact HFIN.out
  · have hi : (T : Int) - (m : Int) ≤ 0 := by omega
    have HI := Lib.hid (ih ht hd hl hp' (.inr (by omega)) hT1)
    clear ht hd hl hp hs hcell hx hm hpj hTs HPJ hp'
    go_enter Tryz.func150, Tryz.ntmps150
    go_wp2_with fail
    refine HI.out.mono ?_
    rintro e w' ⟨v, rfl, h1, h2⟩
    have HF := Lib.hid (And.intro h1 h2)
    clear h1 h2
    go_wp2_with fail
    go_ret
    exact ⟨v, rfl, HF.out.1, HF.out.2⟩
/-- readDigits, of a text of any length that the powers reach -/
theorem readDigits_all : ∀ {j : Nat}, j ≤ 9 → RdStep j := by
  intro j
  induction j with
  | zero => intro _ w T l t vp ht hd hl _ hs _; exact readDigits_small ht hd (by omega) vp w
  | succ j ih => intro h; exact readDigits_step (by omega) (ih (by omega))
end Go.Proofs.YtekghemhccfhkaaGreatDoor
namespace Go.Proofs.YtekghemhccfhkaaGreatDoor
open Go.RowKit Go.Big
set_option maxRecDepth 100000 in
set_option maxHeartbeats 1000000 in
theorem fromDigits_long (s : ByteArray) (hl : s.size ≤ 9728) (h6 : 608 < s.size) (w : World) : Calls Tryz.prog 110 #[.string s] w (FdPost s w) := by
  have HD := Lib.hid (fun w => isDigits_any s (by omega) w)
  have HX := Lib.hid (Bx.new w (cs := #[.int .i64 0, .pointer none]) 63 (by simp [IP]))
  have hsz : s.data.toList.length = s.size := (Lib.size_eq s).symm
  have HZ := Lib.hid hsz
  clear hsz
  go_enter Tryz.func110, Tryz.ntmps110
  go_wp2_with fail
  refine (HD.out _).mono ?_
  rintro e w1 ⟨b, rfl, hb, rfl⟩
  have HB := Lib.hid hb
  clear hb HD
  cases b
  · go_wp2_with fail
    refine bodyPost_ret (v := .tuple #[smInt 0, .bool false]) (by simp [results, Tryz.results110, go_sem, smInt]) rfl ⟨_, _, rfl, ?_, .inr ⟨rfl, ?_, .inl ⟨⟨by omega, by omega⟩, rfl⟩⟩⟩
    · exact below_box _ _ _
    · intro h; have := HB.out.2 h; cases this
  · have HG := Lib.hid (HB.out.1 rfl)
    · have hs : ¬ s.size ≤ 19 := by omega
      have hsz6 : s.size ≤ 100000 := by omega
      go_wp2_with fail
      refine (powers_long hl _).mono ?_
      rintro e w2 ⟨vp, k, rfl, hp, hb2, hsk, hk9⟩
      have HR := Lib.hid (readDigits_all hk9 (t := s) (l := s.data.toList) (Lib.mk_data s).symm HG.out.1 HZ.out hp hsk hsz6)
      have HB2 := Lib.hid hb2
      clear hp hb2 hsk hk9 hsz6
      go_wp2_with fail
      refine HR.out.mono ?_
      rintro e w3 ⟨v3, rfl, hv3, hb3⟩
      have HB3 := Lib.hid (below_trans HB2.out hb3)
      have HS := Lib.hid (signed_any false hv3)
      clear hv3 hb3
      go_wp2_with fail
      refine HS.out.mono ?_
      rintro e w4 ⟨v, rfl, hv, hb4⟩
      rw [show signed false (dec s.data.toList) = (dec s.data.toList : Int) from rfl] at hv
      have HBB := Lib.hid (below_trans HB3.out hb4)
      clear hb4 HS HR
      have hx1 := HX.out.below HBB.out
      obtain ⟨y, p, rfl⟩ := hv.two
      have HV := Lib.hid (hv.set2 (i := 0) (x := y) (p := p) hx1)
      have HB1 := Lib.hid (((below_trans (below_box _ _ _) HBB.out).setCell (p := ⟨w.heap.size, 0, none⟩) (Nat.le_refl _) (.int .i64 y)).setCell (p := ⟨w.heap.size, 0 + 1, none⟩) (Nat.le_refl _) (.pointer p))
      have c0 := hx1.cell 0
      have c1 := hx1.cell 1
      have f0 := hx1.frozen 0
      have f1 := hx1.frozen 1
      have HX2 := Lib.hid ((hx1.set 0 (IP.int y)).set 1 (IP.ptr p))
      clear hv hx1
      go_wp2_with fail
      refine bodyPost_ret (v := .tuple #[.agg #[.int .i64 y, .pointer p], .bool true]) (by
        have g0 := HX2.out.cell 0
        have g1 := HX2.out.cell 1
        simp [results, Tryz.results110, go_sem, g0, g1]) rfl ⟨_, _, rfl, HB1.out, .inl ⟨rfl, HG.out.1, HG.out.2, HV.out⟩⟩
end Go.Proofs.YtekghemhccfhkaaGreatDoor
