/-
  Walks of the program's functions: StrL, IntC, IntE, Box3.
-/
import Derived.Test.YtekghemhccfhkaaGreatDoorB22
import Derived.Test.YtekghemhccfhkaaGreatDoorB28
import Derived.Lib.AppendIntMem
import Derived.Deep.QuietTactic
import Derived.BigQuiet
import Derived.Test.YtekghemhccfhkaaGreatDoorB09
import Derived.Test.YtekghemhccfhkaaGreatDoorB13
import Derived.Test.YtekghemhccfhkaaGreatDoorB20
namespace Go.Big
open Go Go.RowKit
def e5 : Nat := 100000
def e4 : Nat := 30103
theorem ten_two : (2 : Nat) ^ e5 ≤ 10 ^ e4 := Nat.le_of_ble_eq_true (by kernel_rfl)
/-- So many decimal digits are enough. -/
theorem two_ten (L : Nat) : 2 ^ L ≤ 10 ^ (L * 30103 / 100000 + 1) := by
  have h1 : (2 ^ L) ^ e5 ≤ (10 ^ (L * 30103 / 100000 + 1)) ^ e5 := by
    rw [← Nat.pow_mul, ← Nat.pow_mul, Nat.mul_comm L, Nat.pow_mul]
    refine Nat.le_trans (Nat.pow_le_pow_left ten_two L) ?_
    rw [← Nat.pow_mul]
    exact Nat.pow_le_pow_right (by decide) (by unfold e4 e5; omega)
  exact (Nat.pow_le_pow_iff_left (by decide)).1 h1
end Go.Big
namespace Go.Proofs.YtekghemhccfhkaaGreatDoor
open Go.RowKit Go.Big
/-- The library's tables lie as they were laid. -/
def TabsA (w : World) : Prop := Tabs w ∧ Lib.TabIs Tryz.prog w "internal/strconv.uint64pow10" .u64 Lib.pow10Tab
theorem tabIs_below {w w' : World} (h : Lib.TabIs Tryz.prog w "internal/strconv.uint64pow10" .u64 Lib.pow10Tab) (hb : Below w.heap.size w w') : Lib.TabIs Tryz.prog w' "internal/strconv.uint64pow10" .u64 Lib.pow10Tab := by
  have hg : Tryz.prog.globalNamed "internal/strconv.uint64pow10" = some 2 := by kernel_rfl
  unfold Lib.TabIs World.var? at *
  rw [hg] at h ⊢
  simp only [Option.bind_some] at h ⊢
  cases hq : w.heap[2]? with
  | none => rw [hq] at h; cases h
  | some o =>
    rw [hb.block 2 (Array.getElem?_eq_some_iff.1 hq).1, hq]
    rw [hq] at h
    exact h
theorem TabsA.below {w w' : World} (h : TabsA w) (hb : Below w.heap.size w w') : TabsA w' := ⟨tabs_below h.1 hb, tabIs_below h.2 hb⟩
def RetStr (w : World) (l : List UInt8) (e : Ending) (w' : World) : Prop := e = .returned (.string ⟨l.toArray⟩) ∧ Below w.heap.size w w'
theorem below_grown' {B : Nat} {w : World} (hB : B ≤ w.heap.size) (k : Nat) (os : Array Obj) : Below B w (Sort.grow (w.drewN k) os) := Lib.below_grow B w hB k os
set_option maxRecDepth 100000 in
set_option maxHeartbeats 1000000 in
theorem string_small {n : Int} (hs : IsS n) (w : World) (hT : TabsA w) : Calls Tryz.prog 60 #[.agg #[.int .i64 n, .pointer none]] w (RetStr w (itext n)) := by
  rw [itext_eq]
  have hb := below_box w #[.int .i64 n, .pointer none] 63
  have HF := Lib.hid (Proofs.Tryz.strconv_FormatInt_10 n hs.1 hs.2 _ (tabIs_below hT.2 hb))
  have HB := Lib.hid hb
  clear hb hT
  go_enter Tryz.func60, Tryz.ntmps60
  go_wp2_with fail
  refine HF.out.mono ?_
  rintro e w1 ⟨rfl, k, os, rfl⟩
  have HB1 := Lib.hid (below_trans HB.out (below_grown' (Nat.le_refl _) k os))
  go_wp2_with fail
  go_ret
  exact ⟨rfl, HB1.out⟩
set_option maxRecDepth 100000 in
set_option maxHeartbeats 1000000 in
theorem string_long {a : Nat} {n : Int} {w : World} (h : LongV w a n) (hn : n.natAbs < B64 ^ 31) : Calls Tryz.prog 60 #[.agg #[.int .i64 0, .pointer (some ⟨a, 0, none⟩)]] w (RetStr w (itext n)) := by
  obtain ⟨ng, sz, m, h1, h2, h3, rfl, h5⟩ := h
  rw [signed_natAbs] at hn
  have hm0 : 0 < m := by
    rcases Nat.eq_zero_or_pos m with h | h
    · subst h; exfalso; apply h5; unfold IsS signed; split <;> omega
    · exact h
  have hlt : a < w.heap.size := World.block_lt_of_cell? w _ h1
  have hgne : a ≠ w.heap.size := by omega
  obtain ⟨w0, hw0⟩ : ∃ w0, w.alloc (.cells #[.int .i64 0, .pointer (some ⟨a, 0, none⟩)] 63) = w0 := ⟨_, rfl⟩
  obtain ⟨hb, hrow, hsz⟩ := box_facts hw0
  have k0 : w0.cell? ⟨a, 0, none⟩ = some (.bool ng) := (hb.cell (p := ⟨a, 0, none⟩) hlt).trans h1
  have k1 : w0.cell? ⟨a, 1, none⟩ = some sz := (hb.cell (p := ⟨a, 1, none⟩) hlt).trans h2
  have c0 := cell_rowB hrow 0
  have c1 := cell_rowB hrow 1
  have HBL := Lib.hid (bitLen_any (h3.below hb) hm0)
  have HN := Lib.hid (And.intro (h3.below hb) (And.intro hn hm0))
  have HB := Lib.hid hb
  have HS := Lib.hid h5
  clear h1 h2 h3 h5 hb hrow hsz hlt hn hm0
  cases ng
  all_goals
    go_enter Tryz.func60, Tryz.ntmps60
    go_wp2_with fail
    refine HBL.out.mono ?_
    rintro e w1 ⟨L, rfl, rfl, hL1, hL2, hL3, hL4⟩
    have hL5 : L ≤ 1984 := by
      have h1 := Nat.lt_of_le_of_lt hL2 HN.out.2.1
      rw [B64_pow] at h1
      have h2 := (Nat.pow_lt_pow_iff_right (a := 2) (by decide)).1 h1
      omega
    obtain ⟨D, hD⟩ : ∃ D, L * 30103 / 100000 + 1 = D := ⟨_, rfl⟩
    have hDi : (L : Int) * 30103 / 100000 + 1 = (D : Int) := by omega
    have hD1 : D ≤ 608 := by omega
    have hmD : m < 10 ^ D := by rw [← hD]; exact Nat.lt_of_lt_of_le hL3 (two_ten L)
    have HD := Lib.hid hmD
    have hmk : ∀ W : World, (Instr.makeSlice 39 (.int .i64 (D : Int)) (.int .i64 (D : Int))).run Tryz.prog W = .ok (.slice (some ⟨W.heap.size, 0, none⟩) D D) (W.alloc (.cells (cellsOf .u8 (zeros D)) 5)) :=
      fun W => run_mk 39 5 .u8 Tryz.underlying39 1 (by kernel_rfl) (by decide) D D rfl (by omega) W
    clear hL2 hL3 hL4 hD hmD
    go_wp2_with fail
    obtain ⟨W2, hW2⟩ : ∃ W2, w1.alloc (.cells (cellsOf .u8 (zeros D)) 5) = W2 := ⟨_, rfl⟩
    have hb2 : Below w1.heap.size w1 W2 := by rw [← hW2]; exact below_box _ _ _
    have hr2 : isRow W2 w1.heap.size 5 .u8 ([] ++ (zeros D ++ [])) := by rw [← hW2, List.nil_append, List.append_nil]; exact isRow_alloc w1 5 .u8 (zeros D)
    have q1 : W2.cell? ⟨a, 1, none⟩ = some sz := (hb2.cell (p := ⟨a, 1, none⟩) (World.block_lt_of_cell? w1 _ k1)).trans k1
    have q2 : W2.cell? ⟨w.heap.size, 1, none⟩ = some (.pointer (some ⟨a, 0, none⟩)) := (hb2.cell (p := ⟨w.heap.size, 1, none⟩) (World.block_lt_of_cell? w1 _ c1)).trans c1
    have hwd : ∀ vp, Calls Tryz.prog 103 #[.slice (some ⟨w1.heap.size, 0, none⟩) D D, sz, vp] W2.drew (WcsPost w1.heap.size w1 w1.heap.size 5 ([] ++ (digs D m ++ []))) := fun vp =>
      writeDigits_small (capb := D) (vp := vp) (B0 := w1.heap.size) (W0 := w1) (hr2.drewN 1) ((HN.out.1.below hb2).below (below_drewN (Below.refl W2.heap.size W2) 1)) (zeros_len D) (Nat.le_refl _) rfl hD1 (below_drewN hb2 1) (Nat.le_refl _)
    have HWD := Lib.hid hwd
    have HC := Lib.hid (fun (w3 : World) (h3 : Below w1.heap.size w1 w3) => And.intro ((h3.cell (p := ⟨a, 1, none⟩) (World.block_lt_of_cell? w1 _ k1)).trans k1) ((h3.cell (p := ⟨w.heap.size, 1, none⟩) (World.block_lt_of_cell? w1 _ c1)).trans c1))
    clear hwd
    rw [hW2]
    clear hb2 hr2 hW2 k0 k1 c0 c1 HBL
    go_region_held3 (fun w' => w'.cell? ⟨a, 1, none⟩ = some sz ∧ w'.cell? ⟨w.heap.size, 1, none⟩ = some (.pointer (some ⟨a, 0, none⟩)))
      (first | exact ⟨q1, q2⟩ | exact ⟨z1, z2⟩ | fail)
      (first | (go_at_call 104; (with_reducible refine (powers_small (by omega) _).mono ?_); rintro e w2 ⟨rfl, rfl⟩) | (go_at_call 103; (with_reducible refine (HWD.out _).mono ?_); rintro e w3 ⟨rfl, hr3, hb3⟩; obtain ⟨z1, z2⟩ := HC.out w3 hb3) | fail)
    rw [List.nil_append, List.append_nil] at hr3
    have hconv : (convert 39 9 (.slice (some ⟨w1.heap.size, 0, none⟩) D D)).run Tryz.prog w3 = .ok (.string ⟨(digb D m).toArray⟩) w3 := by
      have := run_convert_bytes_back (P := Tryz.prog) w3 39 9 5 ⟨w1.heap.size, 0, none⟩ D (digb D m) Tryz.underlying39 Tryz.underlying5 Tryz.underlying9 (fun j hj => by
        rw [digb_len] at hj
        have h1 := hr3.cell (i := j) (by rw [digs_len]; exact hj)
        have h2 : (⟨w1.heap.size, 0, none⟩ : Addr).add j = ⟨w1.heap.size, j, none⟩ := by unfold Addr.add; split <;> simp_all
        rw [h2, h1]
        have h3 : j < (digs D m).length := by rw [digs_len]; exact hj
        have h4 := digs_range D m _ (List.getElem_mem h3)
        have h5 : (digb D m)[j]'(by rw [digb_len]; exact hj) = UInt8.ofNat (digs D m)[j] := by simp [digb]
        rw [h5, nth_lt h3, UInt8.toNat_ofNat', Nat.mod_eq_of_lt (by omega)])
      rw [digb_len] at this
      exact this
    have HTL := Lib.hid (fun w => Proofs.Tryz.strings_TrimLeft_one ⟨(digb D m).toArray⟩ 48 (by decide) w)
    have HF := Lib.hid hb3
    clear hr3 hb3 q1 q2 z1 z2 HWD HC
    go_wp2_with fail
    refine (HTL.out _).mono ?_
    rintro e w4 ⟨rfl, rfl⟩
    obtain ⟨dd, hdd⟩ : ∃ dd, Lib.trimLeftB (digb D m) 48 = dd := ⟨_, rfl⟩
    have hd2 : dd = Lib.decDigits m := by rw [← hdd]; exact digb_strip HN.out.2.2 HD.out
    have hdl : dd.length ≤ 608 := by
      rw [hd2]
      exact Nat.le_trans (dd_len (by omega) HD.out) hD1
    rw [hdd]
    have HDD := Lib.hid hd2
    clear hdd hd2
    go_wp2_with fail
    go_ret
    refine ⟨?_, below_trans HB.out HF.out⟩
  · have e : itext (signed false m) = dd := by
      rw [HDD.out]; unfold itext signed
      rw [if_neg (by simp)]; rfl
    rw [e]
    exact congrArg (fun t => Ending.returned (.string t)) (ByteArray.ext (by rw [ByteArray.data_append]; simp))
  · have e : itext (signed true m) = 45 :: dd := by
      have hm0 := HN.out.2.2
      rw [HDD.out]; unfold itext signed
      rw [if_pos (by simp; omega)]; simp
    rw [e]
    exact congrArg (fun t => Ending.returned (.string t)) (ByteArray.ext (by rw [ByteArray.data_append]; simp))
/-- (Int).String -/
theorem string_any {v : Value} {n : Int} {w : World} (h : IntV w v n) (hT : TabsA w) (hn : n.natAbs < B64 ^ 31) : Calls Tryz.prog 60 #[v] w (RetStr w (itext n)) := by
  rcases h with ⟨hs, rfl⟩ | ⟨a, rfl, h⟩
  · exact string_small hs w hT
  · exact string_long h hn
end Go.Proofs.YtekghemhccfhkaaGreatDoor
namespace Go.Proofs.YtekghemhccfhkaaGreatDoor
open Go.RowKit Go.Big
theorem fromInt64_any {n : Int} (hs : IsS n) (w : World) : Calls Tryz.prog 59 #[.int .i64 n] w (RetInt w n) := by
  go_enter Tryz.func59, Tryz.ntmps59
  go_wp2_with fail
  exact bodyPost_ret (v := smInt n) (by simp [results, Tryz.results59, go_sem, smInt]) rfl ⟨_, rfl, .inl ⟨hs, rfl⟩, below_box _ _ _⟩
def RetI (w : World) (n : Int) (e : Ending) (w' : World) : Prop := e = .returned (.int .i64 n) ∧ Below w.heap.size w w'
set_option maxRecDepth 100000 in
set_option maxHeartbeats 1000000 in
theorem isOne_any {v : Value} {n : Int} {w : World} (h : IntV w v n) : Calls Tryz.prog 56 #[v] w (RetBool w (decide (n = 1))) := by
  rcases h.cs with ⟨hs, rfl⟩ | ⟨a, rfl, _, hn⟩
  · have HB := Lib.hid (below_box w #[.int .i64 n, .pointer none] 63)
    clear h hs
    obtain ⟨b, hb⟩ : ∃ b, (n == 1) = b := ⟨_, rfl⟩
    have hb2 : decide (n = 1) = b := by rw [← hb]; rfl
    rw [hb2]
    clear hb2
    go_enter Tryz.func56, Tryz.ntmps56
    go_wp2_with fail
    go_ret
    exact ⟨rfl, HB.out⟩
  · have HB := Lib.hid (below_box w #[.int .i64 0, .pointer (some ⟨a, 0, none⟩)] 63)
    have hb2 : decide (n = 1) = false := by rw [decide_eq_false_iff_not]; rintro rfl; exact hn ⟨by omega, by omega⟩
    rw [hb2]
    clear h hn hb2
    go_enter Tryz.func56, Tryz.ntmps56
    go_wp2_with fail
    go_ret
    exact ⟨rfl, HB.out⟩
set_option maxRecDepth 100000 in
set_option maxHeartbeats 1000000 in
theorem sign_any {v : Value} {n : Int} {w : World} (h : IntV w v n) : Calls Tryz.prog 65 #[v] w (RetI w (Int.sign n)) := by
  have hfin : ∀ b, decide (n < 0) = b → (b = true → Int.sign n = -1) ∧ (b = false → n ≠ 0 → Int.sign n = 1) ∧ (n = 0 → Int.sign n = 0) := by
    rintro b rfl
    refine ⟨fun h => Int.sign_eq_neg_one_of_neg (by simpa using h), fun h h0 => Int.sign_eq_one_of_pos (by simp at h; omega), fun h => by rw [h]; rfl⟩
  obtain ⟨b, hb⟩ : ∃ b, decide (n < 0) = b := ⟨_, rfl⟩
  have HF := Lib.hid (hfin b hb)
  have hN : ∀ w' : World, Below w.heap.size w w' → Calls Tryz.prog 112 #[v] w' (RetBool w' b) := fun w' hb' => by rw [← hb]; exact negative_any (h.below hb')
  have HN := Lib.hid hN
  clear hfin hN hb
  rcases h.cs with ⟨hs, rfl⟩ | ⟨a, rfl, _, hn⟩
  · clear h hs
    obtain ⟨z, hz⟩ : ∃ z, (n == 0) = z := ⟨_, rfl⟩
    obtain ⟨w0, hw0, hb0, hx0, _⟩ := box1 w #[.int .i64 n, .pointer none] 63 (ip2 _ _)
    have HX := Lib.hid hx0
    have HB := Lib.hid hb0
    have HZ := Lib.hid hz
    have d0 := hx0.cell 0
    have d1 := hx0.cell 1
    clear hx0 hb0
    cases b <;> cases z
    all_goals
      go_enter Tryz.func65, Tryz.ntmps65
      go_wp2_with fail
      refine (HN.out _ HB.out).mono ?_
      rintro e w1 ⟨rfl, hb1⟩
      have hx1 := HX.out.below hb1
      have c0 := hx1.cell 0
      have c1 := hx1.cell 1
      have HB1 := Lib.hid (below_trans HB.out hb1)
      clear hb1 hx1 d0 d1
      go_wp2_with fail
      go_ret
    · exact ⟨by rw [HF.out.2.1 (by simp) (by intro h0; have := HZ.out; rw [h0] at this; cases this)]; rfl, HB1.out⟩
    · exact ⟨by rw [HF.out.2.2 (by have := HZ.out; simpa using this)]; rfl, HB1.out⟩
    · exact ⟨by rw [HF.out.1 (by simp)]; rfl, HB1.out⟩
    · exact ⟨by rw [HF.out.1 (by simp)]; rfl, HB1.out⟩
  · have hn0 : n ≠ 0 := by rintro rfl; exact hn ⟨by omega, by omega⟩
    clear h hn
    obtain ⟨w0, hw0, hb0, hx0, _⟩ := box1 w #[.int .i64 0, .pointer (some ⟨a, 0, none⟩)] 63 (ip2 _ _)
    have HX := Lib.hid hx0
    have HB := Lib.hid hb0
    have HZ := Lib.hid hn0
    have d0 := hx0.cell 0
    have d1 := hx0.cell 1
    clear hx0 hb0 hn0
    cases b
    all_goals
      go_enter Tryz.func65, Tryz.ntmps65
      go_wp2_with fail
      refine (HN.out _ HB.out).mono ?_
      rintro e w1 ⟨rfl, hb1⟩
      have hx1 := HX.out.below hb1
      have c0 := hx1.cell 0
      have c1 := hx1.cell 1
      have HB1 := Lib.hid (below_trans HB.out hb1)
      clear hb1 hx1 d0 d1
      go_wp2_with fail
      go_ret
    · exact ⟨by rw [HF.out.2.1 (by simp) HZ.out]; rfl, HB1.out⟩
    · exact ⟨by rw [HF.out.1 (by simp)]; rfl, HB1.out⟩
end Go.Proofs.YtekghemhccfhkaaGreatDoor
namespace Go.Big
open Go Go.RowKit
/-- What is known of a box of two cells in every world that keeps what w0 had. -/
def K2 (g : Nat) (x : Int) (p : Option Addr) (w : World) : Prop := Bx w g #[.int .i64 x, .pointer p] 63
theorem K2.below {g : Nat} {x : Int} {p : Option Addr} {w w' : World} (h : K2 g x p w) (hb : Below w.heap.size w w') : K2 g x p w' := Bx.below h hb
theorem K2.c0 {g : Nat} {x : Int} {p : Option Addr} {w : World} (h : K2 g x p w) : w.cell? ⟨g, 0, none⟩ = some (.int .i64 x) := by rw [Bx.cell h]; rfl
theorem K2.c1 {g : Nat} {x : Int} {p : Option Addr} {w : World} (h : K2 g x p w) : w.cell? ⟨g, 1, none⟩ = some (.pointer p) := by rw [Bx.cell h]; rfl
theorem K2.f {g : Nat} {x : Int} {p : Option Addr} {w : World} (h : K2 g x p w) (i : Nat) : w.frozen? ⟨g, i, none⟩ = false := Bx.frozen h i
theorem two_boxes (w : World) (x : Int) (p : Option Addr) : ∃ w0, (w.alloc (.cells #[.int .i64 x, .pointer p] 63)).alloc (.cells #[.int .i64 0, .pointer none] 63) = w0 ∧ Below w.heap.size w w0 ∧ K2 w.heap.size x p w0 ∧ K2 (w.heap.size + 1) 0 none w0 ∧ w0.heap.size = w.heap.size + 2 := by
  have h1 : Bx (w.alloc (.cells #[.int .i64 x, .pointer p] 63)) w.heap.size #[.int .i64 x, .pointer p] 63 := Bx.new w 63 (ip2 x p)
  have h2 := Bx.new (w.alloc (.cells #[.int .i64 x, .pointer p] 63)) (cs := #[.int .i64 0, .pointer none]) 63 (ip2 0 none)
  have e : (w.alloc (.cells #[.int .i64 x, .pointer p] 63)).heap.size = w.heap.size + 1 := by simp
  rw [e] at h2
  exact ⟨_, rfl, ((Below.refl _ _).alloc (Nat.le_refl _) _).alloc (by simp) _, h1.below ((Below.refl _ _).alloc (Nat.le_refl _) _), h2, by simp⟩
theorem signed_not (n : Int) : signed (!decide (n < 0)) n.natAbs = -n := by
  unfold signed
  by_cases h : n < 0
  · simp [h]; omega
  · simp [h]; omega
end Go.Big
namespace Go.Proofs.YtekghemhccfhkaaGreatDoor
open Go.RowKit Go.Big
/-- Behind a call: the box's cells, and all that was there. -/
theorem s_step {w w' w1 : World} {g0 g1 : Nat} {x y : Int} {p q : Option Addr} (s1 : w'.cell? ⟨g0, 0, none⟩ = some (.int .i64 x)) (s2 : w'.cell? ⟨g0, 1, none⟩ = some (.pointer p)) (s3 : Below w.heap.size w w') (k : K2 g1 y q w') (hb : Below w'.heap.size w' w1) :
    w1.cell? ⟨g0, 0, none⟩ = some (.int .i64 x) ∧ w1.cell? ⟨g0, 1, none⟩ = some (.pointer p) ∧ Below w.heap.size w w1 ∧ K2 g1 y q w1 :=
  ⟨(hb.cell (p := ⟨g0, 0, none⟩) (World.block_lt_of_cell? w' _ s1)).trans s1, (hb.cell (p := ⟨g0, 1, none⟩) (World.block_lt_of_cell? w' _ s2)).trans s2, s3.trans (hb.mono s3.size), k.below hb⟩
/-- Behind the store of an Int into the result's box. -/
theorem s_store {w w3 : World} {g0 : Nat} {x y : Int} {p q : Option Addr} (s1 : w3.cell? ⟨g0, 0, none⟩ = some (.int .i64 x)) (s2 : w3.cell? ⟨g0, 1, none⟩ = some (.pointer p)) (s3 : Below w.heap.size w w3) {g1 : Nat} (hne : g0 ≠ g1) (hg : w.heap.size ≤ g1) :
    ((w3.setCell ⟨g1, 0, none⟩ (.int .i64 y)).setCell ⟨g1, 1, none⟩ (.pointer q)).cell? ⟨g0, 0, none⟩ = some (.int .i64 x) ∧ ((w3.setCell ⟨g1, 0, none⟩ (.int .i64 y)).setCell ⟨g1, 1, none⟩ (.pointer q)).cell? ⟨g0, 1, none⟩ = some (.pointer p) ∧
      Below w.heap.size w ((w3.setCell ⟨g1, 0, none⟩ (.int .i64 y)).setCell ⟨g1, 1, none⟩ (.pointer q)) :=
  ⟨by rw [cell_setO hne, cell_setO hne]; exact s1, by rw [cell_setO hne, cell_setO hne]; exact s2, (s3.setCell hg _).setCell hg _⟩
/-- What a call that ends with an Int in its result's box leaves. -/
theorem ret_box {w w3 : World} {g1 : Nat} {x0 y : Int} {p0 q : Option Addr} {n : Int} {t : TypeId} (k : Bx w3 g1 #[.int .i64 x0, .pointer p0] t) (hv : IntV w3 (.agg #[.int .i64 y, .pointer q]) n) (s3 : Below w.heap.size w w3) (hg : w.heap.size ≤ g1) :
    ((w3.setCell ⟨g1, 0, none⟩ (.int .i64 y)).setCell ⟨g1, 1, none⟩ (.pointer q)).cell? ⟨g1, 0, none⟩ = some (.int .i64 y) ∧ ((w3.setCell ⟨g1, 0, none⟩ (.int .i64 y)).setCell ⟨g1, 1, none⟩ (.pointer q)).cell? ⟨g1, 1, none⟩ = some (.pointer q) ∧
      RetInt w n (.returned (.agg #[.int .i64 y, .pointer q])) ((w3.setCell ⟨g1, 0, none⟩ (.int .i64 y)).setCell ⟨g1, 1, none⟩ (.pointer q)) := by
  have h2 := (k.set 0 (IP.int y)).set 1 (IP.ptr q)
  exact ⟨by rw [h2.cell]; rfl, by rw [h2.cell]; rfl, _, rfl, hv.set2 (i := 0) k, (s3.setCell hg _).setCell hg _⟩
set_option maxRecDepth 100000 in
set_option maxHeartbeats 1000000 in
theorem neg_small {n : Int} (hs : IsS n) (hm : n ≠ -9223372036854775808) (w : World) : Calls Tryz.prog 66 #[.agg #[.int .i64 n, .pointer none]] w (RetInt w (-n)) := by
  have h1 : (n != -9223372036854775808) = true := by rw [bne_iff_ne]; exact hm
  have hw : IntKind.i64.wrap (-n) = -n := by unfold IsS at hs; rw [IntKind.wrap_i64]; omega
  have hr : IsS (-n) := by unfold IsS at *; omega
  go_enter Tryz.func66, Tryz.ntmps66
  go_wp2_with fail
  exact bodyPost_ret (v := smInt (-n)) (by simp [results, Tryz.results66, go_sem, smInt]) rfl ⟨_, rfl, .inl ⟨hr, rfl⟩, below2 _ _ _⟩
set_option maxRecDepth 100000 in
set_option maxHeartbeats 1000000 in
theorem neg_big {x : Int} {p : Option Addr} {n : Int} {w : World} (h : IntV w (.agg #[.int .i64 x, .pointer p]) n) (hc : p = none → x = -9223372036854775808) : Calls Tryz.prog 66 #[.agg #[.int .i64 x, .pointer p]] w (RetInt w (-n)) := by
  obtain ⟨w0, hw0, hb0, k0, k1, hsz⟩ := two_boxes w x p
  have HV := Lib.hid h
  have e1 := k0.c0
  have e2 := k0.c1
  have s1 : w0.drew.cell? ⟨w.heap.size, 0, none⟩ = some (.int .i64 x) := k0.c0
  have s2 : w0.drew.cell? ⟨w.heap.size, 1, none⟩ = some (.pointer p) := k0.c1
  have s3 := hb0.drew
  have k1 : K2 (w.heap.size + 1) 0 none w0.drew := k1
  have HSZ := Lib.hid hsz
  have HC := Lib.hid hc
  clear hc k0 hb0 h hsz
  cases p
  · have hx : x = -9223372036854775808 := HC.out rfl
    subst hx
    go_enter Tryz.func66, Tryz.ntmps66
    go_wp2_with fail
    go_region_held3 (fun w' => w'.cell? ⟨w.heap.size, 0, none⟩ = some (.int .i64 (-9223372036854775808)) ∧ w'.cell? ⟨w.heap.size, 1, none⟩ = some (.pointer (none)) ∧ Below w.heap.size w w') (first | exact ⟨s1, s2, s3⟩ | exact s_store s1 s2 s3 (by omega) (by omega) | fail) (first | (go_at_call 112; (with_reducible refine (negative_any (HV.out.below s3)).mono ?_); rintro e w1 ⟨rfl, hb1⟩; obtain ⟨s1, s2, s3, k1⟩ := s_step s1 s2 s3 k1 hb1) | (go_at_call 114; (with_reducible refine (natural_any (HV.out.below s3)).mono ?_); rintro e w2 ⟨v2, rfl, hv2, hb2⟩; obtain ⟨s1, s2, s3, k1⟩ := s_step s1 s2 s3 k1 hb2) | (go_at_call 113; (with_reducible refine (signed_any _ hv2).mono ?_); rintro e w3 ⟨v3, rfl, hv3, hb3⟩; obtain ⟨s1, s2, s3, k1⟩ := s_step s1 s2 s3 k1 hb3; obtain ⟨y, q, rfl⟩ := hv3.two; have c0 := k1.c0; have c1 := k1.c1; have f0 := k1.f 0; have f1 := k1.f 1) | fail)
    obtain ⟨z1, z2, z3⟩ := ret_box k1 hv3 s3 (by omega)
    rw [signed_not] at z3
    have HZ := Lib.hid z3
    clear s1 s2 s3 k1 c0 c1 f0 f1 hv3 hb1 hb2 hb3 hv2 z3
    go_wp2_with fail
    exact bodyPost_ret (v := .agg #[.int .i64 y, .pointer q]) (by simp [results, Tryz.results66, go_sem, z1, z2]) rfl HZ.out
  · next a =>
    go_enter Tryz.func66, Tryz.ntmps66
    go_wp2_with fail
    go_region_held3 (fun w' => w'.cell? ⟨w.heap.size, 0, none⟩ = some (.int .i64 x) ∧ w'.cell? ⟨w.heap.size, 1, none⟩ = some (.pointer (some a)) ∧ Below w.heap.size w w') (first | exact ⟨s1, s2, s3⟩ | exact s_store s1 s2 s3 (by omega) (by omega) | fail) (first | (go_at_call 112; (with_reducible refine (negative_any (HV.out.below s3)).mono ?_); rintro e w1 ⟨rfl, hb1⟩; obtain ⟨s1, s2, s3, k1⟩ := s_step s1 s2 s3 k1 hb1) | (go_at_call 114; (with_reducible refine (natural_any (HV.out.below s3)).mono ?_); rintro e w2 ⟨v2, rfl, hv2, hb2⟩; obtain ⟨s1, s2, s3, k1⟩ := s_step s1 s2 s3 k1 hb2) | (go_at_call 113; (with_reducible refine (signed_any _ hv2).mono ?_); rintro e w3 ⟨v3, rfl, hv3, hb3⟩; obtain ⟨s1, s2, s3, k1⟩ := s_step s1 s2 s3 k1 hb3; obtain ⟨y, q, rfl⟩ := hv3.two; have c0 := k1.c0; have c1 := k1.c1; have f0 := k1.f 0; have f1 := k1.f 1) | fail)
    obtain ⟨z1, z2, z3⟩ := ret_box k1 hv3 s3 (by omega)
    rw [signed_not] at z3
    have HZ := Lib.hid z3
    clear s1 s2 s3 k1 c0 c1 f0 f1 hv3 hb1 hb2 hb3 hv2 z3
    go_wp2_with fail
    exact bodyPost_ret (v := .agg #[.int .i64 y, .pointer q]) (by simp [results, Tryz.results66, go_sem, z1, z2]) rfl HZ.out
theorem negI_any {v : Value} {n : Int} {w : World} (h : IntV w v n) : Calls Tryz.prog 66 #[v] w (RetInt w (-n)) := by
  rcases h.cs with ⟨hs, rfl⟩ | ⟨a, rfl, hl, hn⟩
  · by_cases hm : n = -9223372036854775808
    · subst hm; exact neg_big h (fun _ => rfl)
    · exact neg_small hs hm w
  · exact neg_big h (fun h => by cases h)
end Go.Proofs.YtekghemhccfhkaaGreatDoor
namespace Go.Big
open Go Go.RowKit
theorem three_boxes (w : World) (x : Int) (p : Option Addr) (y : Int) (q : Option Addr) : ∃ w0, ((w.alloc (.cells #[.int .i64 x, .pointer p] 63)).alloc (.cells #[.int .i64 y, .pointer q] 63)).alloc (.cells #[.int .i64 0, .pointer none] 63) = w0 ∧
    Below w.heap.size w w0 ∧ K2 w.heap.size x p w0 ∧ K2 (w.heap.size + 1) y q w0 ∧ K2 (w.heap.size + 2) 0 none w0 ∧ w0.heap.size = w.heap.size + 3 := by
  obtain ⟨w1, e1, b1, x1, z1⟩ := box1 w #[.int .i64 x, .pointer p] 63 (ip2 x p)
  obtain ⟨w2, e2, b2, x2, z2⟩ := box1 w1 #[.int .i64 y, .pointer q] 63 (ip2 y q)
  obtain ⟨w3, e3, b3, x3, z3⟩ := box1 w2 #[.int .i64 0, .pointer none] 63 (ip2 0 none)
  rw [z1] at x2
  rw [z2, z1] at x3
  refine ⟨w3, by rw [e1, e2, e3], (b1.trans (b2.mono b1.size)).trans (b3.mono (by omega)), (x1.below b2).below b3, x2.below b3, x3, by omega⟩
theorem pair_boxes (w : World) (x : Int) (p : Option Addr) (y : Int) (q : Option Addr) : ∃ w0, (w.alloc (.cells #[.int .i64 x, .pointer p] 63)).alloc (.cells #[.int .i64 y, .pointer q] 63) = w0 ∧
    Below w.heap.size w w0 ∧ K2 w.heap.size x p w0 ∧ K2 (w.heap.size + 1) y q w0 ∧ w0.heap.size = w.heap.size + 2 := by
  obtain ⟨w1, e1, b1, x1, z1⟩ := box1 w #[.int .i64 x, .pointer p] 63 (ip2 x p)
  obtain ⟨w2, e2, b2, x2, z2⟩ := box1 w1 #[.int .i64 y, .pointer q] 63 (ip2 y q)
  rw [z1] at x2
  refine ⟨w2, by rw [e1, e2], b1.trans (b2.mono b1.size), x1.below b2, x2, by omega⟩
/-- Behind a call: the cells of the two boxes, and all that was there. -/
theorem s_step4 {w w' w1 : World} {g0 g1 : Nat} {x y : Int} {p q : Option Addr} (s1 : w'.cell? ⟨g0, 0, none⟩ = some (.int .i64 x)) (s2 : w'.cell? ⟨g0, 1, none⟩ = some (.pointer p))
    (s3 : w'.cell? ⟨g1, 0, none⟩ = some (.int .i64 y)) (s4 : w'.cell? ⟨g1, 1, none⟩ = some (.pointer q)) (s5 : Below w.heap.size w w') (hb : Below w'.heap.size w' w1) :
    w1.cell? ⟨g0, 0, none⟩ = some (.int .i64 x) ∧ w1.cell? ⟨g0, 1, none⟩ = some (.pointer p) ∧ w1.cell? ⟨g1, 0, none⟩ = some (.int .i64 y) ∧ w1.cell? ⟨g1, 1, none⟩ = some (.pointer q) ∧ Below w.heap.size w w1 :=
  ⟨(hb.cell (p := ⟨g0, 0, none⟩) (World.block_lt_of_cell? w' _ s1)).trans s1, (hb.cell (p := ⟨g0, 1, none⟩) (World.block_lt_of_cell? w' _ s2)).trans s2,
    (hb.cell (p := ⟨g1, 0, none⟩) (World.block_lt_of_cell? w' _ s3)).trans s3, (hb.cell (p := ⟨g1, 1, none⟩) (World.block_lt_of_cell? w' _ s4)).trans s4, s5.trans (hb.mono s5.size)⟩
theorem s_store4 {w w3 : World} {g0 g1 g2 : Nat} {x y x2 : Int} {p q p2 : Option Addr} (s1 : w3.cell? ⟨g0, 0, none⟩ = some (.int .i64 x)) (s2 : w3.cell? ⟨g0, 1, none⟩ = some (.pointer p))
    (s3 : w3.cell? ⟨g1, 0, none⟩ = some (.int .i64 y)) (s4 : w3.cell? ⟨g1, 1, none⟩ = some (.pointer q)) (s5 : Below w.heap.size w w3) (h0 : g0 ≠ g2) (h1 : g1 ≠ g2) (hg : w.heap.size ≤ g2) :
    ((w3.setCell ⟨g2, 0, none⟩ (.int .i64 x2)).setCell ⟨g2, 1, none⟩ (.pointer p2)).cell? ⟨g0, 0, none⟩ = some (.int .i64 x) ∧ ((w3.setCell ⟨g2, 0, none⟩ (.int .i64 x2)).setCell ⟨g2, 1, none⟩ (.pointer p2)).cell? ⟨g0, 1, none⟩ = some (.pointer p) ∧
      ((w3.setCell ⟨g2, 0, none⟩ (.int .i64 x2)).setCell ⟨g2, 1, none⟩ (.pointer p2)).cell? ⟨g1, 0, none⟩ = some (.int .i64 y) ∧ ((w3.setCell ⟨g2, 0, none⟩ (.int .i64 x2)).setCell ⟨g2, 1, none⟩ (.pointer p2)).cell? ⟨g1, 1, none⟩ = some (.pointer q) ∧
      Below w.heap.size w ((w3.setCell ⟨g2, 0, none⟩ (.int .i64 x2)).setCell ⟨g2, 1, none⟩ (.pointer p2)) :=
  ⟨by rw [cell_setO h0, cell_setO h0]; exact s1, by rw [cell_setO h0, cell_setO h0]; exact s2, by rw [cell_setO h1, cell_setO h1]; exact s3, by rw [cell_setO h1, cell_setO h1]; exact s4, (s5.setCell hg _).setCell hg _⟩
end Go.Big
namespace Go.Proofs.YtekghemhccfhkaaGreatDoor
open Go.RowKit Go.Big
theorem signed_same (b : Bool) (m k : Nat) : signed b (m + k) = signed b m + signed b k := by unfold signed; split <;> omega
theorem signed_sub {a b : Bool} {m k : Nat} (h : a ≠ b) (hle : k ≤ m) : signed a (m - k) = signed a m + signed b k := by
  unfold signed; cases a <;> cases b <;> simp at h ⊢ <;> omega
set_option maxRecDepth 100000 in
set_option maxHeartbeats 1000000 in
/-- addSizes -/
theorem addSizes_any {na nb : Bool} {va vb : Value} {m k K : Nat} {w : World} (ha : NatV w .u64 B64 va m) (hb : NatV w .u64 B64 vb k) (hK : K < 1099511627776) (hm : m < B64 ^ K) (hk : k < B64 ^ K) :
    Calls Tryz.prog 156 #[.bool na, va, .bool nb, vb] w (RetInt w (signed na m + signed nb k)) := by
  obtain ⟨w0, hw0, hb0, hx0, _⟩ := box1 w #[.int .i64 0, .pointer none] 63 (ip2 _ _)
  have HX := Lib.hid hx0
  have HB0 := Lib.hid hb0
  have ha0 := ha.below hb0
  have hbb0 := hb.below hb0
  clear hb0 hx0 ha hb
  by_cases he : na = nb
  · subst he
    have HE := Lib.hid (signed_same na m k)
    have HP := Lib.hid (plus_any ha0 hbb0 hK hm hk)
    have ht : (na == na) = true := by simp
    clear ha0 hbb0 hm hk
    go_enter Tryz.func156, Tryz.ntmps156
    go_wp2_with fail
    refine HP.out.mono ?_
    rintro e w1 ⟨v1, rfl, hv1, hb1⟩
    have HS := Lib.hid (signed_any na hv1)
    have HB1 := Lib.hid hb1
    clear hv1 hb1
    go_wp2_with fail
    refine HS.out.mono ?_
    rintro e w2 ⟨v, rfl, hv, hb2⟩
    have HBB := Lib.hid (below_trans HB1.out hb2)
    clear hb2
    have k1 := HX.out.below (HBB.out)
    obtain ⟨y, q, rfl⟩ := hv.two
    obtain ⟨z1, z2, z3⟩ := ret_box (w := w) k1 hv (below_trans HB0.out HBB.out) (Nat.le_refl _)
    have c0 := K2.c0 k1
    have c1 := K2.c1 k1
    have f0 := k1.frozen 0
    have f1 := k1.frozen 1
    have HZ := Lib.hid z3
    clear hv k1 z3
    go_wp2_with fail
    exact bodyPost_ret (v := .agg #[.int .i64 y, .pointer q]) (by simp [results, Tryz.results156, go_sem, z1, z2]) rfl (by rw [← HE.out]; exact HZ.out)
  · have ht : (na == nb) = false := by simpa using he
    rcases Nat.lt_or_ge m k with hlt | hge
    · have HE := Lib.hid (show signed nb (k - m) = signed na m + signed nb k by rw [Int.add_comm]; exact signed_sub (Ne.symm he) (by omega))
      have HC := Lib.hid (compare_at ha0 hbb0 (cmpInt_lt (by omega)))
      have HM := Lib.hid (And.intro ha0 (And.intro hbb0 (Nat.le_of_lt hlt)))
      clear ha0 hbb0 hm hk he hlt
      go_enter Tryz.func156, Tryz.ntmps156
      go_wp2_with fail
      refine HC.out.mono ?_
      rintro e w1 ⟨rfl, hb1⟩
      have HP := Lib.hid (minus_any (HM.out.2.1.below hb1) (HM.out.1.below hb1) HM.out.2.2)
      have HB1 := Lib.hid hb1
      clear hb1
      go_wp2_with fail
      refine HP.out.mono ?_
      rintro e w2 ⟨v1, rfl, hv1, hb2⟩
      have HS := Lib.hid (signed_any nb hv1)
      have HB2 := Lib.hid (below_trans HB1.out hb2)
      clear hv1 hb2
      go_wp2_with fail
      refine HS.out.mono ?_
      rintro e w3 ⟨v, rfl, hv, hb3⟩
      have HBB := Lib.hid (below_trans HB2.out hb3)
      clear hb3
      have k1 := HX.out.below (HBB.out)
      obtain ⟨y, q, rfl⟩ := hv.two
      obtain ⟨z1, z2, z3⟩ := ret_box (w := w) k1 hv (below_trans HB0.out HBB.out) (Nat.le_refl _)
      have c0 := K2.c0 k1
      have c1 := K2.c1 k1
      have f0 := k1.frozen 0
      have f1 := k1.frozen 1
      have HZ := Lib.hid z3
      clear hv k1 z3
      go_wp2_with fail
      exact bodyPost_ret (v := .agg #[.int .i64 y, .pointer q]) (by simp [results, Tryz.results156, go_sem, z1, z2]) rfl (by rw [← HE.out]; exact HZ.out)
    · have HE := Lib.hid (show signed na (m - k) = signed na m + signed nb k from signed_sub he hge)
      obtain ⟨v, hv0, hv⟩ : ∃ v : Int, 0 ≤ v ∧ cmpInt m k = v := by
        refine ⟨cmpInt m k, ?_, rfl⟩
        unfold cmpInt
        rw [if_neg (by omega)]
        split <;> decide
      have HC := Lib.hid (compare_at ha0 hbb0 hv)
      have HM := Lib.hid (And.intro ha0 (And.intro hbb0 hge))
      clear ha0 hbb0 hm hk he hge hv
      go_enter Tryz.func156, Tryz.ntmps156
      go_wp2_with fail
      refine HC.out.mono ?_
      rintro e w1 ⟨rfl, hb1⟩
      have HP := Lib.hid (minus_any (HM.out.1.below hb1) (HM.out.2.1.below hb1) HM.out.2.2)
      have HB1 := Lib.hid hb1
      clear hb1
      go_wp2_with fail
      refine HP.out.mono ?_
      rintro e w2 ⟨v1, rfl, hv1, hb2⟩
      have HS := Lib.hid (signed_any na hv1)
      have HB2 := Lib.hid (below_trans HB1.out hb2)
      clear hv1 hb2
      go_wp2_with fail
      refine HS.out.mono ?_
      rintro e w3 ⟨v, rfl, hv, hb3⟩
      have HBB := Lib.hid (below_trans HB2.out hb3)
      clear hb3
      have k1 := HX.out.below (HBB.out)
      obtain ⟨y, q, rfl⟩ := hv.two
      obtain ⟨z1, z2, z3⟩ := ret_box (w := w) k1 hv (below_trans HB0.out HBB.out) (Nat.le_refl _)
      have c0 := K2.c0 k1
      have c1 := K2.c1 k1
      have f0 := k1.frozen 0
      have f1 := k1.frozen 1
      have HZ := Lib.hid z3
      clear hv k1 z3
      go_wp2_with fail
      exact bodyPost_ret (v := .agg #[.int .i64 y, .pointer q]) (by simp [results, Tryz.results156, go_sem, z1, z2]) rfl (by rw [← HE.out]; exact HZ.out)
end Go.Proofs.YtekghemhccfhkaaGreatDoor
