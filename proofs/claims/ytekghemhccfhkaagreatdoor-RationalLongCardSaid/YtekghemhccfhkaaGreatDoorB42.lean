/-
  Walks of the program's functions: StrBig, StrLong.
-/
import Derived.Test.YtekghemhccfhkaaGreatDoorB39
import Derived.Test.YtekghemhccfhkaaGreatDoorB29
namespace Go.Proofs.YtekghemhccfhkaaGreatDoor
open Go.RowKit Go.Big
end Go.Proofs.YtekghemhccfhkaaGreatDoor
namespace Go.Proofs.YtekghemhccfhkaaGreatDoor
open Go.RowKit Go.Big
end Go.Proofs.YtekghemhccfhkaaGreatDoor
namespace Go.Proofs.YtekghemhccfhkaaGreatDoor
open Go.RowKit Go.Big
theorem pow_up {m K L : Nat} (h : m < B64 ^ K) (hL : K ≤ L) : m < B64 ^ L := Nat.lt_of_lt_of_le h (Nat.pow_le_pow_right (by decide) hL)
theorem bits_lt {i K : Nat} (h : 2 ^ i < B64 ^ K) : i < 64 * K := by
  rw [B64_pow] at h
  exact (Nat.pow_lt_pow_iff_right (a := 2) (by decide)).1 h
set_option maxRecDepth 100000 in
set_option maxHeartbeats 1000000 in
theorem string_bigL {a : Nat} {n : Int} {w : World} (h : LongV w a n) (hn : n.natAbs < B64 ^ 426) : Calls Tryz.prog 60 #[.agg #[.int .i64 0, .pointer (some ⟨a, 0, none⟩)]] w (RetStr w (itext n)) := by
  obtain ⟨ng, sz, m, h1, h2, h3, rfl, h5⟩ := h
  rw [signed_natAbs] at hn
  have hm0 : 0 < m := by
    rcases Nat.eq_zero_or_pos m with h | h
    · subst h; exfalso; apply h5; unfold IsS signed; split <;> omega
    · exact h
  have hlt : a < w.heap.size := World.block_lt_of_cell? w _ h1
  have hgne : a ≠ w.heap.size := by omega
  obtain ⟨w0, hw0⟩ : ∃ w0, w.alloc (.cells #[.int .i64 0, .pointer (some ⟨a, 0, none⟩)] 63) = w0 := ⟨_, rfl⟩
  obtain ⟨hb, hrow, hsz⟩ := box_facts hw0
  have k0 : w0.cell? ⟨a, 0, none⟩ = some (.bool ng) := (hb.cell (p := ⟨a, 0, none⟩) hlt).trans h1
  have k1 : w0.cell? ⟨a, 1, none⟩ = some sz := (hb.cell (p := ⟨a, 1, none⟩) hlt).trans h2
  have c0 := cell_rowB hrow 0
  have c1 := cell_rowB hrow 1
  have HBL := Lib.hid (bitLen_any (h3.below hb) hm0)
  have HN := Lib.hid (And.intro (h3.below hb) (And.intro hn hm0))
  have HB := Lib.hid hb
  have HS := Lib.hid h5
  clear h1 h2 h3 h5 hb hrow hsz hlt hn hm0
  cases ng
  all_goals
    go_enter Tryz.func60, Tryz.ntmps60
    go_wp2_with fail
    refine HBL.out.mono ?_
    rintro e w1 ⟨L, rfl, rfl, hL1, hL2, hL3, hL4⟩
    have hL5 : L ≤ 27264 := by
      have h1 := bits_lt (K := 426) (Nat.lt_of_le_of_lt hL2 HN.out.2.1)
      omega
    obtain ⟨D, hD⟩ : ∃ D, L * 30103 / 100000 + 1 = D := ⟨_, rfl⟩
    have hDi : (L : Int) * 30103 / 100000 + 1 = (D : Int) := by omega
    have hD1 : D ≤ 8208 := by omega
    have hmD : m < 10 ^ D := by rw [← hD]; exact Nat.lt_of_lt_of_le hL3 (two_ten L)
    have HD := Lib.hid hmD
    have hmk : ∀ W : World, (Instr.makeSlice 39 (.int .i64 (D : Int)) (.int .i64 (D : Int))).run Tryz.prog W = .ok (.slice (some ⟨W.heap.size, 0, none⟩) D D) (W.alloc (.cells (cellsOf .u8 (zeros D)) 5)) :=
      fun W => run_mk 39 5 .u8 Tryz.underlying39 1 (by kernel_rfl) (by decide) D D rfl (by omega) W
    clear hL2 hL3 hL4 hD hmD
    go_wp2_with fail
    obtain ⟨W2, hW2⟩ : ∃ W2, w1.alloc (.cells (cellsOf .u8 (zeros D)) 5) = W2 := ⟨_, rfl⟩
    have hb2 : Below w1.heap.size w1 W2 := by rw [← hW2]; exact below_box _ _ _
    have hr2 : isRow W2 w1.heap.size 5 .u8 ([] ++ (zeros D ++ [])) := by rw [← hW2, List.nil_append, List.append_nil]; exact isRow_alloc w1 5 .u8 (zeros D)
    have q1 : W2.cell? ⟨a, 1, none⟩ = some sz := (hb2.cell (p := ⟨a, 1, none⟩) (World.block_lt_of_cell? w1 _ k1)).trans k1
    have q2 : W2.cell? ⟨w.heap.size, 1, none⟩ = some (.pointer (some ⟨a, 0, none⟩)) := (hb2.cell (p := ⟨w.heap.size, 1, none⟩) (World.block_lt_of_cell? w1 _ c1)).trans c1
    have hmB : m < B64 ^ 470 := pow_up (K := 426) (L := 470) HN.out.2.1 (by decide)
    have hwd : ∀ (w' : World) (vp : Value) (k : Nat), Below W2.heap.size W2 w' → PwV w' vp k → (D ≤ 608 ∨ D ≤ 19 * 2 ^ k) → k ≤ 9 → Calls Tryz.prog 103 #[.slice (some ⟨w1.heap.size, 0, none⟩) D D, sz, vp] w' (FcsPost w' w1.heap.size 5 ([] ++ (digs D m ++ []))) := fun w' vp k hbw hp hDk hk =>
      writeDigits_long hk (hr2.below hbw) ((HN.out.1.below hb2).below hbw) (zeros_len D) (Nat.le_refl _) rfl hp hDk (by omega) hmB
    have HWD := Lib.hid hwd
    have HC := Lib.hid (fun (w3 : World) (h3 : Below w1.heap.size w1 w3) => And.intro ((h3.cell (p := ⟨a, 1, none⟩) (World.block_lt_of_cell? w1 _ k1)).trans k1) ((h3.cell (p := ⟨w.heap.size, 1, none⟩) (World.block_lt_of_cell? w1 _ c1)).trans c1))
    clear hwd
    rw [hW2]
    clear hr2 hW2 k0 k1 c0 c1 HBL hmB
    have HB2 := Lib.hid hb2
    have hbz : w1.heap.size ≤ W2.heap.size := hb2.size
    clear hb2
    have hbW : Below W2.heap.size W2 W2.drew := (Below.refl _ _).drew
    go_region_held3 (fun w' => w'.cell? ⟨a, 1, none⟩ = some sz ∧ w'.cell? ⟨w.heap.size, 1, none⟩ = some (.pointer (some ⟨a, 0, none⟩)))
      (first | exact ⟨q1, q2⟩ | exact ⟨y1, y2⟩ | exact ⟨z1, z2⟩ | fail)
      (first | (go_at_call 104; (with_reducible refine (powers_long (Nat.le_trans hD1 (by decide)) _).mono ?_); rintro e w2 ⟨v4, k4, rfl, hp4, hb4, hd4, hk4⟩; have y1 := (hb4.cell (p := ⟨a, 1, none⟩) (World.block_lt_of_cell? W2 _ q1)).trans q1; have y2 := (hb4.cell (p := ⟨w.heap.size, 1, none⟩) (World.block_lt_of_cell? W2 _ q2)).trans q2; have hb4w := below_trans hbW hb4) | (go_at_call 103; (with_reducible refine (HWD.out _ _ _ hb4w hp4 hd4 hk4).mono ?_); rintro e w3 ⟨rfl, hr3, hf3⟩; have hb3 := (HB2.out.trans (hb4w.mono hbz)).trans (hf3.below (Nat.le_refl _) (Nat.le_trans hbz hb4w.size)); obtain ⟨z1, z2⟩ := HC.out w3 hb3) | fail)
    rw [List.nil_append, List.append_nil] at hr3
    have hconv : (convert 39 9 (.slice (some ⟨w1.heap.size, 0, none⟩) D D)).run Tryz.prog w3 = .ok (.string ⟨(digb D m).toArray⟩) w3 := by
      have := run_convert_bytes_back (P := Tryz.prog) w3 39 9 5 ⟨w1.heap.size, 0, none⟩ D (digb D m) Tryz.underlying39 Tryz.underlying5 Tryz.underlying9 (fun j hj => by
        rw [digb_len] at hj
        have h1 := hr3.cell (i := j) (by rw [digs_len]; exact hj)
        have h2 : (⟨w1.heap.size, 0, none⟩ : Addr).add j = ⟨w1.heap.size, j, none⟩ := by unfold Addr.add; split <;> simp_all
        rw [h2, h1]
        have h3 : j < (digs D m).length := by rw [digs_len]; exact hj
        have h4 := digs_range D m _ (List.getElem_mem h3)
        have h5 : (digb D m)[j]'(by rw [digb_len]; exact hj) = UInt8.ofNat (digs D m)[j] := by simp [digb]
        rw [h5, nth_lt h3, UInt8.toNat_ofNat', Nat.mod_eq_of_lt (by omega)])
      rw [digb_len] at this
      exact this
    have HTL := Lib.hid (fun w => Proofs.Tryz.strings_TrimLeft_one ⟨(digb D m).toArray⟩ 48 (by decide) w)
    have HF := Lib.hid hb3
    clear hr3 hb3 q1 q2 y1 y2 z1 z2 HWD HC hf3 hb4 hb4w hp4 hd4 hk4 hbW HB2 hbz
    go_wp2_with fail
    refine (HTL.out _).mono ?_
    rintro e w4 ⟨rfl, rfl⟩
    obtain ⟨dd, hdd⟩ : ∃ dd, Lib.trimLeftB (digb D m) 48 = dd := ⟨_, rfl⟩
    have hd2 : dd = Lib.decDigits m := by rw [← hdd]; exact digb_strip HN.out.2.2 HD.out
    have hdl : dd.length ≤ 8208 := by
      rw [hd2]
      exact Nat.le_trans (dd_len (by omega) HD.out) hD1
    rw [hdd]
    have HDD := Lib.hid hd2
    clear hdd hd2
    go_wp2_with fail
    go_ret
    refine ⟨?_, below_trans HB.out HF.out⟩
  · have e : itext (signed false m) = dd := by
      rw [HDD.out]; unfold itext signed
      rw [if_neg (by simp)]; rfl
    rw [e]
    exact congrArg (fun t => Ending.returned (.string t)) (ByteArray.ext (by rw [ByteArray.data_append]; simp))
  · have e : itext (signed true m) = 45 :: dd := by
      have hm0 := HN.out.2.2
      rw [HDD.out]; unfold itext signed
      rw [if_pos (by simp; omega)]; simp
    rw [e]
    exact congrArg (fun t => Ending.returned (.string t)) (ByteArray.ext (by rw [ByteArray.data_append]; simp))
end Go.Proofs.YtekghemhccfhkaaGreatDoor
namespace Go.Proofs.YtekghemhccfhkaaGreatDoor
open Go.RowKit Go.Big
theorem string_any426 {v : Value} {n : Int} {w : World} (h : IntV w v n) (hT : TabsA w) (hn : n.natAbs < B64 ^ 426) : Calls Tryz.prog 60 #[v] w (RetStr w (itext n)) := by
  rcases h with ⟨hs, rfl⟩ | ⟨a, rfl, h⟩
  · exact string_small hs w hT
  · exact string_bigL h hn
end Go.Proofs.YtekghemhccfhkaaGreatDoor
