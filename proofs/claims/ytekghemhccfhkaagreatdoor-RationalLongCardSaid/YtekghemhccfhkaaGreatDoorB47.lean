/-
  Walks of the program's functions: IxAny.
-/
import Derived.Test.YtekghemhccfhkaaGreatDoorB46
import Derived.Deep.WholeRow
namespace Go.Big
open Go Go.RowKit
def ixs : List UInt8 := [47, 46]
theorem noAny_high {s : ByteArray} {i k : Nat} (h : Lib.NoAny s.data.toList ixs i) (hk : i + k ≤ s.size) (hb : ∀ j, j < k → 128 ≤ (s.get! (i + j)).toNat) : Lib.NoAny s.data.toList ixs (i + k) := by
  intro j b hj hjb
  rcases Nat.lt_or_ge j i with h1 | h1
  · exact h j b h1 hjb
  · have h2 := hb (j - i) (by omega)
    have e : i + (j - i) = j := by omega
    rw [e] at h2
    have hlt : j < s.size := by omega
    have h3 : s.get! j = b := by
      have h4 := Lib.data_getElem? s j hlt
      rw [hjb] at h4
      have h5 := get_at s j hlt
      rw [Nat.add_zero] at h5
      rw [h5]; exact (Option.some.inj h4).symm
    rw [h3] at h2
    have : b ≠ 47 ∧ b ≠ 46 := ⟨fun e => by rw [e] at h2; exact absurd h2 (by decide), fun e => by rw [e] at h2; exact absurd h2 (by decide)⟩
    simp [ixs, this.1, this.2]
end Go.Big
namespace Go.Proofs.YtekghemhccfhkaaGreatDoor
open Go.RowKit Go.Big
def IxPost (s : ByteArray) (w : World) (e : Ending) (w' : World) : Prop := e = .returned (.int .i64 (Lib.indexAny s.data.toList ixs)) ∧ Below w.heap.size w w'
set_option maxRecDepth 100000 in
set_option maxHeartbeats 2000000 in
theorem indexAny_small (s : ByteArray) (h8 : s.size ≤ 8) (w : World) : Calls Tryz.prog 109 #[.string s, .string ⟨#[47, 46]⟩] w (IxPost s w) := by
  have hn1 : (((⟨#[47, 46]⟩ : ByteArray).size : Int) == 1) = false := by decide
  have h8z : ((8 : Int) < (s.size : Int)) = False := by simp; omega
  have HSA := Lib.hid (fun n w => Proofs.Tryz.strings_shouldUseASCIISet n w)
  have hz : (w.alloc (.stringIter s 0)).heap[w.heap.size]? = some (.stringIter s 0) := heap_alloc_new w _
  have HZ := Lib.hid hz
  have HB := Lib.hid (((Below.refl w.heap.size w).alloc (Nat.le_refl _) (.stringIter s 0)) : Below w.heap.size w (w.alloc (.stringIter s 0)))
  clear hz
  go_enter Tryz.func109, Tryz.ntmps109
  go_wp2_with fail
  refine (HSA.out _ _).mono ?_
  rintro e w1 ⟨rfl, rfl⟩
  go_wp2_with fail
  go_loopg [] s.size (fun g wx => ∃ i : Nat, i + g = s.size ∧ wx.heap[w1.heap.size]? = some (.stringIter s i) ∧ Below w1.heap.size w1 wx ∧ Lib.NoAny s.data.toList ixs i)
  case atStart => exact ⟨0, by omega, HZ.out, HB.out, Lib.NoAny.zero _ _⟩
  case round =>
    obtain ⟨i, hig, hit, hb, hno⟩ := hrel
    have HN := Lib.hid hno
    have HB := Lib.hid hb
    clear hno hb
    rcases Nat.lt_or_ge i s.size with hi | hi
    · obtain ⟨x, hx⟩ : ∃ x : UInt8, s[i]'hi = x := ⟨_, rfl⟩
      have hxl : s.data.toList[i]? = some x := by rw [← hx]; exact Lib.data_getElem? s i hi
      have HX := Lib.hid hxl
      have hlt : w1.heap.size < wr.heap.size := (Array.getElem?_eq_some_iff.1 hit).1
      rcases Nat.lt_or_ge x.toNat 128 with hx128 | hx128
      · have hnx := fun ty => Lib.run_next_ascii_at (P := Tryz.prog) wr w1.heap.size s i ty hit hi (by rw [hx]; exact hx128)
        rw [hx] at hnx
        have hit2 := Lib.iterAt_heap wr w1.heap.size s i (i + 1) hit
        have hb2 := Lib.below_iterAt HB.out (Nat.le_refl _) s (i + 1)
        generalize wr.iterAt w1.heap.size s (i + 1) = w2 at *
        have HI2 := Lib.hid (And.intro hit2 hb2)
        have HC := Lib.hid (fun w => Proofs.Tryz.strings_IndexRune_ascii ⟨#[47, 46]⟩ (x.toNat : Int) w (by omega) (by omega))
        clear hxl hit2 hb2
        have hcon := Lib.contains_iff_indexByte ixs x
        have hback : ((x.toNat : Int)).toNat.toUInt8 = x := by simp
        obtain ⟨o, ho⟩ : ∃ o, Lib.indexByte ixs x = o := ⟨_, rfl⟩
        have HO := Lib.hid ho
        rw [ho] at hcon
        clear ho
        cases hin : ixs.contains x
        · rw [hin] at hcon
          have hlt0 : ¬ ((0 : Int) ≤ o) := of_decide_eq_false hcon.symm
          have HIN := Lib.hid hin
          clear hcon hin
          go_wp2_with fail
          refine (HC.out _).mono ?_
          rintro e w3 ⟨rfl, rfl⟩
          rw [hback]
          rw [show Lib.indexByte (⟨#[47, 46]⟩ : ByteArray).data.toList x = o from HO.out]
          go_wp2_with fail
          go_roundg (gk - 1)
          case measure => omega
          case rel => exact ⟨i + 1, by omega, HI2.out.1, HI2.out.2, HN.out.succ HX.out HIN.out⟩
        · rw [hin] at hcon
          have hge0 : (0 : Int) ≤ o := of_decide_eq_true hcon.symm
          have HIN := Lib.hid hin
          clear hcon hin
          go_wp2_with fail
          refine (HC.out _).mono ?_
          rintro e w3 ⟨rfl, rfl⟩
          rw [hback]
          rw [show Lib.indexByte (⟨#[47, 46]⟩ : ByteArray).data.toList x = o from HO.out]
          go_wp2_with fail
          go_ret
          exact ⟨by rw [Lib.indexAny_hit HN.out HX.out HIN.out]; rfl, HI2.out.2⟩
      · have hg : s.get! i = x := by
          have h5 := get_at s i hi
          rw [Nat.add_zero] at h5
          rw [h5]; exact hx
        obtain ⟨r, k, hd, hr1, hr2, hk1, hk2, hk3⟩ := dec_high s i hi (by rw [hg]; exact hx128)
        have hnx := fun ty => Lib.run_next_any_at (P := Tryz.prog) wr w1.heap.size s i ty hit hi
        rw [hd] at hnx
        have hit2 := Lib.iterAt_heap wr w1.heap.size s i (i + k) hit
        have hb2 := Lib.below_iterAt HB.out (Nat.le_refl _) s (i + k)
        have hz2 := Lib.iterAt_size wr w1.heap.size s (i + k)
        generalize wr.iterAt w1.heap.size s (i + k) = w2 at *
        have HI2 := Lib.hid (And.intro hit2 (And.intro hb2 (show w1.heap.size < w2.heap.size by rw [hz2]; exact hlt)))
        have HC := Lib.hid (fun w => indexRune_high (r := (r : Int)) (by omega) hr2 w)
        have HNN := Lib.hid (noAny_high HN.out hk2 hk3)
        have HK := Lib.hid (And.intro hk1 hk2)
        clear hxl hit2 hb2 hd hr1 hr2 hk1 hk2 hk3 hz2
        go_wp2_with fail
        refine (HC.out _).mono ?_
        rintro e w3 ⟨rfl, hb3⟩
        have hit3 : w3.heap[w1.heap.size]? = some (.stringIter s (i + k)) := (hb3.block _ HI2.out.2.2).trans HI2.out.1
        have HI3 := Lib.hid (And.intro hit3 (HI2.out.2.1.trans (hb3.mono (Nat.le_of_lt HI2.out.2.2))))
        clear hit3 hb3
        go_wp2_with fail
        go_roundg (gk - k)
        case measure => have := HK.out; omega
        case rel => exact ⟨i + k, by have := HK.out; omega, HI3.out.1, HI3.out.2, HNN.out⟩
    · obtain rfl : i = s.size := by omega
      have hnx := Lib.run_next_end_at (P := Tryz.prog) wr w1.heap.size s s.size
      have hnx2 := fun ty => hnx ty hit (Nat.not_lt.2 hi)
      clear hnx
      go_wp2_with fail
      go_ret
      exact ⟨by rw [Lib.indexAny_none (by rw [← Lib.size_eq]; exact HN.out)]; rfl, HB.out⟩
theorem indexAny_any (s : ByteArray) (hs : s.size ≤ 100000) (w : World) : Calls Tryz.prog 109 #[.string s, .string ⟨#[47, 46]⟩] w (IxPost s w) := by
  by_cases h8 : s.size ≤ 8
  · exact indexAny_small s h8 w
  · have h116 : (Tryz.prog.info? 144).map (fun i => (i.zero, i.size)) = some (some (.agg (Array.replicate 256 (.bool false))), 256) := by kernel_rfl
    refine (Proofs.Tryz.strings_IndexAny_long (zero_of_info h116).1 s ⟨#[47, 46]⟩ w (by decide) (by omega) (by omega) (by decide) ?_).mono ?_
    · intro j b hj
      match j, hj with
      | 0, hj => simp at hj; subst hj; decide
      | 1, hj => simp at hj; subst hj; decide
    · rintro e w' ⟨rfl, rfl⟩
      exact ⟨rfl, ((Below.refl _ _).alloc (Nat.le_refl _) _).alloc (by simp) _⟩
end Go.Proofs.YtekghemhccfhkaaGreatDoor
