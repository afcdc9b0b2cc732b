/-
  Walks of the program's functions: NDiv1, NDivP.
-/
import Derived.Test.YtekghemhccfhkaaGreatDoorB17
import Derived.Test.YtekghemhccfhkaaGreatDoorB42
import Derived.Test.YtekghemhccfhkaaGreatDoorB43
import Derived.Test.YtekghemhccfhkaaGreatDoorB11
import Derived.Test.YtekghemhccfhkaaGreatDoorB10
import Derived.Test.YtekghemhccfhkaaGreatDoorB18
import Derived.Deep.DeepCutAuto
import Derived.Deep.DeepFit
import Derived.Deep.CutBlock
import Derived.Test.YtekghemhccfhkaaGreatDoorB05
namespace Go.Proofs.YtekghemhccfhkaaGreatDoor
open Go.RowKit Go.Big
/-- Two absolute values come back. -/
def RetMag2 (w : World) (m n : Nat) (e : Ending) (w' : World) : Prop := ∃ v v', e = .returned (.tuple #[v, v']) ∧ NatV w' .u32 B32 v m ∧ NatV w' .u32 B32 v' n ∧ Below w.heap.size w w'
theorem mag_nil (w : World) : NatV w .u32 B32 (.slice none 0 0) 0 := ⟨none, 0, [], rfl, SlA.nil _ _ _ _, by intro x hx; simp at hx, Nz_nil, rfl⟩
set_option maxRecDepth 100000 in
set_option maxHeartbeats 4000000 in
theorem divMag_less {va vb : Value} {m n : Nat} {w : World} (ha : NatV w .u32 B32 va m) (hb : NatV w .u32 B32 vb n) (h : m < n) :
    Calls Tryz.prog 129 #[va, vb] w (RetMag2 w (m / n) (m % n)) := by
  have hc := cmpMag_any ha hb
  unfold RetCmp at hc
  rw [show cmpInt (m : Int) (n : Int) = -1 from cmpInt_lt (by omega)] at hc
  rw [Nat.div_eq_of_lt h, Nat.mod_eq_of_lt h]
  have HC := Lib.hid hc
  obtain ⟨ao, capa, la, rfl, sa, wa, na, ea⟩ := ha
  have HA := Lib.hid (And.intro wa (And.intro na ea))
  clear hc wa na ea hb
  go_enter Tryz.func129, Tryz.ntmps129
  go_wp2_with fail
  refine HC.out.mono ?_
  rintro e w1 ⟨rfl, hb1⟩
  have hb0 : Below w1.heap.size w1 (w1.alloc (.cells #[] 73)) := (Below.refl _ _).alloc (Nat.le_refl _) _
  have sa1 := (sa.below hb1).below hb0
  obtain ⟨bo, cap', w2, hrun, s2, hb2⟩ := run_append_copy (b := ⟨w1.heap.size, 0, none⟩) (ty := 28) sa1
  have HAP := Lib.hid hrun
  have HX := Lib.hid (And.intro s2 (below_trans (below_trans hb1 hb0) hb2))
  clear HC sa sa1 hrun s2 hb2 hb1 hb0
  go_wp2_with (at_builtin; refine wpList_append_run rfl (.tmp 31) (.tmp 32) 28 28 rfl _ _ rfl rfl _ _ HAP.out ?_)
  exact bodyPost_ret (v := .tuple #[.slice none 0 0, .slice bo la.length cap']) (by simp [results, Tryz.results129, go_sem]) rfl ⟨_, _, rfl, mag_nil _, ⟨bo, cap', la, rfl, HX.out.1, HA.out.1, HA.out.2.1, HA.out.2.2⟩, HX.out.2⟩
set_option maxRecDepth 100000 in
set_option maxHeartbeats 4000000 in
theorem divMag_word {va vb : Value} {m n : Nat} {w : World} (ha : NatV w .u32 B32 va m) (hb : NatV w .u32 B32 vb n) (h : n ≤ m) (hn0 : 0 < n) (hn : n < 4294967296) :
    Calls Tryz.prog 129 #[va, vb] w (RetMag2 w (m / n) (m % n)) := by
  have hc := cmpMag_any ha hb
  unfold RetCmp at hc
  have hcc : ¬ cmpInt (m : Int) (n : Int) < 0 := by unfold cmpInt; split <;> (try split) <;> omega
  obtain ⟨c, hcd⟩ : ∃ c, cmpInt (m : Int) (n : Int) = c := ⟨_, rfl⟩
  rw [hcd] at hc hcc
  have hcf : decide (c < 0) = false := decide_eq_false hcc
  have HC := Lib.hid hc
  obtain ⟨bo, capb, lb, rfl, sb, wb, nb, eb⟩ := hb
  have hlen : lb.length = 1 := by
    have h1 : lb.length ≤ 1 := len_lt (K := 1) (by decide) nb eb (by simpa using hn)
    rcases Nat.eq_zero_or_pos lb.length with h0 | h0
    · rw [List.eq_nil_of_length_eq_zero h0] at eb; simp [val] at eb; omega
    · omega
  obtain ⟨x, hx⟩ : ∃ x, lb = [x] := List.length_eq_one_iff.1 hlen
  subst hx
  have ex : x = n := by simpa [val] using eb
  subst ex
  have HS := Lib.hid sb
  have HA := Lib.hid ha
  clear hc wb nb eb ha hcd hcc hlen
  go_enter Tryz.func129, Tryz.ntmps129
  go_wp2_with fail
  refine HC.out.mono ?_
  rintro e w1 ⟨rfl, hb1⟩
  obtain ⟨g, o, rfl, hg, hcb⟩ := (HS.out.below hb1).at (i := 0) (by simp)
  have c0 : w1.cell? ⟨g, o, none⟩ = some (.int .u32 (x : Int)) := hcb 0 (by simp)
  have HSD := Lib.hid (smallDiv_any (HA.out.below hb1) hn0 hn)
  have HB := Lib.hid hb1
  clear HC hcb hb1
  go_wp2_with fail
  refine HSD.out.mono ?_
  rintro e w2 ⟨v, rfl, hv, hb2⟩
  have hb := below_trans HB.out hb2
  have hr0 : isRow (w2.alloc (.cells #[.int .u32 ((m % x : Nat) : Int)] 73)) w2.heap.size 73 .u32 [m % x] := isRow_alloc w2 73 .u32 [m % x]
  have hb0 : Below w2.heap.size w2 (w2.alloc (.cells #[.int .u32 ((m % x : Nat) : Int)] 73)) := (Below.refl _ _).alloc (Nat.le_refl _) _
  have hs := hr0.sl (cap := 1) (by simp) (by simp)
  have H := Lib.hid (ntrim_at (n := 1) hs rfl)
  have hmx := Nat.mod_lt m hn0
  have HX := Lib.hid (And.intro hv (And.intro hb (And.intro hb0 (And.intro hs (show m % x < 4294967296 by omega)))))
  clear hv hb hb0 hs hr0 HSD HB hb2 c0 sb HS hmx
  generalize m % x = r at *
  go_wp2_with fail
  refine H.out.mono ?_
  intro e w3 ht
  have hret := ntrim_ret (n := r) HX.out.2.2.2.1 (fun y hy => by have h5 := HX.out.2.2.2.2; simp at hy; subst hy; exact h5) (by simp [val]) HX.out.2.2.1 ht
  obtain ⟨v', rfl, hv', hb3⟩ := hret
  clear H ht
  go_wp2_with fail
  exact bodyPost_ret (v := .tuple #[v, v']) (by simp [results, Tryz.results129, go_sem]) rfl ⟨v, v', rfl, HX.out.1.below hb3, hv', below_trans HX.out.2.1 hb3⟩
end Go.Proofs.YtekghemhccfhkaaGreatDoor
namespace Go.Big
open Go Go.RowKit
theorem shl32_nat {x s : Nat} (hs : s ≤ 31) (h : x * 2 ^ s < 4294967296) : shl32 x s = x * 2 ^ s := by
  unfold shl32
  rw [Nat.min_eq_left (by omega), Nat.mod_eq_of_lt h]
theorem len_of_val {B : Nat} {l : List Nat} {n : Nat} (hB : 1 < B) (hz : Nz l) (hw : Wd B l) (h1 : val B l < B ^ n) (h0 : B ^ (n - 1) ≤ val B l) (hn : 0 < n) : l.length = n := by
  have h2 := len_lt (K := n) hB hz rfl h1
  rcases Nat.lt_or_ge l.length n with h3 | h3
  · have h4 := val_lt hw
    have h5 : B ^ l.length ≤ B ^ (n - 1) := Nat.pow_le_pow_right (by omega) (by omega)
    omega
  · omega
theorem topW {x2 x1 : Nat} (h2 : x2 < 4294967296) (h1 : x1 < 4294967296) :
    bits BinOp.or IntKind.u64 (IntKind.u64.wrap (IntKind.u64.wrap (x2 : Int) * 4294967296)) (IntKind.u64.wrap (x1 : Int)) = ((x2 * 4294967296 + x1 : Nat) : Int) := by
  have e1 : IntKind.u64.wrap (x2 : Int) = (x2 : Nat) := Go.Proofs.YtekghemhccfhkaaGreatDoor.wrapN (by omega) rfl
  have e2 : IntKind.u64.wrap (x1 : Int) = (x1 : Nat) := Go.Proofs.YtekghemhccfhkaaGreatDoor.wrapN (by omega) rfl
  have e3 : IntKind.u64.wrap ((x2 : Int) * 4294967296) = ((x2 * 4294967296 : Nat) : Int) := Go.Proofs.YtekghemhccfhkaaGreatDoor.wrapN (by omega) (by omega)
  rw [e1, e2, e3, bits_join .u64 64 (by decide) (fun n h0 h => by
    obtain ⟨m, rfl⟩ := Int.eq_ofNat_of_zero_le h0
    exact Go.Proofs.YtekghemhccfhkaaGreatDoor.wrapN (by omega) rfl) 32 _ _ (by omega) (by omega) (by omega) (by omega) (by omega) (by omega)]
  omega
theorem ms32 {x lo bw : Nat} (hx : x < 4294967296) (hl : lo < 4294967296) (hb : bw ≤ 1) :
    subW (subW x lo) bw % 4294967296 + lo + bw = x + andW (shrW (subW (subW x lo) bw) 32) 1 * 4294967296 ∧ andW (shrW (subW (subW x lo) bw) 32) 1 ≤ 1 := by
  rw [andW_one, shrW32]
  unfold subW
  omega
theorem last32 {x c bw : Nat} (hx : x < 4294967296) (hc : c < 4294967296) (hb : bw ≤ 1) :
    ∃ b, shrW (subW (subW x c) bw) 63 = b ∧ b ≤ 1 ∧ subW (subW x c) bw % 4294967296 + c + bw = x + b * 4294967296 := by
  refine ⟨_, rfl, ?_, ?_⟩
  · unfold shrW subW
    rw [show min 63 64 = 63 from rfl]
    omega
  · unfold shrW subW
    rw [show min 63 64 = 63 from rfl]
    omega
theorem mulc32 {h v c : Nat} (hh : h < 4294967296) (hv : v < 4294967296) (hc : c < 4294967296) : addW (mulW h v) c = h * v + c ∧ h * v + c < 18446744073709551616 := by
  have h1 : h * v ≤ 4294967295 * 4294967295 := Nat.mul_le_mul (by omega) (by omega)
  have h2 : h * v + c < 18446744073709551616 := by
    refine Nat.lt_of_le_of_lt (Nat.add_le_add h1 (Nat.le_of_lt hc)) (by decide)
  refine ⟨?_, h2⟩
  rw [mulW_lt' (by omega), addW_lt' h2]
theorem row_mid {w : World} {g j k o x : Nat} {pre cur post : List Nat} (h : isRow w g 73 .u32 (pre ++ (cur ++ post))) (hp : pre.length = j) (hk : k < cur.length) (e : o = j + k) :
    isRow (w.setCell ⟨g, o, none⟩ (.int .u32 (x : Int))) g 73 .u32 (pre ++ (cur.set k x ++ post)) := by
  have := h.storeRow (pre.length + k) x
  rw [set_mid _ _ _ _ _ hk] at this
  rw [e, ← hp]; exact this
theorem cell_mid {w : World} {g j k o : Nat} {pre cur post : List Nat} (h : isRow w g 73 .u32 (pre ++ (cur ++ post))) (hp : pre.length = j) (hk : k < cur.length) (e : o = j + k) :
    w.cell? ⟨g, o, none⟩ = some (.int .u32 (nth cur k : Nat)) := by
  rw [e, ← hp, h.cell (by simp; omega), nth_mid _ _ _ _ hk]
/-- The divisor, shifted: its length, and its first word. -/
theorem shifted {lb lv : List Nat} {s x i : Nat} (hlb : lb.length = i + 1) (wb : Wd B32 lb) (hx : nth lb i = x) (hx1 : x * 2 ^ s < 4294967296) (hx2 : 2147483648 ≤ x * 2 ^ s) (hz : Nz lv) (hw : Wd B32 lv) (hv : val B32 lv = 2 ^ s * val B32 lb) :
    lv.length = i + 1 ∧ 4294967296 ≤ 2 * nth lv i := by
  have e := take_val_nth B32 lb i (by omega)
  rw [List.take_of_length_le (by omega), hx] at e
  have h1 := val_lt (wb.take i)
  rw [List.length_take, Nat.min_eq_left (by omega)] at h1
  have hp : 0 < B32 ^ i := Nat.pow_pos (by decide)
  have h2 : 2 ^ s * val B32 lb = 2 ^ s * val B32 (lb.take i) + B32 ^ i * (x * 2 ^ s) := by rw [e]; grind
  have h3 : 2 ^ s * val B32 (lb.take i) < 2 ^ s * B32 ^ i := Nat.mul_lt_mul_of_pos_left h1 (Nat.pow_pos (by decide))
  have h4 : B32 ^ i * 2147483648 ≤ B32 ^ i * (x * 2 ^ s) := Nat.mul_le_mul_left _ hx2
  have h5 : (x + 1) * 2 ^ s ≤ 4294967296 := by
    -- both sides are multiples of 2 ^ s
    have hs : s < 32 := by
      rcases Nat.lt_or_ge s 32 with h | h
      · exact h
      · have : 2 ^ 32 ≤ 2 ^ s := Nat.pow_le_pow_right (by decide) h
        have hx0 : 0 < x := by
          rcases Nat.eq_zero_or_pos x with h0 | h0
          · subst h0; simp at hx2
          · exact h0
        have : 1 * 2 ^ s ≤ x * 2 ^ s := Nat.mul_le_mul_right _ hx0
        omega
    have e5 : 4294967296 = 2 ^ (32 - s) * 2 ^ s := by rw [← Nat.pow_add, Nat.sub_add_cancel (Nat.le_of_lt hs)]
    rw [e5] at hx1 ⊢
    exact Nat.mul_le_mul_right _ (Nat.lt_of_mul_lt_mul_right hx1)
  have h6 : B32 ^ i * ((x + 1) * 2 ^ s) ≤ B32 ^ i * 4294967296 := Nat.mul_le_mul_left _ h5
  have e6 : B32 ^ i * ((x + 1) * 2 ^ s) = B32 ^ i * (x * 2 ^ s) + 2 ^ s * B32 ^ i := by grind
  have hlt : val B32 lv < B32 ^ (i + 1) := by rw [hv, Nat.pow_succ]; show _ < B32 ^ i * 4294967296; omega
  have hge : B32 ^ i * 2147483648 ≤ val B32 lv := by rw [hv, h2]; omega
  have hlen : lv.length = i + 1 := len_of_val (by decide) hz hw hlt (by rw [Nat.add_sub_cancel]; omega) (by omega)
  refine ⟨hlen, ?_⟩
  have e7 := take_val_nth B32 lv i (by omega)
  rw [List.take_of_length_le (by omega)] at e7
  have h7 := val_lt (hw.take i)
  rw [List.length_take, Nat.min_eq_left (by omega)] at h7
  rcases Nat.lt_or_ge (nth lv i) 2147483648 with h8 | h8
  · have : B32 ^ i * (nth lv i + 1) ≤ B32 ^ i * 2147483648 := Nat.mul_le_mul_left _ h8
    rw [Nat.mul_add, Nat.mul_one] at this
    omega
  · omega
end Go.Big
