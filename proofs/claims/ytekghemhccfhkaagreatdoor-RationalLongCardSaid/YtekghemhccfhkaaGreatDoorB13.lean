/-
  Walks of the program's functions: AddProd, Scale, SubProd, TimesW, Times, TimesF.
-/
import Derived.Test.YtekghemhccfhkaaGreatDoorB04
import Derived.Test.YtekghemhccfhkaaGreatDoorB09
import Derived.Test.YtekghemhccfhkaaGreatDoorShelf
namespace Go.Proofs.YtekghemhccfhkaaGreatDoor
open Go.RowKit Go.Big
theorem mul_at (x y : Nat) (hx : x < 18446744073709551616) (hy : y < 18446744073709551616) (w : World) :
    Calls Tryz.prog 152 #[.int .u64 x, .int .u64 y] w fun e w' => e = .returned (.tuple #[.int .u64 (mulHi x y), .int .u64 (mulLo x y)]) ∧ w' = w :=
  Proofs.Tryz.bits_Mul64 x y hx hy w
theorem run_addc (x y : Nat) (w : World) :
    (callFunc 222 #[.int .u64 x, .int .u64 y, .int .u64 0]).run Tryz.prog w =
      .ok (.value (.tuple #[.int .u64 (addLo x y 0), .int .u64 (addHi x y 0)])) w := run_add x y 0 (by decide) w
theorem run_subc (x y : Nat) (w : World) :
    (callFunc 223 #[.int .u64 x, .int .u64 y, .int .u64 0]).run Tryz.prog w =
      .ok (.value (.tuple #[.int .u64 (subLo x y 0), .int .u64 (subHi x y 0)])) w := run_sub x y 0 (by decide) w

def MacPost (w : World) (g : Nat) (pre s0 post a : List Nat) (x : Nat) (e : Ending) (w' : World) : Prop :=
  ∃ (cur : List Nat) (c : Nat), e = .returned (.int .u64 c) ∧ w' = wput w g .u64 (pre ++ (cur ++ post)) ∧ MacInv s0 a x a.length cur c

set_option maxRecDepth 100000 in
set_option maxHeartbeats 1000000 in
theorem addProduct_at {g caps capa n off na : Nat} {ao : Option Addr} {pre s0 post a : List Nat} {x : Nat} {w : World}
    (hg : isRow w g 71 .u64 (pre ++ (s0 ++ post))) (hs : Wd B64 s0) (ha : Wd B64 a) (sa : SlA w .u64 ao capa a) (hne : a ≠ [] → ∀ p, ao = some p → p.block ≠ g) (hx : x < 18446744073709551616)
    (hl : s0.length = a.length) (hn : s0.length = n) (hcap : n ≤ caps) (ho : pre.length = off) (hna : a.length = na) :
    Calls Tryz.prog 212 #[.slice (some ⟨g, off, none⟩) n caps, .slice ao na capa, .int .u64 x] w (MacPost w g pre s0 post a x) := by
  subst hn ho hna
  have hm := sa.len_le
  have hsl : ∀ w, (Instr.slice 107 (.slice (some ⟨g, pre.length, none⟩) s0.length caps) none (some (.int .i64 (a.length : Int))) none).run Tryz.prog w = .ok (.slice (some ⟨g, pre.length, none⟩) a.length caps) w :=
    fun w => run_slice_to 107 71 Tryz.underlying107 (by kernel_rfl) _ _ _ _ (by omega) w
  go_enter Tryz.func212, Tryz.ntmps212
  go_wp2_with fail
  go_loopw [7, 19] (fun c i wr => ∃ (k cn : Nat) (cur : List Nat), k ≤ a.length ∧ i = .int .i64 k ∧ c = .int .u64 cn ∧ MacInv s0 a x k cur cn ∧ wr = wput w g .u64 (pre ++ (cur ++ post)))
    (fun _ i _ => a.length - (intOf i).toNat)
  case atStart => exact ⟨0, 0, s0, Nat.zero_le _, rfl, rfl, MacInv.start a x hs, (put_self hg).symm⟩
  case round =>
    clear hsl
    obtain ⟨k, cn, cur, hk, rfl, rfl, hinv, rfl⟩ := hrel
    have HL : Hid (cur.length = a.length) := hinv.len.trans hl
    have HLL := Lib.hid hl
    by_cases hlt : k < a.length
    · obtain ⟨gb, offb, rfl, _, hbc⟩ := sa.at hlt
      have hgb : gb ≠ g := hne (by intro e; simp [e] at hlt) _ rfl
      have hcb : (wput w g .u64 (pre ++ (cur ++ post))).cell? ⟨gb, offb + k, none⟩ = some (.int .u64 (nth a k)) := by rw [put_other _ _ _ hgb]; exact hbc k hlt
      have hca : (wput w g .u64 (pre ++ (cur ++ post))).cell? ⟨g, pre.length + k, none⟩ = some (.int .u64 (nth cur k)) := by
        rw [(hg.put _).cell (by have := HL.out; simp; omega), nth_mid _ _ _ _ (by have := HL.out; omega)]
      have hfr : (wput w g .u64 (pre ++ (cur ++ post))).frozen? ⟨g, pre.length + k, none⟩ = false := (hg.put _).frozen _
      have hst : ∀ y : Nat, (wput w g .u64 (pre ++ (cur ++ post))).setCell ⟨g, pre.length + k, none⟩ (.int .u64 (y : Int)) = wput w g .u64 (pre ++ (cur.set k y ++ post)) := fun y => by
        rw [put_store hg, set_mid _ _ _ _ _ (by have := HL.out; omega)]
      have HST := Lib.hid hst
      clear hst
      generalize wput w g .u64 (pre ++ (cur ++ post)) = W at *
      have hmul := mul_at (nth a k) x (ha.nth hlt) hx W
      have h1 := run_addc (mulLo (nth a k) x) cn W
      have h2 := run_add0 (mulHi (nth a k) x) (addHi (mulLo (nth a k) x) cn 0) (addHi_le (mulLo_lt _ _) hinv.carry (by decide)) W
      have h3 := run_addc (nth cur k) (addLo (mulLo (nth a k) x) cn 0) W
      have hcur : nth cur k < 18446744073709551616 := hinv.wd.nth (by have := HL.out; omega)
      have h4 := run_add0 (mcHi (nth a k) x cn) (addHi (nth cur k) (mcLo (nth a k) x cn) 0) (addHi_le hcur (mcLo_lt _ _ _) (by decide)) (W.setCell ⟨g, pre.length + k, none⟩ (.int .u64 (addLo (nth cur k) (mcLo (nth a k) x cn) 0 : Nat)))
      unfold mcHi mcLo at h4
      have HM := Lib.hid hmul
      clear hmul hcur hbc hgb hne sa hl
      go_wp2_with (go_at_call 152; refine HM.out.mono ?_; rintro e w1 ⟨rfl, rfl⟩)
      go_roundw
      case rel => exact ⟨k + 1, _, cur.set k (addLo (nth cur k) (mcLo (nth a k) x cn) 0), by omega, by go_num, rfl, hinv.step (by have := HLL.out; omega) hlt ha hx, HST.out _⟩
      case measure => simp [intOf]; omega
    · have hkb : k = a.length := by omega
      subst hkb
      go_wp2_with fail
      go_ret
      exact ⟨cur, cn, rfl, rfl, hinv⟩
end Go.Proofs.YtekghemhccfhkaaGreatDoor
namespace Go.Proofs.YtekghemhccfhkaaGreatDoor
open Go.RowKit Go.Big
def ScPost (w : World) (g : Nat) (pre a post : List Nat) (x : Nat) (e : Ending) (w' : World) : Prop :=
  ∃ (cur : List Nat) (c : Nat), e = .returned (.int .u64 c) ∧ w' = wput w g .u64 (pre ++ (cur ++ post)) ∧ ScInv a x a.length cur c

set_option maxRecDepth 100000 in
set_option maxHeartbeats 1000000 in
theorem scale_at {g cap n off : Nat} {pre a post : List Nat} {x : Nat} {w : World}
    (hg : isRow w g 71 .u64 (pre ++ (a ++ post))) (ha : Wd B64 a) (hx : x < 18446744073709551616) (hm : a.length ≤ 1099511627776)
    (hn : a.length = n) (ho : pre.length = off) :
    Calls Tryz.prog 215 #[.slice (some ⟨g, off, none⟩) n cap, .int .u64 x] w (ScPost w g pre a post x) := by
  subst hn ho
  go_enter Tryz.func215, Tryz.ntmps215
  go_wp2_with fail
  go_loopw [5, 13] (fun c i wr => ∃ (k cn : Nat) (cur : List Nat), k ≤ a.length ∧ i = .int .i64 k ∧ c = .int .u64 cn ∧ ScInv a x k cur cn ∧ wr = wput w g .u64 (pre ++ (cur ++ post)))
    (fun _ i _ => a.length - (intOf i).toNat)
  case atStart => exact ⟨0, 0, a, Nat.zero_le _, rfl, rfl, ScInv.start x ha, (put_self hg).symm⟩
  case round =>
    obtain ⟨k, cn, cur, hk, rfl, rfl, hinv, rfl⟩ := hrel
    have HL : Hid (cur.length = a.length) := hinv.len
    by_cases hlt : k < a.length
    · have hca : (wput w g .u64 (pre ++ (cur ++ post))).cell? ⟨g, pre.length + k, none⟩ = some (.int .u64 (nth cur k)) := by
        rw [(hg.put _).cell (by have := HL.out; simp; omega), nth_mid _ _ _ _ (by have := HL.out; omega)]
      have hfr : (wput w g .u64 (pre ++ (cur ++ post))).frozen? ⟨g, pre.length + k, none⟩ = false := (hg.put _).frozen _
      have hst : ∀ y : Nat, (wput w g .u64 (pre ++ (cur ++ post))).setCell ⟨g, pre.length + k, none⟩ (.int .u64 (y : Int)) = wput w g .u64 (pre ++ (cur.set k y ++ post)) := fun y => by
        rw [put_store hg, set_mid _ _ _ _ _ (by have := HL.out; omega)]
      have HST := Lib.hid hst
      clear hst
      generalize wput w g .u64 (pre ++ (cur ++ post)) = W at *
      have hcur : nth cur k < 18446744073709551616 := hinv.wd.nth (by have := HL.out; omega)
      have hmul := mul_at (nth cur k) x hcur hx W
      have h1 := run_addc (mulLo (nth cur k) x) cn W
      have h2 := run_add0 (mulHi (nth cur k) x) (addHi (mulLo (nth cur k) x) cn 0) (addHi_le (mulLo_lt _ _) hinv.carry (by decide)) (W.setCell ⟨g, pre.length + k, none⟩ (.int .u64 (addLo (mulLo (nth cur k) x) cn 0 : Nat)))
      have HM := Lib.hid hmul
      clear hmul hcur
      go_wp2_with (go_at_call 152; refine HM.out.mono ?_; rintro e w1 ⟨rfl, rfl⟩)
      go_roundw
      case rel => exact ⟨k + 1, _, cur.set k (mcLo (nth cur k) x cn), by omega, by go_num, rfl, hinv.step hlt ha hx, HST.out _⟩
      case measure => simp [intOf]; omega
    · have hkb : k = a.length := by omega
      subst hkb
      go_wp2_with fail
      go_ret
      exact ⟨cur, cn, rfl, rfl, hinv⟩
end Go.Proofs.YtekghemhccfhkaaGreatDoor
namespace Go.Proofs.YtekghemhccfhkaaGreatDoor
open Go.RowKit Go.Big
/-- subtractProduct: what is left in the window, and what is missing. -/
def MsPost (w : World) (g : Nat) (pre s0 post b : List Nat) (x : Nat) (e : Ending) (w' : World) : Prop :=
  ∃ (cur : List Nat) (c : Nat), e = .returned (.int .u64 c) ∧ w' = wput w g .u64 (pre ++ (cur ++ post)) ∧ cur.length = s0.length ∧ Wd B64 cur ∧ c ≤ 1 ∧ val B64 cur + x * val B64 b = val B64 s0 + c * B64 ^ s0.length

set_option maxRecDepth 100000 in
set_option maxHeartbeats 1000000 in
theorem subtractProduct_at {g caps capb n off nb : Nat} {bo : Option Addr} {pre s0 post b : List Nat} {x : Nat} {w : World}
    (hg : isRow w g 71 .u64 (pre ++ (s0 ++ post))) (hs : Wd B64 s0) (hb : Wd B64 b) (sb : SlA w .u64 bo capb b) (hne : b ≠ [] → ∀ p, bo = some p → p.block ≠ g) (hx : x < 18446744073709551616)
    (hl : s0.length = b.length + 1) (hn : s0.length = n) (ho : pre.length = off) (hnb : b.length = nb) :
    Calls Tryz.prog 226 #[.slice (some ⟨g, off, none⟩) n caps, .slice bo nb capb, .int .u64 x] w (MsPost w g pre s0 post b x) := by
  subst ho hnb
  rw [hl] at hn
  subst hn
  have hm := sb.len_le
  go_enter Tryz.func226, Tryz.ntmps226
  go_wp2_with fail
  go_loopw [7, 15] (fun c i wr => ∃ (k cn : Nat) (cur : List Nat), k ≤ b.length ∧ i = .int .i64 k ∧ c = .int .u64 cn ∧ MsInv s0 b x k cur cn ∧ wr = wput w g .u64 (pre ++ (cur ++ post)))
    (fun _ i _ => b.length - (intOf i).toNat)
  case atStart => exact ⟨0, 0, s0, Nat.zero_le _, rfl, rfl, MsInv.start b x hs, (put_self hg).symm⟩
  case round =>
    obtain ⟨k, cn, cur, hk, rfl, rfl, hinv, rfl⟩ := hrel
    have HL : Hid (cur.length = b.length + 1) := hinv.len.trans hl
    have HLL := Lib.hid hl
    have hca : (wput w g .u64 (pre ++ (cur ++ post))).cell? ⟨g, pre.length + k, none⟩ = some (.int .u64 (nth cur k)) := by
      rw [(hg.put _).cell (by have := HL.out; simp; omega), nth_mid _ _ _ _ (by have := HL.out; omega)]
    have hfr : (wput w g .u64 (pre ++ (cur ++ post))).frozen? ⟨g, pre.length + k, none⟩ = false := (hg.put _).frozen _
    have hst : ∀ y : Nat, (wput w g .u64 (pre ++ (cur ++ post))).setCell ⟨g, pre.length + k, none⟩ (.int .u64 (y : Int)) = wput w g .u64 (pre ++ (cur.set k y ++ post)) := fun y => by
      rw [put_store hg, set_mid _ _ _ _ _ (by have := HL.out; omega)]
    have HST := Lib.hid hst
    clear hst
    by_cases hlt : k < b.length
    · obtain ⟨gb, offb, rfl, _, hbc⟩ := sb.at hlt
      have hgb : gb ≠ g := hne (by intro e; simp [e] at hlt) _ rfl
      have hcb : (wput w g .u64 (pre ++ (cur ++ post))).cell? ⟨gb, offb + k, none⟩ = some (.int .u64 (nth b k)) := by rw [put_other _ _ _ hgb]; exact hbc k hlt
      generalize wput w g .u64 (pre ++ (cur ++ post)) = W at *
      have hmul := mul_at (nth b k) x (hb.nth hlt) hx W
      have h1 := run_addc (mulLo (nth b k) x) cn W
      have h2 := run_add0 (mulHi (nth b k) x) (addHi (mulLo (nth b k) x) cn 0) (addHi_le (mulLo_lt _ _) hinv.carry (by decide)) W
      have h3 := run_subc (nth cur k) (addLo (mulLo (nth b k) x) cn 0) W
      have h4 := run_add0 (mcHi (nth b k) x cn) (subHi (nth cur k) (mcLo (nth b k) x cn) 0) (subHi_le _ _ _) (W.setCell ⟨g, pre.length + k, none⟩ (.int .u64 (subLo (nth cur k) (mcLo (nth b k) x cn) 0 : Nat)))
      unfold mcHi mcLo at h4
      have HM := Lib.hid hmul
      clear hmul hbc hgb hne sb hl
      go_wp2_with (go_at_call 152; refine HM.out.mono ?_; rintro e w1 ⟨rfl, rfl⟩)
      go_roundw
      case rel => exact ⟨k + 1, _, cur.set k (subLo (nth cur k) (mcLo (nth b k) x cn) 0), by omega, by go_num, rfl, hinv.step (by have := HLL.out; omega) hlt hb hx, HST.out _⟩
      case measure => simp [intOf]; omega
    · have hkb : k = b.length := by omega
      subst hkb
      have hres := hinv.done hl
      have HR := Lib.hid hres
      have h3 := run_subc (nth cur b.length) cn (wput w g .u64 (pre ++ (cur ++ post)))
      generalize wput w g .u64 (pre ++ (cur ++ post)) = W at *
      clear hres hl sb
      go_wp2_with fail
      go_ret
      exact ⟨cur.set b.length (subLo (nth cur b.length) cn 0), _, rfl, HST.out _, by rw [List.length_set, hinv.len], hinv.wd.set (subLo_lt _ _ _), subHi_le _ _ _, HR.out⟩
end Go.Proofs.YtekghemhccfhkaaGreatDoor
namespace Go.Big
open Go Go.RowKit
variable {P : Program}
theorem run_slice_mid (t e : TypeId) (ht : P.underlying t = some (.slice e)) (hs : (P.info? e).map (·.size) = some 1) (g off n cap k h : Nat) (x : Int) (hx : x = h) (h1 : k ≤ h) (h2 : h ≤ cap) (h3 : k < cap) (w : World) :
    (Instr.slice t (.slice (some ⟨g, off, none⟩) n cap) (some (.int .i64 (k : Int))) (some (.int .i64 x)) none).run P w = .ok (.slice (some ⟨g, off + k, none⟩) (h - k) (cap - k)) w := by
  subst hx
  have h4 : ¬ cap < h := by omega
  have h5 : ¬ h < k := by omega
  have h6 : cap ≠ k := by omega
  cases hq : P.info? e with
  | none => rw [hq] at hs; cases hs
  | some i =>
    rw [hq] at hs
    have hs1 : i.size = 1 := by simpa using hs
    have ha : (⟨g, off, none⟩ : Addr).add k = ⟨g, off + k, none⟩ := by unfold Addr.add; split <;> simp_all
    simp [Instr.slice, run_underlying ht, Instr.sliceBounds, Instr.sliceBound, asIntOf, sizeOf, typeInfo, hq, hs1, h1, h2, h6, ha]
theorem val_set0 {B : Nat} {l : List Nat} {c : Nat} (hl : 0 < l.length) (h0 : nth l 0 = 0) : val B (l.set 0 c) = c + val B l := by
  match l, hl with
  | x :: l, _ =>
    have : x = 0 := by simpa [nth] using h0
    subst this
    simp [val]
structure TwInv (la lb : List Nat) (k : Nat) (cur : List Nat) : Prop where
  len : cur.length = la.length + lb.length
  wd : Wd B64 cur
  rest : ∀ j, k + la.length ≤ j → nth cur j = 0
  eq : val B64 cur = val B64 la * val B64 (lb.take k)
theorem TwInv.start (la lb : List Nat) : TwInv la lb 0 (zeros (la.length + lb.length)) :=
  ⟨zeros_len _, zeros_wd (by decide) _, fun _ _ => zeros_nth _ _, by simp [zeros_val, val]⟩
theorem parts3 (l : List Nat) (k n : Nat) : l = l.take k ++ ((l.drop k).take n ++ l.drop (k + n)) := by
  rw [← List.drop_drop, List.take_append_drop, List.take_append_drop]
theorem TwInv.step {la lb cur seg : List Nat} {k c : Nat} (h : TwInv la lb k cur) (hk : k < lb.length)
    (hm : MacInv ((cur.drop k).take la.length) la (nth lb k) la.length seg c) :
    TwInv la lb (k + 1) ((cur.take k ++ (seg ++ cur.drop (k + la.length))).set (k + la.length) c) := by
  have hl := h.len
  have hsl : ((cur.drop k).take la.length).length = la.length := by simp; omega
  have hseg : seg.length = la.length := by rw [hm.len, hsl]
  have hpre : (cur.take k).length = k := by simp; omega
  have hpl : 0 < (cur.drop (k + la.length)).length := by simp; omega
  have hp0 : ∀ j, nth (cur.drop (k + la.length)) j = 0 := fun j => by rw [nth_drop']; exact h.rest _ (by omega)
  have e : (cur.take k ++ (seg ++ cur.drop (k + la.length))).set (k + la.length) c = cur.take k ++ (seg ++ (cur.drop (k + la.length)).set 0 c) := by
    rw [List.set_append_right _ _ (by omega), hpre, List.set_append_right _ _ (by omega), hseg]
    congr 3; omega
  rw [e]
  refine ⟨?_, ?_, ?_, ?_⟩
  · simp only [List.length_append, List.length_set, hpre, hseg, List.length_drop]; omega
  · exact (h.wd.take k).append (hm.wd.append ((h.wd.drop _).set hm.carry))
  · intro j hj
    unfold nth
    rw [List.getD_eq_getElem?_getD, List.getElem?_append_right (by omega), List.getElem?_append_right (by omega), List.getElem?_set_ne (by omega)]
    exact hp0 _
  · rw [val_append, val_append, val_set0 hpl (hp0 0), val_of_zero hp0, hpre, hseg, Nat.add_zero, take_val_nth _ _ _ hk]
    have e1 := hm.done hsl
    have e2 := h.eq
    have e3 := congrArg (val B64) (parts3 cur k la.length)
    rw [val_append, val_append, val_of_zero hp0, hpre, hsl, Nat.mul_zero, Nat.add_zero] at e3
    have e4 : val B64 seg + B64 ^ la.length * c = val B64 seg + c * B64 ^ la.length := by rw [Nat.mul_comm c]
    rw [e4, e1, Nat.mul_add, ← Nat.add_assoc, ← e3, e2, Nat.mul_add]
    grind
end Go.Big
namespace Go.Proofs.YtekghemhccfhkaaGreatDoor
open Go.RowKit Go.Big
set_option maxRecDepth 100000 in
set_option maxHeartbeats 1000000 in
theorem timesByWords_core (ao bo : Option Addr) (capa capb : Nat) (la lb : List Nat) (w : World) (sa : SlA w .u64 ao capa la) (sb : SlA w .u64 bo capb lb)
    (wa : Wd B64 la) (wb : Wd B64 lb) (hK : la.length + lb.length ≤ 1099511627776) :
    Calls Tryz.prog 179 #[.slice ao la.length capa, .slice bo lb.length capb] w (RetNat w (val B64 la * val B64 lb)) := by
  have hmk := mk64 (la.length + lb.length) (la.length + lb.length) (by omega) hK w
  have hr0 : isRow (w.alloc (.cells (cellsOf .u64 (zeros (la.length + lb.length))) 71)) w.heap.size 71 .u64 (zeros (la.length + lb.length)) := isRow_alloc _ _ _ _
  have hb0 : Below w.heap.size w (w.alloc (.cells (cellsOf .u64 (zeros (la.length + lb.length))) 71)) := (Below.refl _ _).alloc (Nat.le_refl _) _
  generalize hW : w.alloc (.cells (cellsOf .u64 (zeros (la.length + lb.length))) 71) = W at *
  have HR := Lib.hid hr0
  clear hW hr0
  go_enter Tryz.func179, Tryz.ntmps179
  go_wp2_with fail
  go_loopw [16] (fun i wr => ∃ (k : Nat) (cur : List Nat), k ≤ lb.length ∧ i = .int .i64 k ∧ TwInv la lb k cur ∧ isRow wr w.heap.size 71 .u64 cur ∧ Below w.heap.size w wr)
    (fun i _ => lb.length - (intOf i).toNat)
  case atStart => exact ⟨0, _, Nat.zero_le _, rfl, TwInv.start la lb, HR.out, hb0⟩
  case round =>
    clear hb0 HR
    obtain ⟨k, cur, hk, rfl, hinv, hr, hb⟩ := hrel
    have hl := hinv.len
    by_cases hlt : k < lb.length
    · obtain ⟨bb, offb, rfl, hbb, hcb⟩ := sb.at hlt
      have cb := (hb.cell (p := ⟨bb, offb + k, none⟩) hbb).trans (hcb k hlt)
      have hpre : (cur.take k).length = k := by simp; omega
      have hsl : ((cur.drop k).take la.length).length = la.length := by simp; omega
      have hcall := addProduct_at (caps := la.length + lb.length - k) (capa := capa) (n := la.length) (off := k) (na := la.length) (ao := ao) (x := nth lb k) (by rw [← parts3 cur k la.length]; exact hr) ((hinv.wd.drop k).take _) wa (sa.below hb)
        (fun h p hp => by have := SlA.blk sa h p hp; omega) (wb.nth hlt) hsl hsl (by omega) hpre rfl
      have hs1 : ∀ w', (Instr.slice 108 (.slice (some ⟨w.heap.size, 0, none⟩) (la.length + lb.length) (la.length + lb.length)) (some (.int .i64 (k : Int))) (some (.int .i64 ((k : Int) + (la.length : Int)))) none).run Tryz.prog w' = .ok (.slice (some ⟨w.heap.size, k, none⟩) la.length (la.length + lb.length - k)) w' := fun w' => by
        rw [run_slice_mid 108 71 Tryz.underlying108 (by kernel_rfl) w.heap.size 0 _ _ k (k + la.length) _ (by omega) (by omega) (by omega) (by omega) w', Nat.zero_add, Nat.add_sub_cancel_left]
      have HC := Lib.hid hcall
      have SA := Lib.hid sa
      have SB := Lib.hid sb
      have HR := Lib.hid hr
      have HL := Lib.hid hl
      clear hcall sa sb hr hpre hsl hcb hl
      go_wp2_with fail
      refine HC.out.mono ?_
      rintro e w1 ⟨seg, c, rfl, rfl, hmac⟩
      have hstep := hinv.step hlt hmac
      have hr1 := HR.out.put (cur.take k ++ (seg ++ cur.drop (k + la.length)))
      have hlen : (cur.take k ++ (seg ++ cur.drop (k + la.length))).length = la.length + lb.length := by
        have := hstep.len
        rwa [List.length_set] at this
      have hb1 := hb.put (Nat.le_refl _) .u64 (cur.take k ++ (seg ++ cur.drop (k + la.length)))
      have c0 := hr1.cell (i := k + la.length) (by omega)
      have f0 := hr1.frozen (k + la.length)
      have hr2 := hr1.storeRow (k + la.length) c
      generalize wput wr w.heap.size .u64 (cur.take k ++ (seg ++ cur.drop (k + la.length))) = W1 at *
      have HS := Lib.hid hstep
      have H2 := Lib.hid hr2
      clear hstep hr2 hr1 hmac HC hlen hs1
      go_wp2_with fail
      go_roundw
      case rel => exact ⟨k + 1, _, by omega, by go_num, HS.out, H2.out, hb1.setCell (Nat.le_refl _) _⟩
      case measure => simp [intOf]; omega
    · have hkl : k = lb.length := by omega
      subst hkl
      have hs2 := hr.sl (cap := la.length + lb.length) (by omega) (by omega)
      have hv := hinv.eq
      rw [List.take_length] at hv
      have hwd := hinv.wd
      have htr := trim_at hs2 hl
      have H := Lib.hid htr
      have HV := Lib.hid hv
      clear htr hv hl
      go_wp2_with fail
      refine H.out.mono ?_
      intro e w1 ht
      have hret := trim_ret hs2 hwd HV.out hb ht
      obtain ⟨v, rfl, hv, hb⟩ := hret
      clear H ht
      go_wp2_with fail
      go_ret
      exact ⟨v, rfl, hv, hb⟩
end Go.Proofs.YtekghemhccfhkaaGreatDoor
namespace Go.Proofs.YtekghemhccfhkaaGreatDoor
open Go.RowKit Go.Big

set_option maxRecDepth 100000 in
set_option maxHeartbeats 400000 in
theorem times_ge (ao bo : Option Addr) (capa capb : Nat) (la lb : List Nat) (w : World) (sa : SlA w .u64 ao capa la) (sb : SlA w .u64 bo capb lb)
    (wa : Wd B64 la) (wb : Wd B64 lb) (hK : la.length < 1000000000000) (hge : lb.length ≤ la.length) (h100 : lb.length < 100) :
    Calls Tryz.prog 139 #[.slice ao la.length capa, .slice bo lb.length capb] w (RetNat w (val B64 la * val B64 lb)) := by
  have hgx : ¬ la.length < lb.length := by omega
  by_cases h0 : lb.length = 0
  · have hz : val B64 la * val B64 lb = 0 := by
      have : lb = [] := List.eq_nil_of_length_eq_zero h0
      subst this
      simp [val]
    rw [hz]
    clear hz
    have hz' : ((lb.length : Int) == 0) = true := by rw [beq_iff_eq]; omega
    rw [h0]
    rw [h0] at hz' hgx
    have hres : NatV w .u64 B64 (.slice none 0 0) 0 := ⟨none, 0, [], rfl, SlA.nil _ _ _ _, fun _ h => by simp at h, Nz_nil, rfl⟩
    have HR := Lib.hid hres
    clear hres sa sb h0 h100
    go_enter Tryz.func139, Tryz.ntmps139
    go_wp2_with fail
    go_ret
    exact ⟨_, rfl, HR.out, Below.refl _ _⟩
  · have hz' : ((lb.length : Int) == 0) = false := by rw [beq_eq_false_iff_ne]; omega
    have hl : ¬ lb = [] := by rintro rfl; simp at h0
    have hc := timesByWords_core ao bo capa capb la lb w sa sb wa wb (by omega)
    have HC := Lib.hid hc
    clear hc sa sb h0 hge
    go_enter Tryz.func139, Tryz.ntmps139
    go_wp2_with fail
    refine HC.out.mono ?_
    rintro e w1 ⟨v, rfl, hv, hb⟩
    clear HC
    go_wp2_with fail
    go_ret
    exact ⟨v, rfl, hv, hb⟩

set_option maxRecDepth 100000 in
set_option maxHeartbeats 400000 in
theorem times_lt (ao bo : Option Addr) (capa capb : Nat) (la lb : List Nat) (w : World) (sa : SlA w .u64 ao capa la) (sb : SlA w .u64 bo capb lb)
    (wa : Wd B64 la) (wb : Wd B64 lb) (hK : la.length < 1000000000000) (hge : lb.length < la.length) (h100 : lb.length < 100) :
    Calls Tryz.prog 139 #[.slice bo lb.length capb, .slice ao la.length capa] w (RetNat w (val B64 la * val B64 lb)) := by
  have hgx : lb.length < la.length := by omega
  by_cases h0 : lb.length = 0
  · have hz : val B64 la * val B64 lb = 0 := by
      have : lb = [] := List.eq_nil_of_length_eq_zero h0
      subst this
      simp [val]
    rw [hz]
    clear hz
    have hz' : ((lb.length : Int) == 0) = true := by rw [beq_iff_eq]; omega
    rw [h0]
    rw [h0] at hz' hgx
    have hres : NatV w .u64 B64 (.slice none 0 0) 0 := ⟨none, 0, [], rfl, SlA.nil _ _ _ _, fun _ h => by simp at h, Nz_nil, rfl⟩
    have HR := Lib.hid hres
    clear hres sa sb h0 h100
    go_enter Tryz.func139, Tryz.ntmps139
    go_wp2_with fail
    go_ret
    exact ⟨_, rfl, HR.out, Below.refl _ _⟩
  · have hz' : ((lb.length : Int) == 0) = false := by rw [beq_eq_false_iff_ne]; omega
    have hl : ¬ lb = [] := by rintro rfl; simp at h0
    have hc := timesByWords_core ao bo capa capb la lb w sa sb wa wb (by omega)
    have HC := Lib.hid hc
    clear hc sa sb h0 hge
    go_enter Tryz.func139, Tryz.ntmps139
    go_wp2_with fail
    refine HC.out.mono ?_
    rintro e w1 ⟨v, rfl, hv, hb⟩
    clear HC
    go_wp2_with fail
    go_ret
    exact ⟨v, rfl, hv, hb⟩

/-- (natural).times, of numbers below the length from which factors are split -/
theorem times_any {va vb : Value} {m n K : Nat} {w : World} (ha : NatV w .u64 B64 va m) (hb : NatV w .u64 B64 vb n) (hK : K < 100) (hm : m < B64 ^ K) (hn : n < B64 ^ K) :
    Calls Tryz.prog 139 #[va, vb] w (RetNat w (m * n)) := by
  obtain ⟨ao, capa, la, rfl, sa, wa, _, ea, la'⟩ := natv_len ha hm
  obtain ⟨bo, capb, lb, rfl, sb, wb, _, eb, lb'⟩ := natv_len hb hn
  subst ea eb
  rcases Nat.lt_or_ge la.length lb.length with h | h
  · rw [Nat.mul_comm]
    exact times_lt bo ao capb capa lb la w sb sa wb wa (by omega) h (by omega)
  · exact times_ge ao bo capa capb la lb w sa sb wa wb (by omega) h (by omega)
end Go.Proofs.YtekghemhccfhkaaGreatDoor
namespace Go.Big
open Go Go.RowKit
/-- A slice with words that lies from block B on. -/
def Frs (B : Nat) (v : Value) : Prop := ∀ {ao : Option Addr} {k cap : Nat} {p : Addr}, v = .slice ao k cap → k ≠ 0 → ao = some p → B ≤ p.block
theorem frs_nil (B : Nat) : Frs B (.slice none 0 0) := fun h hk _ => by simp only [Value.slice.injEq] at h; exact absurd h.2.1.symm hk
theorem frs_at {B g : Nat} (hg : B ≤ g) (o k cap : Nat) : Frs B (.slice (some ⟨g, o, none⟩) k cap) := fun h _ hp => by
  simp only [Value.slice.injEq] at h
  rw [← h.1] at hp
  simp at hp
  rw [← hp]; exact hg
theorem frs_new (B : Nat) (k cap : Nat) : Frs B (.slice (some ⟨B, 0, none⟩) k cap) := frs_at (Nat.le_refl _) _ _ _
/-- A number comes back in a block of its own. -/
def RetNatN (w : World) (n : Nat) (e : Ending) (w' : World) : Prop := ∃ v, e = .returned v ∧ NatV w' .u64 B64 v n ∧ Frs w.heap.size v ∧ Below w.heap.size w w'
end Go.Big
namespace Go.Proofs.YtekghemhccfhkaaGreatDoor
open Go.RowKit Go.Big
set_option maxRecDepth 100000 in
set_option maxHeartbeats 1000000 in
theorem timesByWords_fresh (ao bo : Option Addr) (capa capb : Nat) (la lb : List Nat) (w : World) (sa : SlA w .u64 ao capa la) (sb : SlA w .u64 bo capb lb)
    (wa : Wd B64 la) (wb : Wd B64 lb) (hK : la.length + lb.length ≤ 1099511627776) :
    Calls Tryz.prog 179 #[.slice ao la.length capa, .slice bo lb.length capb] w (RetNatN w (val B64 la * val B64 lb)) := by
  have hmk := mk64 (la.length + lb.length) (la.length + lb.length) (by omega) hK w
  have hr0 : isRow (w.alloc (.cells (cellsOf .u64 (zeros (la.length + lb.length))) 71)) w.heap.size 71 .u64 (zeros (la.length + lb.length)) := isRow_alloc _ _ _ _
  have hb0 : Below w.heap.size w (w.alloc (.cells (cellsOf .u64 (zeros (la.length + lb.length))) 71)) := (Below.refl _ _).alloc (Nat.le_refl _) _
  generalize hW : w.alloc (.cells (cellsOf .u64 (zeros (la.length + lb.length))) 71) = W at *
  have HR := Lib.hid hr0
  clear hW hr0
  go_enter Tryz.func179, Tryz.ntmps179
  go_wp2_with fail
  go_loopw [16] (fun i wr => ∃ (k : Nat) (cur : List Nat), k ≤ lb.length ∧ i = .int .i64 k ∧ TwInv la lb k cur ∧ isRow wr w.heap.size 71 .u64 cur ∧ Below w.heap.size w wr)
    (fun i _ => lb.length - (intOf i).toNat)
  case atStart => exact ⟨0, _, Nat.zero_le _, rfl, TwInv.start la lb, HR.out, hb0⟩
  case round =>
    clear hb0 HR
    obtain ⟨k, cur, hk, rfl, hinv, hr, hb⟩ := hrel
    have hl := hinv.len
    by_cases hlt : k < lb.length
    · obtain ⟨bb, offb, rfl, hbb, hcb⟩ := sb.at hlt
      have cb := (hb.cell (p := ⟨bb, offb + k, none⟩) hbb).trans (hcb k hlt)
      have hpre : (cur.take k).length = k := by simp; omega
      have hsl : ((cur.drop k).take la.length).length = la.length := by simp; omega
      have hcall := addProduct_at (caps := la.length + lb.length - k) (capa := capa) (n := la.length) (off := k) (na := la.length) (ao := ao) (x := nth lb k) (by rw [← parts3 cur k la.length]; exact hr) ((hinv.wd.drop k).take _) wa (sa.below hb)
        (fun h p hp => by have := SlA.blk sa h p hp; omega) (wb.nth hlt) hsl hsl (by omega) hpre rfl
      have hs1 : ∀ w', (Instr.slice 108 (.slice (some ⟨w.heap.size, 0, none⟩) (la.length + lb.length) (la.length + lb.length)) (some (.int .i64 (k : Int))) (some (.int .i64 ((k : Int) + (la.length : Int)))) none).run Tryz.prog w' = .ok (.slice (some ⟨w.heap.size, k, none⟩) la.length (la.length + lb.length - k)) w' := fun w' => by
        rw [run_slice_mid 108 71 Tryz.underlying108 (by kernel_rfl) w.heap.size 0 _ _ k (k + la.length) _ (by omega) (by omega) (by omega) (by omega) w', Nat.zero_add, Nat.add_sub_cancel_left]
      have HC := Lib.hid hcall
      have SA := Lib.hid sa
      have SB := Lib.hid sb
      have HR := Lib.hid hr
      have HL := Lib.hid hl
      clear hcall sa sb hr hpre hsl hcb hl
      go_wp2_with fail
      refine HC.out.mono ?_
      rintro e w1 ⟨seg, c, rfl, rfl, hmac⟩
      have hstep := hinv.step hlt hmac
      have hr1 := HR.out.put (cur.take k ++ (seg ++ cur.drop (k + la.length)))
      have hlen : (cur.take k ++ (seg ++ cur.drop (k + la.length))).length = la.length + lb.length := by
        have := hstep.len
        rwa [List.length_set] at this
      have hb1 := hb.put (Nat.le_refl _) .u64 (cur.take k ++ (seg ++ cur.drop (k + la.length)))
      have c0 := hr1.cell (i := k + la.length) (by omega)
      have f0 := hr1.frozen (k + la.length)
      have hr2 := hr1.storeRow (k + la.length) c
      generalize wput wr w.heap.size .u64 (cur.take k ++ (seg ++ cur.drop (k + la.length))) = W1 at *
      have HS := Lib.hid hstep
      have H2 := Lib.hid hr2
      clear hstep hr2 hr1 hmac HC hlen hs1
      go_wp2_with fail
      go_roundw
      case rel => exact ⟨k + 1, _, by omega, by go_num, HS.out, H2.out, hb1.setCell (Nat.le_refl _) _⟩
      case measure => simp [intOf]; omega
    · have hkl : k = lb.length := by omega
      subst hkl
      have hs2 := hr.sl (cap := la.length + lb.length) (by omega) (by omega)
      have hv := hinv.eq
      rw [List.take_length] at hv
      have hwd := hinv.wd
      have H := Lib.hid (trim_det_at hs2 hl)
      have HV := Lib.hid (natv_trim hs2 hwd hl hv)
      clear hv hl
      go_wp2_with fail
      refine H.out.mono ?_
      rintro e w1 ⟨rfl, rfl⟩
      go_wp2_with fail
      go_ret
      exact ⟨_, rfl, HV.out, frs_new _ _ _, hb⟩
set_option maxRecDepth 100000 in
set_option maxHeartbeats 400000 in
theorem times_fresh_ge (ao bo : Option Addr) (capa capb : Nat) (la lb : List Nat) (w : World) (sa : SlA w .u64 ao capa la) (sb : SlA w .u64 bo capb lb)
    (wa : Wd B64 la) (wb : Wd B64 lb) (hK : la.length < 1000000000000) (hge : lb.length ≤ la.length) (h100 : lb.length < 100) :
    Calls Tryz.prog 139 #[.slice ao la.length capa, .slice bo lb.length capb] w (RetNatN w (val B64 la * val B64 lb)) := by
  have hgx : ¬ la.length < lb.length := by omega
  by_cases h0 : lb.length = 0
  · have hz : val B64 la * val B64 lb = 0 := by
      have : lb = [] := List.eq_nil_of_length_eq_zero h0
      subst this
      simp [val]
    rw [hz]
    clear hz
    have hz' : ((lb.length : Int) == 0) = true := by rw [beq_iff_eq]; omega
    rw [h0]
    rw [h0] at hz' hgx
    have hres : NatV w .u64 B64 (.slice none 0 0) 0 := ⟨none, 0, [], rfl, SlA.nil _ _ _ _, fun _ h => by simp at h, Nz_nil, rfl⟩
    have HR := Lib.hid hres
    clear hres sa sb h0 h100
    go_enter Tryz.func139, Tryz.ntmps139
    go_wp2_with fail
    go_ret
    exact ⟨_, rfl, HR.out, frs_nil _, Below.refl _ _⟩
  · have hz' : ((lb.length : Int) == 0) = false := by rw [beq_eq_false_iff_ne]; omega
    have hl : ¬ lb = [] := by rintro rfl; simp at h0
    have hc := timesByWords_fresh ao bo capa capb la lb w sa sb wa wb (by omega)
    have HC := Lib.hid hc
    clear hc sa sb h0 hge
    go_enter Tryz.func139, Tryz.ntmps139
    go_wp2_with fail
    refine HC.out.mono ?_
    rintro e w1 ⟨v, rfl, hv, hfr, hb⟩
    clear HC
    go_wp2_with fail
    go_ret
    exact ⟨v, rfl, hv, hfr, hb⟩

set_option maxRecDepth 100000 in
set_option maxHeartbeats 400000 in
theorem times_fresh_lt (ao bo : Option Addr) (capa capb : Nat) (la lb : List Nat) (w : World) (sa : SlA w .u64 ao capa la) (sb : SlA w .u64 bo capb lb)
    (wa : Wd B64 la) (wb : Wd B64 lb) (hK : la.length < 1000000000000) (hge : lb.length < la.length) (h100 : lb.length < 100) :
    Calls Tryz.prog 139 #[.slice bo lb.length capb, .slice ao la.length capa] w (RetNatN w (val B64 la * val B64 lb)) := by
  have hgx : lb.length < la.length := by omega
  by_cases h0 : lb.length = 0
  · have hz : val B64 la * val B64 lb = 0 := by
      have : lb = [] := List.eq_nil_of_length_eq_zero h0
      subst this
      simp [val]
    rw [hz]
    clear hz
    have hz' : ((lb.length : Int) == 0) = true := by rw [beq_iff_eq]; omega
    rw [h0]
    rw [h0] at hz' hgx
    have hres : NatV w .u64 B64 (.slice none 0 0) 0 := ⟨none, 0, [], rfl, SlA.nil _ _ _ _, fun _ h => by simp at h, Nz_nil, rfl⟩
    have HR := Lib.hid hres
    clear hres sa sb h0 h100
    go_enter Tryz.func139, Tryz.ntmps139
    go_wp2_with fail
    go_ret
    exact ⟨_, rfl, HR.out, frs_nil _, Below.refl _ _⟩
  · have hz' : ((lb.length : Int) == 0) = false := by rw [beq_eq_false_iff_ne]; omega
    have hl : ¬ lb = [] := by rintro rfl; simp at h0
    have hc := timesByWords_fresh ao bo capa capb la lb w sa sb wa wb (by omega)
    have HC := Lib.hid hc
    clear hc sa sb h0 hge
    go_enter Tryz.func139, Tryz.ntmps139
    go_wp2_with fail
    refine HC.out.mono ?_
    rintro e w1 ⟨v, rfl, hv, hfr, hb⟩
    clear HC
    go_wp2_with fail
    go_ret
    exact ⟨v, rfl, hv, hfr, hb⟩

end Go.Proofs.YtekghemhccfhkaaGreatDoor
