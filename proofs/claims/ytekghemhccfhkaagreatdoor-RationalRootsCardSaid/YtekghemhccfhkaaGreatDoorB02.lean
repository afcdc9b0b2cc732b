/-
  Walks of the program's functions: Chunk, AddMath, AddTo, WChunk, Digs, SubFrom, Trim, At.
-/
import Derived.Test.YtekghemhccfhkaaGreatDoorB01
import Derived.Lib.Strings
import Derived.Lib.Walk
import Derived.Deep.LoopGhost
import Derived.Shelf.Spec.BitsCarry
namespace Go.Big
open Go
theorem run_mul10 (x : Nat) : Op.intArith .mul .u64 (x : Int) 10 = pure (.int .u64 (mulW x 10 : Nat)) := run_mulW x 10
attribute [go_sem ↓] run_mul10
end Go.Big
namespace Go.Proofs.YtekghemhccfhkaaGreatDoor
open Go.RowKit Go.Big
set_option maxRecDepth 100000 in
set_option maxHeartbeats 1000000 in
/-- readChunk, of at most 19 digits -/
theorem readChunk_any (s : ByteArray) (hd : Dig s.data.toList) (hl : s.size ≤ 19) (w : World) :
    Calls Tryz.prog 149 #[.string s] w fun e w' => e = .returned (.int .u64 (dec s.data.toList)) ∧ w' = w := by
  have hsz : s.data.toList.length = s.size := (Lib.size_eq s).symm
  have HD := Lib.hid hd
  have HS := Lib.hid hsz
  clear hd hsz
  go_enter Tryz.func149, Tryz.ntmps149
  go_wp2_with fail
  go_loopw [3, 7] (fun x y wr => wr = w ∧ ∃ i : Nat, i ≤ s.size ∧ y = .int .i64 i ∧ x = .int .u64 (dec (s.data.toList.take i))) (fun _ y _ => s.size - (intOf y).toNat)
  case atStart => exact ⟨rfl, 0, by omega, rfl, rfl⟩
  case round =>
    obtain ⟨rfl, i, hi, rfl, rfl⟩ := hrel
    by_cases h : i < s.size
    · have hb : s[i] = s.data.toList[i]'(by have := HS.out; omega) := by simp [ByteArray.getElem_eq_getElem_data]
      have hdg := HD.out (s.data.toList[i]'(by have := HS.out; omega)) (List.getElem_mem _)
      have hdt := dec_take s.data.toList i (by have := HS.out; omega)
      have hlt : dec (s.data.toList.take (i + 1)) < 10 ^ 19 := by
        have h1 := dec_lt (l := s.data.toList.take (i + 1)) (fun b hb => HD.out b (List.mem_of_mem_take hb))
        have h2 : 10 ^ (s.data.toList.take (i + 1)).length ≤ 10 ^ 19 := Nat.pow_le_pow_right (by decide) (by rw [List.length_take]; omega)
        omega
      rw [← hb] at hdg hdt
      obtain ⟨d, hde⟩ : ∃ d, s[i].toNat = d + 48 := ⟨s[i].toNat - 48, by omega⟩
      have hdi : ((s[i].toNat : Nat) : Int) = (d : Int) + 48 := by omega
      rw [hde, Nat.add_sub_cancel] at hdt
      rw [hde] at hdg
      obtain ⟨v, hv⟩ : ∃ v, dec (s.data.toList.take i) = v := ⟨_, rfl⟩
      rw [hv] at hdt ⊢
      have e1 : mulW v 10 = v * 10 := mulW_lt' (by omega)
      have e2 : IntKind.u64.wrap ((v : Int) * 10 + (d : Int)) = ((v * 10 + d : Nat) : Int) := by
        rw [show (v : Int) * 10 + (d : Int) = ((v * 10 + d : Nat) : Int) by push_cast; rfl, wrap_nat, Nat.mod_eq_of_lt (by omega)]
      have E2 := Lib.hid e2
      clear e2
      have HDT := Lib.hid hdt
      clear hdt hv hde hb hlt
      go_wp2_with fail
      go_roundw
      case rel => exact ⟨by first | rfl | trivial, i + 1, by omega, rfl, by rw [HDT.out, E2.out]⟩
      case measure => simp [intOf]; omega
    · have he : i = s.size := by omega
      have hf : s.data.toList.take i = s.data.toList := List.take_of_length_le (by have := HS.out; omega)
      rw [hf]
      clear hf
      subst he
      go_wp2_with fail
      go_ret
      exact ⟨rfl, rfl⟩
end Go.Proofs.YtekghemhccfhkaaGreatDoor
namespace Go.Big
theorem addLo_lt (x y c : Nat) : addLo x y c < 18446744073709551616 := Nat.mod_lt _ (by omega)
theorem addHi_le {x y c : Nat} (hx : x < 18446744073709551616) (hy : y < 18446744073709551616) (hc : c ≤ 1) : addHi x y c ≤ 1 := by unfold addHi; omega
theorem add_eq (x y c : Nat) : addLo x y c + 18446744073709551616 * addHi x y c = x + y + c := by unfold addLo addHi; omega
def subLo (x y c : Nat) : Nat := (x + 18446744073709551616 - y - c) % 18446744073709551616
def subHi (x y c : Nat) : Nat := if x < y + c then 1 else 0
theorem subLo_lt (x y c : Nat) : subLo x y c < 18446744073709551616 := Nat.mod_lt _ (by omega)
theorem subHi_le (x y c : Nat) : subHi x y c ≤ 1 := by unfold subHi; split <;> omega
theorem sub_eq {x y c : Nat} (hx : x < 18446744073709551616) (hy : y < 18446744073709551616) (hc : c ≤ 1) : subLo x y c + y + c = x + 18446744073709551616 * subHi x y c := by
  unfold subLo subHi; split <;> omega
/-- What holds of 'addTo' behind i words. -/
structure AddInv (a b : List Nat) (i : Nat) (cur : List Nat) (c : Nat) : Prop where
  len : cur.length = a.length
  wd : Wd B64 cur
  carry : c ≤ 1
  rest : cur.drop i = a.drop i
  eq : val B64 (cur.take i) + c * B64 ^ i = val B64 (a.take i) + val B64 (b.take i)

theorem AddInv.start {a : List Nat} (b : List Nat) (h : Wd B64 a) : AddInv a b 0 a 0 := ⟨rfl, h, by omega, rfl, by simp [val]⟩

theorem AddInv.step {a b cur : List Nat} {i c : Nat} (h : AddInv a b i cur c) (hi : i < a.length) (hib : i < b.length) (hb : Wd B64 b) :
    AddInv a b (i + 1) (cur.set i (addLo (nth cur i) (nth b i) c)) (addHi (nth cur i) (nth b i) c) := by
  have hic : i < cur.length := by rw [h.len]; exact hi
  refine ⟨by rw [List.length_set, h.len], h.wd.set (addLo_lt _ _ _), addHi_le (by rw [nth_lt hic]; exact h.wd.get hic) (by rw [nth_lt hib]; exact hb.get hib) h.carry, ?_, ?_⟩
  · rw [drop_set_succ, drop_succ_of h.rest]
  · rw [set_take_val B64 cur i _ hic, take_val_nth B64 a i hi, take_val_nth B64 b i hib]
    have e1 := h.eq
    have e2 := add_eq (nth cur i) (nth b i) c
    rw [nth_drop h.rest] at e2 ⊢
    rw [Nat.pow_succ]
    grind

/-- Behind the words of b: the carry runs on. -/
theorem AddInv.step0 {a b cur : List Nat} {i c : Nat} (h : AddInv a b i cur c) (hi : i < a.length) (hib : b.length ≤ i) :
    AddInv a b (i + 1) (cur.set i (addLo (nth cur i) 0 c)) (addHi (nth cur i) 0 c) := by
  have hic : i < cur.length := by rw [h.len]; exact hi
  refine ⟨by rw [List.length_set, h.len], h.wd.set (addLo_lt _ _ _), addHi_le (by rw [nth_lt hic]; exact h.wd.get hic) (by omega) h.carry, ?_, ?_⟩
  · rw [drop_set_succ, drop_succ_of h.rest]
  · rw [set_take_val B64 cur i _ hic, take_val_nth B64 a i hi, List.take_of_length_le (i := i + 1) (by omega)]
    have e1 := h.eq
    rw [List.take_of_length_le hib] at e1
    have e2 := add_eq (nth cur i) 0 c
    rw [nth_drop h.rest] at e2 ⊢
    rw [Nat.pow_succ]
    grind

/-- What 'addTo' leaves. -/
structure Added (a b cur : List Nat) (c : Nat) : Prop where
  len : cur.length = a.length
  wd : Wd B64 cur
  carry : c ≤ 1
  eq : val B64 cur + c * B64 ^ a.length = val B64 a + val B64 b

theorem AddInv.done {a b cur : List Nat} {i c : Nat} (h : AddInv a b i cur c) (hi : b.length ≤ i) (hia : i ≤ a.length) (hd : ¬ i < a.length ∨ c = 0) : Added a b cur c := by
  refine ⟨h.len, h.wd, h.carry, ?_⟩
  have e := h.eq
  rw [List.take_of_length_le hi] at e
  rcases hd with hd | rfl
  · have : i = a.length := by omega
    subst this
    rw [List.take_of_length_le (by rw [h.len]; omega), List.take_of_length_le (by omega)] at e
    exact e
  · rw [take_drop_val B64 cur i (by rw [h.len]; exact hia), take_drop_val B64 a i hia, h.rest]
    omega
/-- What holds of 'subtractFrom' behind i words. -/
structure SubInv (a b : List Nat) (i : Nat) (cur : List Nat) (c : Nat) : Prop where
  len : cur.length = a.length
  wd : Wd B64 cur
  carry : c ≤ 1
  rest : cur.drop i = a.drop i
  eq : val B64 (cur.take i) + val B64 (b.take i) = val B64 (a.take i) + c * B64 ^ i

theorem SubInv.start {a : List Nat} (b : List Nat) (h : Wd B64 a) : SubInv a b 0 a 0 := ⟨rfl, h, by omega, rfl, by simp [val]⟩

theorem SubInv.step {a b cur : List Nat} {i c : Nat} (h : SubInv a b i cur c) (hi : i < a.length) (hib : i < b.length) (hb : Wd B64 b) :
    SubInv a b (i + 1) (cur.set i (subLo (nth cur i) (nth b i) c)) (subHi (nth cur i) (nth b i) c) := by
  have hic : i < cur.length := by rw [h.len]; exact hi
  refine ⟨by rw [List.length_set, h.len], h.wd.set (subLo_lt _ _ _), subHi_le _ _ _, ?_, ?_⟩
  · rw [drop_set_succ, drop_succ_of h.rest]
  · rw [set_take_val B64 cur i _ hic, take_val_nth B64 a i hi, take_val_nth B64 b i hib]
    have e1 := h.eq
    have e2 := sub_eq (h.wd.nth hic) (hb.nth hib) h.carry
    rw [nth_drop h.rest] at e2 ⊢
    rw [Nat.pow_succ]
    grind

/-- Behind the words of b: the carry runs on. -/
theorem SubInv.step0 {a b cur : List Nat} {i c : Nat} (h : SubInv a b i cur c) (hi : i < a.length) (hib : b.length ≤ i) :
    SubInv a b (i + 1) (cur.set i (subLo (nth cur i) 0 c)) (subHi (nth cur i) 0 c) := by
  have hic : i < cur.length := by rw [h.len]; exact hi
  refine ⟨by rw [List.length_set, h.len], h.wd.set (subLo_lt _ _ _), subHi_le _ _ _, ?_, ?_⟩
  · rw [drop_set_succ, drop_succ_of h.rest]
  · rw [set_take_val B64 cur i _ hic, take_val_nth B64 a i hi, List.take_of_length_le (i := i + 1) (by omega)]
    have e1 := h.eq
    rw [List.take_of_length_le hib] at e1
    have e2 := sub_eq (y := 0) (h.wd.nth hic) (by omega) h.carry
    rw [nth_drop h.rest] at e2 ⊢
    rw [Nat.pow_succ]
    grind

/-- What 'subtractFrom' leaves. -/
structure Subbed (a b cur : List Nat) (c : Nat) : Prop where
  len : cur.length = a.length
  wd : Wd B64 cur
  carry : c ≤ 1
  eq : val B64 cur + val B64 b = val B64 a + c * B64 ^ a.length

theorem SubInv.done {a b cur : List Nat} {i c : Nat} (h : SubInv a b i cur c) (hi : b.length ≤ i) (hia : i ≤ a.length) (hd : ¬ i < a.length ∨ c = 0) : Subbed a b cur c := by
  refine ⟨h.len, h.wd, h.carry, ?_⟩
  have e := h.eq
  rw [List.take_of_length_le hi] at e
  rcases hd with hd | rfl
  · have : i = a.length := by omega
    subst this
    rw [List.take_of_length_le (by rw [h.len]; omega), List.take_of_length_le (by omega)] at e
    exact e
  · rw [take_drop_val B64 cur i (by rw [h.len]; exact hia), take_drop_val B64 a i hia, h.rest]
    omega
end Go.Big
namespace Go.Proofs.YtekghemhccfhkaaGreatDoor
open Go.RowKit Go.Big
theorem run_add0 (x c : Nat) (hc : c ≤ 1) (w : World) :
    (callFunc 222 #[.int .u64 x, .int .u64 0, .int .u64 c]).run Tryz.prog w =
      .ok (.value (.tuple #[.int .u64 (addLo x 0 c), .int .u64 (addHi x 0 c)])) w := run_add x 0 c hc w

def AddPost (w : World) (g : Nat) (pre a post b : List Nat) (e : Ending) (w' : World) : Prop :=
  ∃ (cur : List Nat) (c : Nat), e = .returned (.int .u64 c) ∧ w' = wput w g .u64 (pre ++ (cur ++ post)) ∧ Added a b cur c

set_option maxRecDepth 100000 in
set_option maxHeartbeats 400000 in
theorem addTo_any (g capa capb : Nat) (bo : Option Addr) (pre a post b : List Nat) (w : World)
    (hg : isRow w g 71 .u64 (pre ++ (a ++ post))) (ha : Wd B64 a) (hbw : Wd B64 b) (hb : SlA w .u64 bo capb b) (hne : b ≠ [] → ∀ p, bo = some p → p.block ≠ g)
    (hl : b.length ≤ a.length) (hm : a.length ≤ 1099511627776) :
    Calls Tryz.prog 213 #[.slice (some ⟨g, pre.length, none⟩) a.length capa, .slice bo b.length capb] w (AddPost w g pre a post b) := by
  go_enter Tryz.func213, Tryz.ntmps213
  go_wp2
  go_loopw [5, 11] (fun c i wr => ∃ (k cn : Nat) (cur : List Nat), k ≤ b.length ∧ i = .int .i64 k ∧ c = .int .u64 cn ∧ AddInv a b k cur cn ∧ wr = wput w g .u64 (pre ++ (cur ++ post)))
    (fun _ i _ => b.length - (intOf i).toNat)
  case atStart => exact ⟨0, 0, a, Nat.zero_le _, rfl, rfl, AddInv.start b ha, (put_self hg).symm⟩
  case round =>
    obtain ⟨k, cn, cur, hk, rfl, rfl, hinv, rfl⟩ := hrel
    have hcn := hinv.carry
    have HL : Hid (cur.length = a.length) := hinv.len
    by_cases hlt : k < b.length
    · obtain ⟨gb, offb, rfl, _, hbc⟩ := hb.at hlt
      have hgb : gb ≠ g := hne (by intro e; simp [e] at hlt) _ rfl
      have hcb : (wput w g .u64 (pre ++ (cur ++ post))).cell? ⟨gb, offb + k, none⟩ = some (.int .u64 (nth b k)) := by rw [put_other _ _ _ hgb]; exact hbc k hlt
      have hca : (wput w g .u64 (pre ++ (cur ++ post))).cell? ⟨g, pre.length + k, none⟩ = some (.int .u64 (nth cur k)) := by
        rw [(hg.put _).cell (by have := HL.out; simp; omega), nth_mid _ _ _ _ (by have := HL.out; omega)]
      have hfr : (wput w g .u64 (pre ++ (cur ++ post))).frozen? ⟨g, pre.length + k, none⟩ = false := (hg.put _).frozen _
      have hadd := run_add (nth cur k) (nth b k) cn hcn (wput w g .u64 (pre ++ (cur ++ post)))
      generalize hW : wput w g .u64 (pre ++ (cur ++ post)) = W at *
      have HW := Lib.hid hW
      clear hW hb hbc hgb hne
      go_wp2_with fail
      go_roundw
      case rel => exact ⟨k + 1, _, cur.set k (addLo (nth cur k) (nth b k) cn), by omega, by go_num, rfl, hinv.step (by omega) hlt hbw, by rw [← HW.out, put_store hg, set_mid _ _ _ _ _ (by have := HL.out; omega)]⟩
      case measure => simp [intOf]; omega
    · have hkb : k = b.length := by omega
      subst hkb
      clear hb hne
      go_wp2_with fail
      go_loopw [5, 8] (fun c i wr => ∃ (k cn : Nat) (cur : List Nat), b.length ≤ k ∧ k ≤ a.length ∧ i = .int .i64 k ∧ c = .int .u64 cn ∧ AddInv a b k cur cn ∧ wr = wput w g .u64 (pre ++ (cur ++ post)))
        (fun _ i _ => a.length - (intOf i).toNat)
      case atStart => exact ⟨b.length, cn, cur, Nat.le_refl _, hl, rfl, rfl, hinv, rfl⟩
      case round =>
        clear hinv HL hcn
        obtain ⟨k, cn, cur, hk, hka, rfl, rfl, hinv, rfl⟩ := hrel
        have hcn := hinv.carry
        have HL : Hid (cur.length = a.length) := hinv.len
        by_cases hlt : k < a.length
        · have hca : (wput w g .u64 (pre ++ (cur ++ post))).cell? ⟨g, pre.length + k, none⟩ = some (.int .u64 (nth cur k)) := by
            rw [(hg.put _).cell (by have := HL.out; simp; omega), nth_mid _ _ _ _ (by have := HL.out; omega)]
          have hfr : (wput w g .u64 (pre ++ (cur ++ post))).frozen? ⟨g, pre.length + k, none⟩ = false := (hg.put _).frozen _
          have hadd := run_add0 (nth cur k) cn hcn (wput w g .u64 (pre ++ (cur ++ post)))
          generalize hW : wput w g .u64 (pre ++ (cur ++ post)) = W at *
          have HW := Lib.hid hW
          clear hW
          by_cases hz : cn = 0
          · subst hz
            go_wp2_with fail
            go_ret
            exact ⟨cur, 0, rfl, HW.out.symm, hinv.done hk hka (.inr rfl)⟩
          · have hz' : ((cn : Int) != 0) = true := by rw [bne_iff_ne]; omega
            go_wp2_with fail
            go_roundw
            case rel => exact ⟨k + 1, _, cur.set k (addLo (nth cur k) 0 cn), by omega, by omega, by go_num, rfl, hinv.step0 hlt hk, by rw [← HW.out, put_store hg, set_mid _ _ _ _ _ (by have := HL.out; omega)]⟩
            case measure => simp [intOf]; omega
        · go_wp2_with fail
          go_ret
          exact ⟨cur, cn, rfl, rfl, hinv.done hk hka (.inl hlt)⟩
end Go.Proofs.YtekghemhccfhkaaGreatDoor
namespace Go.Big
open Go
/-- The last n decimal digits, as bytes. -/
def digs : Nat → Nat → List Nat
  | 0, _ => []
  | n + 1, v => digs n (v / 10) ++ [48 + v % 10]
theorem digs_len : ∀ (n v : Nat), (digs n v).length = n
  | 0, _ => rfl
  | n + 1, v => by simp [digs, digs_len n]
theorem run_rem10 (x : Nat) : Op.intDiv .rem .u64 (x : Int) 10 = pure (.int .u64 (x % 10 : Nat)) := run_remW x 10 (by decide)
theorem run_quo10 (x : Nat) : Op.intDiv .quo .u64 (x : Int) 10 = pure (.int .u64 (quoW x 10 : Nat)) := run_quoW x 10 (by decide)
theorem run_48add (x : Nat) : Op.intArith .add .u64 48 (x : Int) = pure (.int .u64 (addW 48 x : Nat)) := run_addW 48 x
attribute [go_sem ↓] run_rem10 run_quo10 run_48add
theorem take_set_mid {cur tail : List Nat} {j d : Nat} (h : j < cur.length) : (cur.take (j + 1) ++ tail).set j d = cur.take j ++ d :: tail := by
  rw [List.take_succ_eq_append_getElem h, List.append_assoc, List.set_append_right _ _ (by rw [List.length_take]; omega), List.length_take, Nat.min_eq_left (by omega), Nat.sub_self]
  rfl
end Go.Big
namespace Go.Proofs.YtekghemhccfhkaaGreatDoor
open Go.RowKit Go.Big
def WcRel (w : World) (g v : Nat) (pre cur post : List Nat) (j : Nat) (x y : Value) (wr : World) : Prop :=
  ∃ (u : Nat) (tail : List Nat), x = .int .u64 u ∧ u < 18446744073709551616 ∧ j ≤ cur.length ∧ (j = 0 ∧ y = .int .i64 (-1) ∨ ∃ j', j = j' + 1 ∧ y = .int .i64 (j' : Nat)) ∧
    tail.length = cur.length - j ∧ digs cur.length v = digs j u ++ tail ∧ wr = wput w g .u8 (pre ++ ((cur.take j ++ tail) ++ post))
theorem wc_index {j : Nat} : (j = 0 ∧ Value.int .i64 ((j : Int) - 1) = .int .i64 (-1) ∨ ∃ j', j = j' + 1 ∧ Value.int .i64 ((j : Int) - 1) = .int .i64 (j' : Nat)) := by
  rcases Nat.eq_zero_or_pos j with h | h
  · subst h; exact .inl ⟨rfl, rfl⟩
  · exact .inr ⟨j - 1, by omega, by congr 1; omega⟩
set_option maxRecDepth 100000 in
set_option maxHeartbeats 1000000 in
/-- writeChunk -/
theorem writeChunk_any {w : World} {g cap v : Nat} {t : TypeId} {pre cur post : List Nat} (hg : isRow w g t .u8 (pre ++ (cur ++ post))) (hv : v < 18446744073709551616) (hl : cur.length ≤ 1099511627776) :
    Calls Tryz.prog 172 #[.slice (some ⟨g, pre.length, none⟩) cur.length cap, .int .u64 v] w fun e w' => e = .returned (.tuple #[]) ∧ w' = wput w g .u8 (pre ++ (digs cur.length v ++ post)) := by
  have hself : w = wput w g .u8 (pre ++ (cur ++ post)) := (put_self hg).symm
  have HS := Lib.hid hself
  have HG := Lib.hid hg
  have HV := Lib.hid hv
  clear hself hg hv
  go_enter Tryz.func172, Tryz.ntmps172
  go_wp2_with fail
  go_loopg [1, 4] cur.length (fun j x y wr => WcRel w g v pre cur post j x y wr)
  case atStart => exact ⟨v, [], rfl, HV.out, Nat.le_refl _, wc_index, by simp, by simp, by rw [List.take_of_length_le (Nat.le_refl _), List.append_nil]; exact HS.out⟩
  case round =>
    clear HS HV
    obtain ⟨u, tail, rfl, hu, hj, hi, ht, hd, rfl⟩ := hrel
    rcases hi with ⟨rfl, rfl⟩ | ⟨j', rfl, rfl⟩
    · have hd' : tail = digs cur.length v := by rw [hd]; rfl
      have HD := Lib.hid hd'
      clear hd hd' ht hj hu
      go_wp2_with fail
      go_end0
      exact ⟨rfl, by rw [← HD.out]⟩
    · have e1 : addW 48 (u % 10) = 48 + u % 10 := addW_lt' (by omega)
      have e2 : IntKind.u8.wrap ((48 + u % 10 : Nat) : Int) = ((48 + u % 10 : Nat) : Int) := by
        rw [IntKind.wrap_u8]; omega
      obtain ⟨d, hd0⟩ : ∃ d, 48 + u % 10 = d := ⟨_, rfl⟩
      rw [hd0] at e1 e2
      have e3 : quoW u 10 = u / 10 := Nat.mod_eq_of_lt (by omega)
      have hlen : (cur.take (j' + 1) ++ tail).length = cur.length := by rw [List.length_append, List.length_take, ht]; omega
      have hfr : (wput w g .u8 (pre ++ ((cur.take (j' + 1) ++ tail) ++ post))).frozen? ⟨g, pre.length + j', none⟩ = false := (HG.out.put _).frozen _
      have hca : (wput w g .u8 (pre ++ ((cur.take (j' + 1) ++ tail) ++ post))).cell? ⟨g, pre.length + j', none⟩ = some (.int .u8 (nth (cur.take (j' + 1) ++ tail) j')) := by
        rw [(HG.out.put _).cell (by simp; omega), nth_mid _ _ _ _ (by omega)]
      have hst : (wput w g .u8 (pre ++ ((cur.take (j' + 1) ++ tail) ++ post))).setCell ⟨g, pre.length + j', none⟩ (.int .u8 (d : Int)) = wput w g .u8 (pre ++ ((cur.take j' ++ (d :: tail)) ++ post)) := by
        rw [put_store HG.out, set_mid _ _ _ _ _ (by omega), take_set_mid (by omega)]
      have hdd : digs cur.length v = digs j' (u / 10) ++ (d :: tail) := by rw [hd, digs, hd0]; simp
      have HST := Lib.hid hst
      have HDI := Lib.hid (show 48 + (u : Int) % 10 = (d : Int) by omega)
      have HDD := Lib.hid hdd
      have HT := Lib.hid ht
      clear hst hdd hd hd0 hlen ht
      generalize wput w g .u8 (pre ++ ((cur.take (j' + 1) ++ tail) ++ post)) = W at *
      go_wp2_with fail
      go_roundg j'
      case rel => exact ⟨u / 10, d :: tail, rfl, by omega, by omega, wc_index, by rw [List.length_cons, HT.out]; omega, HDD.out, by rw [HDI.out]; exact HST.out⟩
      case measure => omega
end Go.Proofs.YtekghemhccfhkaaGreatDoor
namespace Go.Big
open Go
theorem digs_add : ∀ (b a v : Nat), digs (a + b) v = digs a (v / 10 ^ b) ++ digs b v
  | 0, a, v => by simp [digs]
  | b + 1, a, v => by
    rw [← Nat.add_assoc]
    simp only [digs]
    rw [digs_add b a, Nat.pow_succ, Nat.mul_comm, ← Nat.div_div_eq_div_mul, List.append_assoc]
theorem digs_mod : ∀ (b c v : Nat), b ≤ c → digs b (v % 10 ^ c) = digs b v
  | 0, _, _, _ => rfl
  | b + 1, c, v, h => by
    simp only [digs]
    obtain ⟨d, rfl⟩ : ∃ d, c = d + 1 := ⟨c - 1, by omega⟩
    have e1 : v % 10 ^ (d + 1) % 10 = v % 10 := by
      rw [Nat.pow_succ]
      exact Nat.mod_mod_of_dvd _ (Nat.dvd_mul_left _ _)
    have e2 : v % 10 ^ (d + 1) / 10 = v / 10 % 10 ^ d := by
      rw [Nat.pow_succ, Nat.mul_comm, Nat.mod_mul_right_div_self]
    rw [e1, e2, digs_mod b d (v / 10) (by omega)]
/-- The digits as bytes. -/
def digb (n v : Nat) : List UInt8 := (digs n v).map UInt8.ofNat
theorem digs_range (n v : Nat) : ∀ x ∈ digs n v, 48 ≤ x ∧ x ≤ 57 := by
  induction n generalizing v with
  | zero => intro x hx; simp [digs] at hx
  | succ n ih =>
    intro x hx
    simp only [digs] at hx
    rcases List.mem_append.1 hx with h | h
    · exact ih _ x h
    · rw [List.mem_singleton.1 h]; omega
theorem digb_dig (n v : Nat) : Dig (digb n v) := by
  intro b hb
  obtain ⟨x, hx, rfl⟩ := List.mem_map.1 hb
  have := digs_range n v x hx
  rw [UInt8.toNat_ofNat', Nat.mod_eq_of_lt (by omega)]; exact this
theorem digb_dec : ∀ (n v : Nat), dec (digb n v) = v % 10 ^ n
  | 0, v => by simp [digb, digs, dec, Nat.mod_one]
  | n + 1, v => by
    unfold digb
    simp only [digs, List.map_append, List.map_cons, List.map_nil]
    rw [dec_snoc]
    have h := digb_dec n (v / 10)
    unfold digb at h
    rw [h, UInt8.toNat_ofNat', Nat.mod_eq_of_lt (a := 48 + v % 10) (by omega), Nat.pow_succ, Nat.mul_comm (10 ^ n), Nat.mod_mul]
    omega
theorem digb_len (n v : Nat) : (digb n v).length = n := by unfold digb; rw [List.length_map, digs_len]
/-- Zero padded digits without the zeros are the numeral. -/
theorem digb_strip {n v : Nat} (h0 : 0 < v) (h : v < 10 ^ n) : (digb n v).dropWhile (· == 48) = Lib.decDigits v := by
  have h1 := digb_dec n v
  rw [Nat.mod_eq_of_lt h] at h1
  have := dd_strip (digb_dig n v) (by rw [h1]; exact h0)
  rw [this, h1]
end Go.Big
namespace Go.Proofs.YtekghemhccfhkaaGreatDoor
open Go.RowKit Go.Big
theorem run_sub (x y c : Nat) (hc : c ≤ 1) (w : World) :
    (callFunc 223 #[.int .u64 x, .int .u64 y, .int .u64 c]).run Tryz.prog w =
      .ok (.value (.tuple #[.int .u64 (subLo x y c), .int .u64 (subHi x y c)])) w := by
  rw [run_callFunc_extern Tryz.func223 (by kernel_rfl) (by kernel_rfl) (by kernel_rfl) (e := Proofs.sub64Entry) (by kernel_rfl), Proofs.run_sub64 x y c hc]
  rfl
theorem run_sub0 (x c : Nat) (hc : c ≤ 1) (w : World) :
    (callFunc 223 #[.int .u64 x, .int .u64 0, .int .u64 c]).run Tryz.prog w =
      .ok (.value (.tuple #[.int .u64 (subLo x 0 c), .int .u64 (subHi x 0 c)])) w := run_sub x 0 c hc w

def SubPost (w : World) (g : Nat) (pre a post b : List Nat) (e : Ending) (w' : World) : Prop :=
  ∃ (cur : List Nat) (c : Nat), e = .returned (.int .u64 c) ∧ w' = wput w g .u64 (pre ++ (cur ++ post)) ∧ Subbed a b cur c

set_option maxRecDepth 100000 in
set_option maxHeartbeats 400000 in
theorem subFrom_any (g capa capb : Nat) (bo : Option Addr) (pre a post b : List Nat) (w : World)
    (hg : isRow w g 71 .u64 (pre ++ (a ++ post))) (ha : Wd B64 a) (hbw : Wd B64 b) (hb : SlA w .u64 bo capb b) (hne : b ≠ [] → ∀ p, bo = some p → p.block ≠ g)
    (hl : b.length ≤ a.length) (hm : a.length ≤ 1099511627776) :
    Calls Tryz.prog 217 #[.slice (some ⟨g, pre.length, none⟩) a.length capa, .slice bo b.length capb] w (SubPost w g pre a post b) := by
  go_enter Tryz.func217, Tryz.ntmps217
  go_wp2
  go_loopw [5, 11] (fun c i wr => ∃ (k cn : Nat) (cur : List Nat), k ≤ b.length ∧ i = .int .i64 k ∧ c = .int .u64 cn ∧ SubInv a b k cur cn ∧ wr = wput w g .u64 (pre ++ (cur ++ post)))
    (fun _ i _ => b.length - (intOf i).toNat)
  case atStart => exact ⟨0, 0, a, Nat.zero_le _, rfl, rfl, SubInv.start b ha, (put_self hg).symm⟩
  case round =>
    obtain ⟨k, cn, cur, hk, rfl, rfl, hinv, rfl⟩ := hrel
    have hcn := hinv.carry
    have HL : Hid (cur.length = a.length) := hinv.len
    by_cases hlt : k < b.length
    · obtain ⟨gb, offb, rfl, _, hbc⟩ := hb.at hlt
      have hgb : gb ≠ g := hne (by intro e; simp [e] at hlt) _ rfl
      have hcb : (wput w g .u64 (pre ++ (cur ++ post))).cell? ⟨gb, offb + k, none⟩ = some (.int .u64 (nth b k)) := by rw [put_other _ _ _ hgb]; exact hbc k hlt
      have hca : (wput w g .u64 (pre ++ (cur ++ post))).cell? ⟨g, pre.length + k, none⟩ = some (.int .u64 (nth cur k)) := by
        rw [(hg.put _).cell (by have := HL.out; simp; omega), nth_mid _ _ _ _ (by have := HL.out; omega)]
      have hfr : (wput w g .u64 (pre ++ (cur ++ post))).frozen? ⟨g, pre.length + k, none⟩ = false := (hg.put _).frozen _
      have hadd := run_sub (nth cur k) (nth b k) cn hcn (wput w g .u64 (pre ++ (cur ++ post)))
      generalize hW : wput w g .u64 (pre ++ (cur ++ post)) = W at *
      have HW := Lib.hid hW
      clear hW hb hbc hgb hne
      go_wp2_with fail
      go_roundw
      case rel => exact ⟨k + 1, _, cur.set k (subLo (nth cur k) (nth b k) cn), by omega, by go_num, rfl, hinv.step (by omega) hlt hbw, by rw [← HW.out, put_store hg, set_mid _ _ _ _ _ (by have := HL.out; omega)]⟩
      case measure => simp [intOf]; omega
    · have hkb : k = b.length := by omega
      subst hkb
      clear hb hne
      go_wp2_with fail
      go_loopw [5, 8] (fun c i wr => ∃ (k cn : Nat) (cur : List Nat), b.length ≤ k ∧ k ≤ a.length ∧ i = .int .i64 k ∧ c = .int .u64 cn ∧ SubInv a b k cur cn ∧ wr = wput w g .u64 (pre ++ (cur ++ post)))
        (fun _ i _ => a.length - (intOf i).toNat)
      case atStart => exact ⟨b.length, cn, cur, Nat.le_refl _, hl, rfl, rfl, hinv, rfl⟩
      case round =>
        clear hinv HL hcn
        obtain ⟨k, cn, cur, hk, hka, rfl, rfl, hinv, rfl⟩ := hrel
        have hcn := hinv.carry
        have HL : Hid (cur.length = a.length) := hinv.len
        by_cases hlt : k < a.length
        · have hca : (wput w g .u64 (pre ++ (cur ++ post))).cell? ⟨g, pre.length + k, none⟩ = some (.int .u64 (nth cur k)) := by
            rw [(hg.put _).cell (by have := HL.out; simp; omega), nth_mid _ _ _ _ (by have := HL.out; omega)]
          have hfr : (wput w g .u64 (pre ++ (cur ++ post))).frozen? ⟨g, pre.length + k, none⟩ = false := (hg.put _).frozen _
          have hadd := run_sub0 (nth cur k) cn hcn (wput w g .u64 (pre ++ (cur ++ post)))
          generalize hW : wput w g .u64 (pre ++ (cur ++ post)) = W at *
          have HW := Lib.hid hW
          clear hW
          by_cases hz : cn = 0
          · subst hz
            go_wp2_with fail
            go_ret
            exact ⟨cur, 0, rfl, HW.out.symm, hinv.done hk hka (.inr rfl)⟩
          · have hz' : ((cn : Int) != 0) = true := by rw [bne_iff_ne]; omega
            go_wp2_with fail
            go_roundw
            case rel => exact ⟨k + 1, _, cur.set k (subLo (nth cur k) 0 cn), by omega, by omega, by go_num, rfl, hinv.step0 hlt hk, by rw [← HW.out, put_store hg, set_mid _ _ _ _ _ (by have := HL.out; omega)]⟩
            case measure => simp [intOf]; omega
        · go_wp2_with fail
          go_ret
          exact ⟨cur, cn, rfl, rfl, hinv.done hk hka (.inl hlt)⟩
end Go.Proofs.YtekghemhccfhkaaGreatDoor
namespace Go.Big
/-- How many of the first k words are left when the leading zeros are gone. -/
def tl (l : List Nat) : Nat → Nat
  | 0 => 0
  | k + 1 => if nth l k = 0 then tl l k else k + 1
theorem tl_le (l : List Nat) : ∀ k, tl l k ≤ k
  | 0 => Nat.le_refl _
  | k + 1 => by
    unfold tl
    split
    · have := tl_le l k; omega
    · exact Nat.le_refl _
theorem tl_val (B : Nat) (l : List Nat) : ∀ k, k ≤ l.length → val B (l.take (tl l k)) = val B (l.take k)
  | 0, _ => rfl
  | k + 1, h => by
    unfold tl
    split
    · rename_i hz
      rw [tl_val B l k (by omega), val_take_of_zero (by omega) hz]
    · rfl
theorem tl_Nz (l : List Nat) : ∀ k, k ≤ l.length → Nz (l.take (tl l k))
  | 0, _ => by simp [tl, Nz]
  | k + 1, h => by
    unfold tl
    split
    · exact tl_Nz l k (by omega)
    · rename_i hz
      exact Nz_of_nth (fun _ => by rw [List.length_take, Nat.min_eq_left h]; simp only [Nat.add_sub_cancel]; rw [nth_take (by omega)]; exact hz)
end Go.Big
namespace Go.Proofs.YtekghemhccfhkaaGreatDoor
open Go.RowKit Go.Big
def TrimPost (w : World) (ao : Option Addr) (cap : Nat) (l : List Nat) (e : Ending) (w' : World) : Prop :=
  ∃ n, n ≤ l.length ∧ e = .returned (.slice ao n cap) ∧ w' = w ∧ Nz (l.take n) ∧ ∀ B, val B (l.take n) = val B l

set_option maxRecDepth 100000 in
set_option maxHeartbeats 400000 in
theorem trim_det (ao : Option Addr) (cap : Nat) (l : List Nat) (w : World) (h : SlA w .u64 ao cap l) :
    Calls Tryz.prog 174 #[.slice ao l.length cap] w fun e w' => e = .returned (.slice ao (tl l l.length) cap) ∧ w' = w := by
  have hle := h.le
  have hmax := h.max
  go_enter Tryz.func174, Tryz.ntmps174
  go_wp2
  go_loop [0] (fun v => ∃ k : Nat, k ≤ l.length ∧ v = .slice ao k cap ∧ tl l k = tl l l.length) (fun v => match v with | .slice _ n _ => n | _ => 0)
  case atStart => exact ⟨l.length, Nat.le_refl _, rfl, rfl⟩
  case round =>
    obtain ⟨k, hk, rfl, hv⟩ := hrel
    have HV := Lib.hid hv
    clear hv
    rcases Nat.eq_zero_or_pos k with hk0 | hpos
    · subst hk0
      clear h
      go_wp2_with fail
      go_ret
      exact ⟨by rw [← HV.out]; rfl, rfl⟩
    · obtain ⟨m, rfl⟩ : ∃ m, k = m + 1 := ⟨k - 1, by omega⟩
      obtain ⟨b, off, rfl, _, hc⟩ := h.at (i := m) (by omega)
      have hcm := hc m (by omega)
      have H := Lib.hid h
      clear h hc hpos
      by_cases hz : nth l m = 0
      · have hT : Hid (tl l (m + 1) = tl l m) := by show tl l (m + 1) = tl l m; simp [tl, hz]
        rw [hz] at hcm
        clear hz
        go_wp2_with fail
        go_round
        case rel => exact ⟨m, by omega, by go_num, by rw [← HV.out, hT.out]⟩
        case measure => simp
      · have hz' : ((nth l m : Int) == 0) = false := by rw [beq_eq_false_iff_ne]; omega
        have hT : Hid (tl l (m + 1) = m + 1) := by show tl l (m + 1) = m + 1; simp [tl, hz]
        clear hz
        go_wp2_with fail
        go_ret
        exact ⟨by rw [← HV.out, hT.out]; rfl, rfl⟩
theorem trim_any (ao : Option Addr) (cap : Nat) (l : List Nat) (w : World) (h : SlA w .u64 ao cap l) :
    Calls Tryz.prog 174 #[.slice ao l.length cap] w (TrimPost w ao cap l) := by
  refine (trim_det ao cap l w h).mono ?_
  rintro e w' ⟨rfl, rfl⟩
  exact ⟨_, tl_le _ _, rfl, rfl, tl_Nz _ _ (Nat.le_refl _), fun B => by rw [tl_val B l _ (Nat.le_refl _), List.take_length]⟩
end Go.Proofs.YtekghemhccfhkaaGreatDoor
namespace Go.Proofs.YtekghemhccfhkaaGreatDoor
open Go.RowKit Go.Big
theorem ret_i {k : IntKind} {a b : Int} (h : a = b) : Ending.returned (.int k a) = .returned (.int k b) := by rw [h]
theorem addTo_at {g capa capb n off nb : Nat} {bo : Option Addr} {pre a post b : List Nat} {w : World}
    (hg : isRow w g 71 .u64 (pre ++ (a ++ post))) (ha : Wd B64 a) (hbw : Wd B64 b) (hb : SlA w .u64 bo capb b) (hne : b ≠ [] → ∀ p, bo = some p → p.block ≠ g)
    (hl : b.length ≤ a.length) (hm : a.length ≤ 1099511627776) (hn : a.length = n) (ho : pre.length = off) (hnb : b.length = nb) :
    Calls Tryz.prog 213 #[.slice (some ⟨g, off, none⟩) n capa, .slice bo nb capb] w (AddPost w g pre a post b) := by
  subst hn ho hnb; exact addTo_any g capa capb bo pre a post b w hg ha hbw hb hne hl hm
theorem subFrom_at {g capa capb n off nb : Nat} {bo : Option Addr} {pre a post b : List Nat} {w : World}
    (hg : isRow w g 71 .u64 (pre ++ (a ++ post))) (ha : Wd B64 a) (hbw : Wd B64 b) (hb : SlA w .u64 bo capb b) (hne : b ≠ [] → ∀ p, bo = some p → p.block ≠ g)
    (hl : b.length ≤ a.length) (hm : a.length ≤ 1099511627776) (hn : a.length = n) (ho : pre.length = off) (hnb : b.length = nb) :
    Calls Tryz.prog 217 #[.slice (some ⟨g, off, none⟩) n capa, .slice bo nb capb] w (SubPost w g pre a post b) := by
  subst hn ho hnb; exact subFrom_any g capa capb bo pre a post b w hg ha hbw hb hne hl hm
theorem trim_at {ao : Option Addr} {cap n : Nat} {l : List Nat} {w : World} (h : SlA w .u64 ao cap l) (hn : l.length = n) :
    Calls Tryz.prog 174 #[.slice ao n cap] w (TrimPost w ao cap l) := by
  subst hn; exact trim_any ao cap l w h
theorem trim_det_at {ao : Option Addr} {cap n : Nat} {l : List Nat} {w : World} (h : SlA w .u64 ao cap l) (hn : l.length = n) :
    Calls Tryz.prog 174 #[.slice ao n cap] w fun e w' => e = .returned (.slice ao (tl l n) cap) ∧ w' = w := by
  subst hn; exact trim_det ao cap l w h
theorem natv_trim {ao : Option Addr} {cap n m : Nat} {l : List Nat} {w : World} (h : SlA w .u64 ao cap l) (hw : Wd B64 l) (hn : l.length = n) (hv : val B64 l = m) : NatV w .u64 B64 (.slice ao (tl l n) cap) m := by
  subst hn
  have := NatV.mk h hw (tl_le l l.length) (tl_Nz l _ (Nat.le_refl _))
  rwa [tl_val B64 l _ (Nat.le_refl _), List.take_length, hv] at this
/-- 'make(natural, x)'. -/
theorem mk64 (x : Int) (n : Nat) (hx : x = n) (hn : n ≤ 1099511627776) (w : World) :
    (Instr.makeSlice 108 (.int .i64 x) (.int .i64 x)).run Tryz.prog w = .ok (.slice (some ⟨w.heap.size, 0, none⟩) n n) (w.alloc (.cells (cellsOf .u64 (zeros n)) 71)) :=
  run_mk 108 71 .u64 Tryz.underlying108 8 (by kernel_rfl) (by decide) x n hx hn w
theorem copy64 {w : World} {g : Nat} {L l : List Nat} {off dLen dCap cap : Nat} {so : Option Addr} (hg : isRow w g 71 .u64 L) (hl : SlA w .u64 so cap l) (h1 : l.length ≤ dLen) (h2 : off + dLen ≤ L.length) (ty : TypeId) :
    (Builtin.copy_ #[108, 108] ty #[.slice (some ⟨g, off, none⟩) dLen dCap, .slice so l.length cap]).run Tryz.prog w = .ok (goInt l.length) (wput w g .u64 (L.take off ++ (l ++ L.drop (off + l.length)))) :=
  run_copy 108 108 ty 71 Tryz.underlying108 (by kernel_rfl) hg hl h1 h2
theorem SlA.blk {w : World} {k : IntKind} {ao : Option Addr} {cap : Nat} {l : List Nat} (h : SlA w k ao cap l) (hl : l ≠ []) : ∀ p, ao = some p → p.block < w.heap.size := by
  intro p hp
  obtain ⟨b, off, e, hlt, _⟩ := h.cells hl
  rw [hp] at e
  cases e
  exact hlt
end Go.Proofs.YtekghemhccfhkaaGreatDoor
