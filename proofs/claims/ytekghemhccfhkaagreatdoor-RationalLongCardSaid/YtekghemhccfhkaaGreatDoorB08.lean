/-
  Walks of the program's functions: WChunk, Digs.
-/
import Derived.Test.YtekghemhccfhkaaGreatDoorB07
import Derived.Test.YtekghemhccfhkaaGreatDoorB04
import Derived.Deep.LoopGhost
namespace Go.Big
open Go
/-- The last n decimal digits, as bytes. -/
def digs : Nat → Nat → List Nat
  | 0, _ => []
  | n + 1, v => digs n (v / 10) ++ [48 + v % 10]
theorem digs_len : ∀ (n v : Nat), (digs n v).length = n
  | 0, _ => rfl
  | n + 1, v => by simp [digs, digs_len n]
theorem run_rem10 (x : Nat) : Op.intDiv .rem .u64 (x : Int) 10 = pure (.int .u64 (x % 10 : Nat)) := run_remW x 10 (by decide)
theorem run_quo10 (x : Nat) : Op.intDiv .quo .u64 (x : Int) 10 = pure (.int .u64 (quoW x 10 : Nat)) := run_quoW x 10 (by decide)
theorem run_48add (x : Nat) : Op.intArith .add .u64 48 (x : Int) = pure (.int .u64 (addW 48 x : Nat)) := run_addW 48 x
attribute [go_sem ↓] run_rem10 run_quo10 run_48add
theorem take_set_mid {cur tail : List Nat} {j d : Nat} (h : j < cur.length) : (cur.take (j + 1) ++ tail).set j d = cur.take j ++ d :: tail := by
  rw [List.take_succ_eq_append_getElem h, List.append_assoc, List.set_append_right _ _ (by rw [List.length_take]; omega), List.length_take, Nat.min_eq_left (by omega), Nat.sub_self]
  rfl
end Go.Big
namespace Go.Proofs.YtekghemhccfhkaaGreatDoor
open Go.RowKit Go.Big
def WcRel (w : World) (g v : Nat) (pre cur post : List Nat) (j : Nat) (x y : Value) (wr : World) : Prop :=
  ∃ (u : Nat) (tail : List Nat), x = .int .u64 u ∧ u < 18446744073709551616 ∧ j ≤ cur.length ∧ (j = 0 ∧ y = .int .i64 (-1) ∨ ∃ j', j = j' + 1 ∧ y = .int .i64 (j' : Nat)) ∧
    tail.length = cur.length - j ∧ digs cur.length v = digs j u ++ tail ∧ wr = wput w g .u8 (pre ++ ((cur.take j ++ tail) ++ post))
theorem wc_index {j : Nat} : (j = 0 ∧ Value.int .i64 ((j : Int) - 1) = .int .i64 (-1) ∨ ∃ j', j = j' + 1 ∧ Value.int .i64 ((j : Int) - 1) = .int .i64 (j' : Nat)) := by
  rcases Nat.eq_zero_or_pos j with h | h
  · subst h; exact .inl ⟨rfl, rfl⟩
  · exact .inr ⟨j - 1, by omega, by congr 1; omega⟩
set_option maxRecDepth 100000 in
set_option maxHeartbeats 1000000 in
/-- writeChunk -/
theorem writeChunk_any {w : World} {g cap v : Nat} {t : TypeId} {pre cur post : List Nat} (hg : isRow w g t .u8 (pre ++ (cur ++ post))) (hv : v < 18446744073709551616) (hl : cur.length ≤ 1099511627776) :
    Calls Tryz.prog 172 #[.slice (some ⟨g, pre.length, none⟩) cur.length cap, .int .u64 v] w fun e w' => e = .returned (.tuple #[]) ∧ w' = wput w g .u8 (pre ++ (digs cur.length v ++ post)) := by
  have hself : w = wput w g .u8 (pre ++ (cur ++ post)) := (put_self hg).symm
  have HS := Lib.hid hself
  have HG := Lib.hid hg
  have HV := Lib.hid hv
  clear hself hg hv
  go_enter Tryz.func172, Tryz.ntmps172
  go_wp2_with fail
  go_loopg [1, 4] cur.length (fun j x y wr => WcRel w g v pre cur post j x y wr)
  case atStart => exact ⟨v, [], rfl, HV.out, Nat.le_refl _, wc_index, by simp, by simp, by rw [List.take_of_length_le (Nat.le_refl _), List.append_nil]; exact HS.out⟩
  case round =>
    clear HS HV
    obtain ⟨u, tail, rfl, hu, hj, hi, ht, hd, rfl⟩ := hrel
    rcases hi with ⟨rfl, rfl⟩ | ⟨j', rfl, rfl⟩
    · have hd' : tail = digs cur.length v := by rw [hd]; rfl
      have HD := Lib.hid hd'
      clear hd hd' ht hj hu
      go_wp2_with fail
      go_end0
      exact ⟨rfl, by rw [← HD.out]⟩
    · have e1 : addW 48 (u % 10) = 48 + u % 10 := addW_lt' (by omega)
      have e2 : IntKind.u8.wrap ((48 + u % 10 : Nat) : Int) = ((48 + u % 10 : Nat) : Int) := by
        rw [IntKind.wrap_u8]; omega
      obtain ⟨d, hd0⟩ : ∃ d, 48 + u % 10 = d := ⟨_, rfl⟩
      rw [hd0] at e1 e2
      have e3 : quoW u 10 = u / 10 := Nat.mod_eq_of_lt (by omega)
      have hlen : (cur.take (j' + 1) ++ tail).length = cur.length := by rw [List.length_append, List.length_take, ht]; omega
      have hfr : (wput w g .u8 (pre ++ ((cur.take (j' + 1) ++ tail) ++ post))).frozen? ⟨g, pre.length + j', none⟩ = false := (HG.out.put _).frozen _
      have hca : (wput w g .u8 (pre ++ ((cur.take (j' + 1) ++ tail) ++ post))).cell? ⟨g, pre.length + j', none⟩ = some (.int .u8 (nth (cur.take (j' + 1) ++ tail) j')) := by
        rw [(HG.out.put _).cell (by simp; omega), nth_mid _ _ _ _ (by omega)]
      have hst : (wput w g .u8 (pre ++ ((cur.take (j' + 1) ++ tail) ++ post))).setCell ⟨g, pre.length + j', none⟩ (.int .u8 (d : Int)) = wput w g .u8 (pre ++ ((cur.take j' ++ (d :: tail)) ++ post)) := by
        rw [put_store HG.out, set_mid _ _ _ _ _ (by omega), take_set_mid (by omega)]
      have hdd : digs cur.length v = digs j' (u / 10) ++ (d :: tail) := by rw [hd, digs, hd0]; simp
      have HST := Lib.hid hst
      have HDI := Lib.hid (show 48 + (u : Int) % 10 = (d : Int) by omega)
      have HDD := Lib.hid hdd
      have HT := Lib.hid ht
      clear hst hdd hd hd0 hlen ht
      generalize wput w g .u8 (pre ++ ((cur.take (j' + 1) ++ tail) ++ post)) = W at *
      go_wp2_with fail
      go_roundg j'
      case rel => exact ⟨u / 10, d :: tail, rfl, by omega, by omega, wc_index, by rw [List.length_cons, HT.out]; omega, HDD.out, by rw [HDI.out]; exact HST.out⟩
      case measure => omega
end Go.Proofs.YtekghemhccfhkaaGreatDoor
namespace Go.Big
open Go
theorem digs_add : ∀ (b a v : Nat), digs (a + b) v = digs a (v / 10 ^ b) ++ digs b v
  | 0, a, v => by simp [digs]
  | b + 1, a, v => by
    rw [← Nat.add_assoc]
    simp only [digs]
    rw [digs_add b a, Nat.pow_succ, Nat.mul_comm, ← Nat.div_div_eq_div_mul, List.append_assoc]
theorem digs_mod : ∀ (b c v : Nat), b ≤ c → digs b (v % 10 ^ c) = digs b v
  | 0, _, _, _ => rfl
  | b + 1, c, v, h => by
    simp only [digs]
    obtain ⟨d, rfl⟩ : ∃ d, c = d + 1 := ⟨c - 1, by omega⟩
    have e1 : v % 10 ^ (d + 1) % 10 = v % 10 := by
      rw [Nat.pow_succ]
      exact Nat.mod_mod_of_dvd _ (Nat.dvd_mul_left _ _)
    have e2 : v % 10 ^ (d + 1) / 10 = v / 10 % 10 ^ d := by
      rw [Nat.pow_succ, Nat.mul_comm, Nat.mod_mul_right_div_self]
    rw [e1, e2, digs_mod b d (v / 10) (by omega)]
/-- The digits as bytes. -/
def digb (n v : Nat) : List UInt8 := (digs n v).map UInt8.ofNat
theorem digs_range (n v : Nat) : ∀ x ∈ digs n v, 48 ≤ x ∧ x ≤ 57 := by
  induction n generalizing v with
  | zero => intro x hx; simp [digs] at hx
  | succ n ih =>
    intro x hx
    simp only [digs] at hx
    rcases List.mem_append.1 hx with h | h
    · exact ih _ x h
    · rw [List.mem_singleton.1 h]; omega
theorem digb_dig (n v : Nat) : Dig (digb n v) := by
  intro b hb
  obtain ⟨x, hx, rfl⟩ := List.mem_map.1 hb
  have := digs_range n v x hx
  rw [UInt8.toNat_ofNat', Nat.mod_eq_of_lt (by omega)]; exact this
theorem digb_dec : ∀ (n v : Nat), dec (digb n v) = v % 10 ^ n
  | 0, v => by simp [digb, digs, dec, Nat.mod_one]
  | n + 1, v => by
    unfold digb
    simp only [digs, List.map_append, List.map_cons, List.map_nil]
    rw [dec_snoc]
    have h := digb_dec n (v / 10)
    unfold digb at h
    rw [h, UInt8.toNat_ofNat', Nat.mod_eq_of_lt (a := 48 + v % 10) (by omega), Nat.pow_succ, Nat.mul_comm (10 ^ n), Nat.mod_mul]
    omega
theorem digb_len (n v : Nat) : (digb n v).length = n := by unfold digb; rw [List.length_map, digs_len]
/-- Zero padded digits without the zeros are the numeral. -/
theorem digb_strip {n v : Nat} (h0 : 0 < v) (h : v < 10 ^ n) : (digb n v).dropWhile (· == 48) = Lib.decDigits v := by
  have h1 := digb_dec n v
  rw [Nat.mod_eq_of_lt h] at h1
  have := dd_strip (digb_dig n v) (by rw [h1]; exact h0)
  rw [this, h1]
end Go.Big
