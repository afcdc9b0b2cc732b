/-
  Walks of the program's functions: MulMath, RcMath, AddProd, Scale, ShMath, DivMath.
-/
import Derived.Test.YtekghemhccfhkaaGreatDoorB02
import Derived.Test.YtekghemhccfhkaaGreatDoorB01
import Derived.Test.YtekghemhccfhkaaGreatDoorB03
import Derived.Test.YtekghemhccfhkaaGreatDoorShelf
import Derived.Lib.ItoaNum
namespace Go.Big
open Go Go.RowKit
def mulHi (x y : Nat) : Nat := x * y / 18446744073709551616
def mulLo (x y : Nat) : Nat := x * y % 18446744073709551616
theorem mulLo_lt (x y : Nat) : mulLo x y < 18446744073709551616 := Nat.mod_lt _ (by decide)
theorem mul_le {x y : Nat} (hx : x < 18446744073709551616) (hy : y < 18446744073709551616) : x * y ≤ 340282366920938463426481119284349108225 :=
  Nat.le_trans (Nat.mul_le_mul (Nat.le_sub_one_of_lt hx) (Nat.le_sub_one_of_lt hy)) (by decide)
theorem mulHi_lt {x y : Nat} (hx : x < 18446744073709551616) (hy : y < 18446744073709551616) : mulHi x y < 18446744073709551615 := by
  have := mul_le hx hy
  unfold mulHi; omega
theorem mul_eq (x y : Nat) : mulLo x y + 18446744073709551616 * mulHi x y = x * y := by unfold mulLo mulHi; omega

/-- v * w + carry: the low word, the high word. -/
def mcLo (v w c : Nat) : Nat := addLo (mulLo v w) c 0
def mcHi (v w c : Nat) : Nat := addLo (mulHi v w) 0 (addHi (mulLo v w) c 0)
theorem mc_eq {v w c : Nat} (hv : v < 18446744073709551616) (hw : w < 18446744073709551616) (hc : c < 18446744073709551616) :
    mcLo v w c + 18446744073709551616 * mcHi v w c = v * w + c := by
  have h := mul_le hv hw
  unfold mcLo mcHi addLo addHi mulLo mulHi
  generalize v * w = p at *
  omega
theorem mcLo_lt (v w c : Nat) : mcLo v w c < 18446744073709551616 := addLo_lt _ _ _
theorem mcHi_lt (v w c : Nat) : mcHi v w c < 18446744073709551616 := addLo_lt _ _ _
/-- s + v * w + carry: the carry behind it. -/
def maHi (s v w c : Nat) : Nat := addLo (mcHi v w c) 0 (addHi s (mcLo v w c) 0)
theorem ma_eq {s v w c : Nat} (hs : s < 18446744073709551616) (hv : v < 18446744073709551616) (hw : w < 18446744073709551616) (hc : c < 18446744073709551616) :
    addLo s (mcLo v w c) 0 + 18446744073709551616 * maHi s v w c = s + v * w + c := by
  have h := mul_le hv hw
  have e := mc_eq hv hw hc
  have h1 := mcLo_lt v w c
  unfold maHi
  generalize mcLo v w c = a at *
  generalize mcHi v w c = b at *
  generalize v * w = p at *
  unfold addLo addHi
  omega
/-- s - (v * w + carry): the carry behind it. -/
def msHi (s v w c : Nat) : Nat := addLo (mcHi v w c) 0 (subHi s (mcLo v w c) 0)
theorem ms_eq {s v w c : Nat} (hs : s < 18446744073709551616) (hv : v < 18446744073709551616) (hw : w < 18446744073709551616) (hc : c < 18446744073709551616) :
    subLo s (mcLo v w c) 0 + v * w + c = s + 18446744073709551616 * msHi s v w c := by
  have h := mul_le hv hw
  have e := mc_eq hv hw hc
  have h1 := mcLo_lt v w c
  unfold msHi
  generalize mcLo v w c = a at *
  generalize mcHi v w c = b at *
  generalize v * w = p at *
  unfold addLo subHi subLo
  split <;> omega

structure MacInv (s0 a : List Nat) (w i : Nat) (cur : List Nat) (c : Nat) : Prop where
  len : cur.length = s0.length
  wd : Wd B64 cur
  carry : c < 18446744073709551616
  rest : cur.drop i = s0.drop i
  eq : val B64 (cur.take i) + c * B64 ^ i = val B64 (s0.take i) + w * val B64 (a.take i)
theorem MacInv.start {s0 : List Nat} (a : List Nat) (w : Nat) (h : Wd B64 s0) : MacInv s0 a w 0 s0 0 := ⟨rfl, h, by decide, rfl, by simp [val]⟩
theorem MacInv.step {s0 a cur : List Nat} {w i c : Nat} (h : MacInv s0 a w i cur c) (hi : i < s0.length) (hia : i < a.length) (wa : Wd B64 a) (hw : w < 18446744073709551616) :
    MacInv s0 a w (i + 1) (cur.set i (addLo (nth cur i) (mcLo (nth a i) w c) 0)) (maHi (nth cur i) (nth a i) w c) := by
  have hic : i < cur.length := by rw [h.len]; exact hi
  have hv := wa.nth hia
  refine ⟨by rw [List.length_set, h.len], h.wd.set (addLo_lt _ _ _), addLo_lt _ _ _, by rw [drop_set_succ, drop_succ_of h.rest], ?_⟩
  rw [set_take_val B64 cur i _ hic, take_val_nth B64 s0 i hi, take_val_nth B64 a i hia]
  have e1 := h.eq
  have e2 := ma_eq (s := nth cur i) (h.wd.nth hic) hv hw h.carry
  rw [nth_drop h.rest] at e2 ⊢
  rw [Nat.pow_succ]
  grind
theorem MacInv.done {s0 a cur : List Nat} {w c : Nat} (h : MacInv s0 a w a.length cur c) (hl : s0.length = a.length) : val B64 cur + c * B64 ^ a.length = val B64 s0 + w * val B64 a := by
  have e := h.eq
  rwa [List.take_of_length_le (by rw [h.len]; omega), List.take_of_length_le (by omega), List.take_length] at e

/-- The same in place: a * w. -/
structure ScInv (a : List Nat) (w i : Nat) (cur : List Nat) (c : Nat) : Prop where
  len : cur.length = a.length
  wd : Wd B64 cur
  carry : c < 18446744073709551616
  rest : cur.drop i = a.drop i
  eq : val B64 (cur.take i) + c * B64 ^ i = w * val B64 (a.take i)
theorem ScInv.start {a : List Nat} (w : Nat) (h : Wd B64 a) : ScInv a w 0 a 0 := ⟨rfl, h, by decide, rfl, by simp [val]⟩
theorem ScInv.step {a cur : List Nat} {w i c : Nat} (h : ScInv a w i cur c) (hia : i < a.length) (wa : Wd B64 a) (hw : w < 18446744073709551616) :
    ScInv a w (i + 1) (cur.set i (mcLo (nth cur i) w c)) (mcHi (nth cur i) w c) := by
  have hic : i < cur.length := by rw [h.len]; exact hia
  have hv := wa.nth hia
  refine ⟨by rw [List.length_set, h.len], h.wd.set (mcLo_lt _ _ _), mcHi_lt _ _ _, by rw [drop_set_succ, drop_succ_of h.rest], ?_⟩
  rw [set_take_val B64 cur i _ hic, take_val_nth B64 a i hia]
  have e1 := h.eq
  have e2 := mc_eq (v := nth cur i) (h.wd.nth hic) hw h.carry
  rw [nth_drop h.rest] at e2 ⊢
  rw [Nat.pow_succ]
  grind
theorem ScInv.done {a cur : List Nat} {w c : Nat} (h : ScInv a w a.length cur c) : val B64 cur + c * B64 ^ a.length = w * val B64 a := by
  have e := h.eq
  rwa [List.take_of_length_le (by rw [h.len]; omega), List.take_length] at e

structure MsInv (s0 a : List Nat) (w i : Nat) (cur : List Nat) (c : Nat) : Prop where
  len : cur.length = s0.length
  wd : Wd B64 cur
  carry : c < 18446744073709551616
  rest : cur.drop i = s0.drop i
  eq : val B64 (cur.take i) + w * val B64 (a.take i) = val B64 (s0.take i) + c * B64 ^ i
theorem MsInv.start {s0 : List Nat} (a : List Nat) (w : Nat) (h : Wd B64 s0) : MsInv s0 a w 0 s0 0 := ⟨rfl, h, by decide, rfl, by simp [val]⟩
theorem MsInv.step {s0 a cur : List Nat} {w i c : Nat} (h : MsInv s0 a w i cur c) (hi : i < s0.length) (hia : i < a.length) (wa : Wd B64 a) (hw : w < 18446744073709551616) :
    MsInv s0 a w (i + 1) (cur.set i (subLo (nth cur i) (mcLo (nth a i) w c) 0)) (msHi (nth cur i) (nth a i) w c) := by
  have hic : i < cur.length := by rw [h.len]; exact hi
  have hv := wa.nth hia
  refine ⟨by rw [List.length_set, h.len], h.wd.set (subLo_lt _ _ _), addLo_lt _ _ _, by rw [drop_set_succ, drop_succ_of h.rest], ?_⟩
  rw [set_take_val B64 cur i _ hic, take_val_nth B64 s0 i hi, take_val_nth B64 a i hia]
  have e1 := h.eq
  have e2 := ms_eq (s := nth cur i) (h.wd.nth hic) hv hw h.carry
  rw [nth_drop h.rest] at e2 ⊢
  rw [Nat.pow_succ]
  grind
/-- The last word takes the carry. -/
theorem MsInv.done {s0 a cur : List Nat} {w c : Nat} (h : MsInv s0 a w a.length cur c) (hl : s0.length = a.length + 1) :
    val B64 (cur.set a.length (subLo (nth cur a.length) c 0)) + w * val B64 a = val B64 s0 + subHi (nth cur a.length) c 0 * B64 ^ s0.length := by
  have hic : a.length < cur.length := by rw [h.len]; omega
  have e := h.eq
  rw [List.take_length] at e
  have e2 := sub_eq (x := nth cur a.length) (y := c) (c := 0) (h.wd.nth hic) h.carry (by omega)
  have e3 := set_take_val B64 cur a.length (subLo (nth cur a.length) c 0) hic
  rw [List.take_of_length_le (by rw [List.length_set, h.len]; omega)] at e3
  have e4 := take_val_nth B64 s0 a.length (by omega)
  rw [List.take_of_length_le (by omega)] at e4
  rw [e3, e4, hl, Nat.pow_succ]
  rw [nth_drop h.rest] at e2 ⊢
  grind
end Go.Big
namespace Go.Big
open Go
structure RcInv (l p q : List UInt8) (A post : List Nat) (c : Nat) : Prop where
  app : l = p ++ q
  wd : Wd B64 A
  eq : val B64 A = dec p
  lenp : p.length ≤ 19 * A.length
  tot : A.length + post.length = c
  lenq : q.length ≤ 19 * post.length
  dv : p = [] ∨ q.length % 19 = 0
theorem RcInv.start (l : List UInt8) {c : Nat} (hc : l.length ≤ 19 * c) : RcInv l [] l [] (zeros c) c :=
  ⟨rfl, fun _ h => by simp at h, rfl, by simp, by simp [zeros], by simpa [zeros] using hc, .inl rfl⟩
theorem RcInv.step {l p q : List UInt8} {A cur cur2 post : List Nat} {c cc c2 x z : Nat} (h : RcInv l p q A (x :: post) c) (hd : Dig l) (hz : (q.length - 1) % 19 + 1 = z) (hq : q ≠ [])
    (hs : ScInv A 10000000000000000000 A.length cur cc) (ha : Added (cur ++ [cc]) [dec (q.take z)] cur2 c2) : RcInv l (p ++ q.take z) (q.drop z) cur2 post c := by
  have hql : 0 < q.length := List.length_pos_iff.2 hq
  have hl1 := hs.len
  have hl2 := ha.len
  rw [List.length_append, List.length_singleton] at hl2
  have htot := h.tot
  have hlenq := h.lenq
  have hlenp := h.lenp
  rw [List.length_cons] at htot hlenq
  have hzl : z ≤ q.length := by omega
  have htl : (q.take z).length = z := by rw [List.length_take]; omega
  have e1 := hs.eq
  rw [List.take_of_length_le (by omega), List.take_of_length_le (by omega)] at e1
  have e2 := ha.eq
  rw [val_append, List.length_append, List.length_singleton, hl1] at e2
  simp only [val, Nat.mul_zero, Nat.add_zero] at e2
  have hdec : dec (p ++ q.take z) = 10000000000000000000 * dec p + dec (q.take z) := by
    rw [dec_append, htl]
    rcases h.dv with h1 | h1
    · rw [h1, dec_nil]; simp
    · have : z = 19 := by omega
      rw [this, Nat.mul_comm]
  have hlt : dec (p ++ q.take z) < B64 ^ (A.length + 1) := by
    have h1 := dec_lt (l := p ++ q.take z) (fun b hb => hd b (by
      rw [h.app]
      rcases List.mem_append.1 hb with h2 | h2
      · exact List.mem_append_left _ h2
      · exact List.mem_append_right _ (List.mem_of_mem_take h2)))
    rw [List.length_append, htl] at h1
    have h2 : 10 ^ (p.length + z) ≤ 10 ^ (19 * (A.length + 1)) := Nat.pow_le_pow_right (by decide) (by omega)
    have h3 : (10 ^ 19) ^ (A.length + 1) ≤ B64 ^ (A.length + 1) := Nat.pow_le_pow_left (by decide) _
    rw [← Nat.pow_mul] at h3
    omega
  have hval : val B64 cur2 + c2 * B64 ^ (A.length + 1) = dec (p ++ q.take z) := by
    rw [hdec, ← h.eq, e2, ← e1]
    grind
  have hc2 : c2 = 0 := by
    rcases Nat.eq_zero_or_pos c2 with h1 | h1
    · exact h1
    · have := Nat.le_mul_of_pos_left (B64 ^ (A.length + 1)) h1
      omega
  rw [hc2, Nat.zero_mul, Nat.add_zero] at hval
  refine ⟨by rw [List.append_assoc, List.take_append_drop]; exact h.app, ha.wd, hval, by rw [List.length_append, htl, hl2]; omega, by omega, by rw [List.length_drop]; omega, .inr (by rw [List.length_drop]; omega)⟩
end Go.Big
namespace Go.Proofs.YtekghemhccfhkaaGreatDoor
open Go.RowKit Go.Big
theorem mul_at (x y : Nat) (hx : x < 18446744073709551616) (hy : y < 18446744073709551616) (w : World) :
    Calls Tryz.prog 152 #[.int .u64 x, .int .u64 y] w fun e w' => e = .returned (.tuple #[.int .u64 (mulHi x y), .int .u64 (mulLo x y)]) ∧ w' = w :=
  Proofs.Tryz.bits_Mul64 x y hx hy w
theorem run_addc (x y : Nat) (w : World) :
    (callFunc 222 #[.int .u64 x, .int .u64 y, .int .u64 0]).run Tryz.prog w =
      .ok (.value (.tuple #[.int .u64 (addLo x y 0), .int .u64 (addHi x y 0)])) w := run_add x y 0 (by decide) w
theorem run_subc (x y : Nat) (w : World) :
    (callFunc 223 #[.int .u64 x, .int .u64 y, .int .u64 0]).run Tryz.prog w =
      .ok (.value (.tuple #[.int .u64 (subLo x y 0), .int .u64 (subHi x y 0)])) w := run_sub x y 0 (by decide) w

def MacPost (w : World) (g : Nat) (pre s0 post a : List Nat) (x : Nat) (e : Ending) (w' : World) : Prop :=
  ∃ (cur : List Nat) (c : Nat), e = .returned (.int .u64 c) ∧ w' = wput w g .u64 (pre ++ (cur ++ post)) ∧ MacInv s0 a x a.length cur c

set_option maxRecDepth 100000 in
set_option maxHeartbeats 1000000 in
theorem addProduct_at {g caps capa n off na : Nat} {ao : Option Addr} {pre s0 post a : List Nat} {x : Nat} {w : World}
    (hg : isRow w g 71 .u64 (pre ++ (s0 ++ post))) (hs : Wd B64 s0) (ha : Wd B64 a) (sa : SlA w .u64 ao capa a) (hne : a ≠ [] → ∀ p, ao = some p → p.block ≠ g) (hx : x < 18446744073709551616)
    (hl : s0.length = a.length) (hn : s0.length = n) (hcap : n ≤ caps) (ho : pre.length = off) (hna : a.length = na) :
    Calls Tryz.prog 212 #[.slice (some ⟨g, off, none⟩) n caps, .slice ao na capa, .int .u64 x] w (MacPost w g pre s0 post a x) := by
  subst hn ho hna
  have hm := sa.len_le
  have hsl : ∀ w, (Instr.slice 107 (.slice (some ⟨g, pre.length, none⟩) s0.length caps) none (some (.int .i64 (a.length : Int))) none).run Tryz.prog w = .ok (.slice (some ⟨g, pre.length, none⟩) a.length caps) w :=
    fun w => run_slice_to 107 71 Tryz.underlying107 (by kernel_rfl) _ _ _ _ (by omega) w
  go_enter Tryz.func212, Tryz.ntmps212
  go_wp2_with fail
  go_loopw [7, 19] (fun c i wr => ∃ (k cn : Nat) (cur : List Nat), k ≤ a.length ∧ i = .int .i64 k ∧ c = .int .u64 cn ∧ MacInv s0 a x k cur cn ∧ wr = wput w g .u64 (pre ++ (cur ++ post)))
    (fun _ i _ => a.length - (intOf i).toNat)
  case atStart => exact ⟨0, 0, s0, Nat.zero_le _, rfl, rfl, MacInv.start a x hs, (put_self hg).symm⟩
  case round =>
    clear hsl
    obtain ⟨k, cn, cur, hk, rfl, rfl, hinv, rfl⟩ := hrel
    have HL : Hid (cur.length = a.length) := hinv.len.trans hl
    have HLL := Lib.hid hl
    by_cases hlt : k < a.length
    · obtain ⟨gb, offb, rfl, _, hbc⟩ := sa.at hlt
      have hgb : gb ≠ g := hne (by intro e; simp [e] at hlt) _ rfl
      have hcb : (wput w g .u64 (pre ++ (cur ++ post))).cell? ⟨gb, offb + k, none⟩ = some (.int .u64 (nth a k)) := by rw [put_other _ _ _ hgb]; exact hbc k hlt
      have hca : (wput w g .u64 (pre ++ (cur ++ post))).cell? ⟨g, pre.length + k, none⟩ = some (.int .u64 (nth cur k)) := by
        rw [(hg.put _).cell (by have := HL.out; simp; omega), nth_mid _ _ _ _ (by have := HL.out; omega)]
      have hfr : (wput w g .u64 (pre ++ (cur ++ post))).frozen? ⟨g, pre.length + k, none⟩ = false := (hg.put _).frozen _
      have hst : ∀ y : Nat, (wput w g .u64 (pre ++ (cur ++ post))).setCell ⟨g, pre.length + k, none⟩ (.int .u64 (y : Int)) = wput w g .u64 (pre ++ (cur.set k y ++ post)) := fun y => by
        rw [put_store hg, set_mid _ _ _ _ _ (by have := HL.out; omega)]
      have HST := Lib.hid hst
      clear hst
      generalize wput w g .u64 (pre ++ (cur ++ post)) = W at *
      have hmul := mul_at (nth a k) x (ha.nth hlt) hx W
      have h1 := run_addc (mulLo (nth a k) x) cn W
      have h2 := run_add0 (mulHi (nth a k) x) (addHi (mulLo (nth a k) x) cn 0) (addHi_le (mulLo_lt _ _) hinv.carry (by decide)) W
      have h3 := run_addc (nth cur k) (addLo (mulLo (nth a k) x) cn 0) W
      have hcur : nth cur k < 18446744073709551616 := hinv.wd.nth (by have := HL.out; omega)
      have h4 := run_add0 (mcHi (nth a k) x cn) (addHi (nth cur k) (mcLo (nth a k) x cn) 0) (addHi_le hcur (mcLo_lt _ _ _) (by decide)) (W.setCell ⟨g, pre.length + k, none⟩ (.int .u64 (addLo (nth cur k) (mcLo (nth a k) x cn) 0 : Nat)))
      unfold mcHi mcLo at h4
      have HM := Lib.hid hmul
      clear hmul hcur hbc hgb hne sa hl
      go_wp2_with (go_at_call 152; refine HM.out.mono ?_; rintro e w1 ⟨rfl, rfl⟩)
      go_roundw
      case rel => exact ⟨k + 1, _, cur.set k (addLo (nth cur k) (mcLo (nth a k) x cn) 0), by omega, by go_num, rfl, hinv.step (by have := HLL.out; omega) hlt ha hx, HST.out _⟩
      case measure => simp [intOf]; omega
    · have hkb : k = a.length := by omega
      subst hkb
      go_wp2_with fail
      go_ret
      exact ⟨cur, cn, rfl, rfl, hinv⟩
end Go.Proofs.YtekghemhccfhkaaGreatDoor
namespace Go.Proofs.YtekghemhccfhkaaGreatDoor
open Go.RowKit Go.Big
def ScPost (w : World) (g : Nat) (pre a post : List Nat) (x : Nat) (e : Ending) (w' : World) : Prop :=
  ∃ (cur : List Nat) (c : Nat), e = .returned (.int .u64 c) ∧ w' = wput w g .u64 (pre ++ (cur ++ post)) ∧ ScInv a x a.length cur c

set_option maxRecDepth 100000 in
set_option maxHeartbeats 1000000 in
theorem scale_at {g cap n off : Nat} {pre a post : List Nat} {x : Nat} {w : World}
    (hg : isRow w g 71 .u64 (pre ++ (a ++ post))) (ha : Wd B64 a) (hx : x < 18446744073709551616) (hm : a.length ≤ 1099511627776)
    (hn : a.length = n) (ho : pre.length = off) :
    Calls Tryz.prog 215 #[.slice (some ⟨g, off, none⟩) n cap, .int .u64 x] w (ScPost w g pre a post x) := by
  subst hn ho
  go_enter Tryz.func215, Tryz.ntmps215
  go_wp2_with fail
  go_loopw [5, 13] (fun c i wr => ∃ (k cn : Nat) (cur : List Nat), k ≤ a.length ∧ i = .int .i64 k ∧ c = .int .u64 cn ∧ ScInv a x k cur cn ∧ wr = wput w g .u64 (pre ++ (cur ++ post)))
    (fun _ i _ => a.length - (intOf i).toNat)
  case atStart => exact ⟨0, 0, a, Nat.zero_le _, rfl, rfl, ScInv.start x ha, (put_self hg).symm⟩
  case round =>
    obtain ⟨k, cn, cur, hk, rfl, rfl, hinv, rfl⟩ := hrel
    have HL : Hid (cur.length = a.length) := hinv.len
    by_cases hlt : k < a.length
    · have hca : (wput w g .u64 (pre ++ (cur ++ post))).cell? ⟨g, pre.length + k, none⟩ = some (.int .u64 (nth cur k)) := by
        rw [(hg.put _).cell (by have := HL.out; simp; omega), nth_mid _ _ _ _ (by have := HL.out; omega)]
      have hfr : (wput w g .u64 (pre ++ (cur ++ post))).frozen? ⟨g, pre.length + k, none⟩ = false := (hg.put _).frozen _
      have hst : ∀ y : Nat, (wput w g .u64 (pre ++ (cur ++ post))).setCell ⟨g, pre.length + k, none⟩ (.int .u64 (y : Int)) = wput w g .u64 (pre ++ (cur.set k y ++ post)) := fun y => by
        rw [put_store hg, set_mid _ _ _ _ _ (by have := HL.out; omega)]
      have HST := Lib.hid hst
      clear hst
      generalize wput w g .u64 (pre ++ (cur ++ post)) = W at *
      have hcur : nth cur k < 18446744073709551616 := hinv.wd.nth (by have := HL.out; omega)
      have hmul := mul_at (nth cur k) x hcur hx W
      have h1 := run_addc (mulLo (nth cur k) x) cn W
      have h2 := run_add0 (mulHi (nth cur k) x) (addHi (mulLo (nth cur k) x) cn 0) (addHi_le (mulLo_lt _ _) hinv.carry (by decide)) (W.setCell ⟨g, pre.length + k, none⟩ (.int .u64 (addLo (mulLo (nth cur k) x) cn 0 : Nat)))
      have HM := Lib.hid hmul
      clear hmul hcur
      go_wp2_with (go_at_call 152; refine HM.out.mono ?_; rintro e w1 ⟨rfl, rfl⟩)
      go_roundw
      case rel => exact ⟨k + 1, _, cur.set k (mcLo (nth cur k) x cn), by omega, by go_num, rfl, hinv.step hlt ha hx, HST.out _⟩
      case measure => simp [intOf]; omega
    · have hkb : k = a.length := by omega
      subst hkb
      go_wp2_with fail
      go_ret
      exact ⟨cur, cn, rfl, rfl, hinv⟩
end Go.Proofs.YtekghemhccfhkaaGreatDoor
namespace Go.Big
open Go Go.RowKit
theorem pow64 {s t : Nat} (h : s + t = 64) : 2 ^ s * 2 ^ t = 18446744073709551616 := by rw [← Nat.pow_add, h]
theorem shlW_eq {x s t : Nat} (h : s + t = 64) : shlW x s = 2 ^ s * (x % 2 ^ t) := by
  have e : min s 64 = s := by omega
  rw [shlW, e, ← pow64 h, Nat.mul_comm (2 ^ s), Nat.mul_mod_mul_right, Nat.mul_comm]
theorem shrW_eq {x s : Nat} (h : s ≤ 64) : shrW x s = x / 2 ^ s := by rw [shrW, Nat.min_eq_left h]
theorem shl_split {x s t : Nat} (h : s + t = 64) : shlW x s + 18446744073709551616 * shrW x t = x * 2 ^ s := by
  rw [shlW_eq h, shrW_eq (by omega), ← pow64 h, Nat.mul_assoc, ← Nat.mul_add, Nat.add_comm (x % 2 ^ t), Nat.div_add_mod, Nat.mul_comm]
theorem shlW_lt (x s : Nat) : shlW x s < 18446744073709551616 := Nat.mod_lt _ (by decide)
theorem shrW_lt {x s t : Nat} (h : s + t = 64) (hx : x < 18446744073709551616) : shrW x t < 2 ^ s := by
  rw [shrW_eq (by omega), Nat.div_lt_iff_lt_mul (Nat.pow_pos (by decide)), pow64 h]; exact hx
theorem orW_add {a x s t : Nat} (h : s + t = 64) (ha : a < 2 ^ s) : orW a (shlW x s) = a + shlW x s := by
  have h1 : a < 18446744073709551616 := by
    have : 2 ^ s * 1 ≤ 2 ^ s * 2 ^ t := Nat.mul_le_mul_left _ (Nat.pow_pos (by decide))
    rw [pow64 h] at this; omega
  rw [orW, Nat.mod_eq_of_lt h1, Nat.mod_eq_of_lt (shlW_lt _ _), shlW_eq h, Nat.or_comm, ← Nat.two_pow_add_eq_or_of_lt ha, Nat.add_comm]
theorem orW_lt (x y : Nat) : orW x y < 18446744073709551616 := Nat.or_lt_two_pow (n := 64) (Nat.mod_lt _ (by decide)) (Nat.mod_lt _ (by decide))

/-- 'shiftLeft' behind k words. -/
structure ShlInv (la : List Nat) (s k : Nat) (cur : List Nat) : Prop where
  len : cur.length = la.length + 1
  wd : Wd B64 cur
  rest : ∀ j, k < j → nth cur j = 0
  top : nth cur k < 2 ^ s
  eq : val B64 (cur.take (k + 1)) = val B64 (la.take k) * 2 ^ s

theorem ShlInv.start (la : List Nat) (s : Nat) : ShlInv la s 0 (zeros (la.length + 1)) :=
  ⟨zeros_len _, zeros_wd (by decide) _, fun _ _ => zeros_nth _ _, by rw [zeros_nth]; exact Nat.pow_pos (by decide), by
    rw [take_val_nth _ _ _ (by rw [zeros_len]; omega), zeros_nth]; simp [val]⟩

theorem ShlInv.step {la cur : List Nat} {s t k : Nat} (h : ShlInv la s k cur) (hst : s + t = 64) (wa : Wd B64 la) (hk : k < la.length) :
    ShlInv la s (k + 1) ((cur.set k (orW (nth cur k) (shlW (nth la k) s))).set (k + 1) (shrW (nth la k) t)) := by
  have hl := h.len
  have hx := wa.nth hk
  have hlen1 : (cur.set k (orW (nth cur k) (shlW (nth la k) s))).length = cur.length := List.length_set
  have hhi : shrW (nth la k) t < 2 ^ s := shrW_lt hst hx
  refine ⟨by rw [List.length_set, List.length_set, hl], (h.wd.set (orW_lt _ _)).set ?_, ?_, ?_, ?_⟩
  · rw [shrW_eq (by omega)]; exact Nat.lt_of_le_of_lt (Nat.div_le_self _ _) hx
  · intro j hj
    rw [nth_set_ne (by omega), nth_set_ne (by omega)]
    exact h.rest j (by omega)
  · rw [nth_set_self (by omega)]; exact hhi
  · rw [take_val_nth _ _ _ (by rw [List.length_set, List.length_set]; omega), nth_set_self (by omega), List.take_set_of_le (Nat.le_refl _),
      set_take_val _ _ _ _ (by omega), orW_add hst h.top, take_val_nth B64 la k hk]
    have e1 := h.eq
    rw [take_val_nth _ _ _ (by omega)] at e1
    have e2 := shl_split (x := nth la k) hst
    rw [Nat.pow_succ]
    grind

theorem ShlInv.done {la cur : List Nat} {s : Nat} (h : ShlInv la s la.length cur) : val B64 cur = val B64 la * 2 ^ s := by
  have := h.eq
  rwa [List.take_of_length_le (by rw [h.len]; omega), List.take_length] at this

/-- 'shiftRight' behind k words. -/
structure ShrInv (la : List Nat) (s t k : Nat) (cur : List Nat) : Prop where
  len : cur.length = la.length
  wd : Wd B64 cur
  top : 0 < k → nth cur (k - 1) < 2 ^ t
  eq : val B64 (cur.take k) = val B64 (la.take k) / 2 ^ s

theorem ShrInv.start (la : List Nat) (s t : Nat) : ShrInv la s t 0 (zeros la.length) :=
  ⟨zeros_len _, zeros_wd (by decide) _, fun h => absurd h (by omega), by simp [val]⟩

theorem ShrInv.step0 {la cur : List Nat} {s t : Nat} (h : ShrInv la s t 0 cur) (hst : s + t = 64) (wa : Wd B64 la) (hk : 0 < la.length) :
    ShrInv la s t 1 (cur.set 0 (shrW (nth la 0) s)) := by
  have hl := h.len
  have hx := wa.nth hk
  have hhi : shrW (nth la 0) s < 2 ^ t := shrW_lt (by omega) hx
  refine ⟨by rw [List.length_set, hl], h.wd.set ?_, fun _ => by rw [nth_set_self (by omega)]; exact hhi, ?_⟩
  · rw [shrW_eq (by omega)]; exact Nat.lt_of_le_of_lt (Nat.div_le_self _ _) hx
  · rw [set_take_val _ _ _ _ (by omega), take_val_nth _ _ _ hk, shrW_eq (by omega)]
    simp [val]

theorem ShrInv.step {la cur : List Nat} {s t k : Nat} (h : ShrInv la s t (k + 1) cur) (hst : s + t = 64) (wa : Wd B64 la) (hk : k + 1 < la.length) :
    ShrInv la s t (k + 2) ((cur.set (k + 1) (shrW (nth la (k + 1)) s)).set k (orW (nth cur k) (shlW (nth la (k + 1)) t))) := by
  have hl := h.len
  have hx := wa.nth hk
  have hhi : shrW (nth la (k + 1)) s < 2 ^ t := shrW_lt (by omega) hx
  have htop := h.top (by omega)
  simp only [Nat.add_sub_cancel] at htop
  refine ⟨by rw [List.length_set, List.length_set, hl], (h.wd.set ?_).set (orW_lt _ _), fun _ => ?_, ?_⟩
  · rw [shrW_eq (by omega)]; exact Nat.lt_of_le_of_lt (Nat.div_le_self _ _) hx
  · rw [show k + 2 - 1 = k + 1 from rfl, nth_set_ne (by omega), nth_set_self (by omega)]; exact hhi
  · rw [List.set_comm _ _ (by omega), set_take_val _ _ _ _ (by rw [List.length_set]; omega), set_take_val _ _ _ _ (by omega), orW_add (s := t) (t := s) (by omega) htop, take_val_nth B64 la (k + 1) hk]
    have e1 := h.eq
    rw [take_val_nth _ _ _ (by omega)] at e1
    have e2 := shl_split (x := nth la (k + 1)) (s := t) (t := s) (by omega)
    have e3 : B64 ^ (k + 1) * nth la (k + 1) = 2 ^ s * (B64 ^ k * (nth la (k + 1) * 2 ^ t)) := by
      rw [Nat.pow_succ, show B64 = 2 ^ s * 2 ^ t from (pow64 hst).symm]
      grind
    rw [e3, Nat.add_mul_div_left _ _ (Nat.pow_pos (by decide)), ← e1, ← e2]
    rw [Nat.pow_succ]
    grind

theorem ShrInv.done {la cur : List Nat} {s t : Nat} (h : ShrInv la s t la.length cur) : val B64 cur = val B64 la / 2 ^ s := by
  have := h.eq
  rwa [List.take_of_length_le (by rw [h.len]; omega), List.take_length] at this
end Go.Big
namespace Go.Big
open Go Go.RowKit
abbrev b32 : Nat := 4294967296

/-- One digit in base 2^32 of the division by v1 * 2^32 + v0: what the correcting loop keeps. -/
structure DgInv (n u1 v1 v0 q r : Nat) : Prop where
  eq : q * v1 + r = n
  rlt : r < b32
  up : n * b32 + u1 < (q + 1) * (v1 * b32 + v0)

theorem DgInv.start {n u1 v1 v0 : Nat} (hv : b32 / 2 ≤ v1) (hv1 : v1 < b32) (hu : u1 < b32) : DgInv n u1 v1 v0 (n / v1) (n % v1) := by
  have h0 : 0 < v1 := by unfold b32 at hv; omega
  have hm := Nat.mod_lt n h0
  have hd := Nat.div_add_mod n v1
  refine ⟨by rw [Nat.mul_comm]; exact hd, by omega, ?_⟩
  have h1 : n + 1 ≤ (n / v1 + 1) * v1 := by
    rw [Nat.add_mul, Nat.one_mul, Nat.mul_comm]; omega
  have h2 : (n + 1) * b32 ≤ (n / v1 + 1) * v1 * b32 := Nat.mul_le_mul_right _ h1
  have h3 : (n / v1 + 1) * (v1 * b32 + v0) = (n / v1 + 1) * v1 * b32 + (n / v1 + 1) * v0 := by grind
  rw [h3]
  have h4 : (n + 1) * b32 = n * b32 + b32 := by grind
  omega

/-- q fits if the second digit's test fails. -/
theorem DgInv.le_of {n u1 v1 v0 q r : Nat} (h : DgInv n u1 v1 v0 q r) (ht : q * v0 ≤ b32 * r + u1) : q * (v1 * b32 + v0) ≤ n * b32 + u1 := by
  have := h.eq
  have e : q * (v1 * b32 + v0) + b32 * r = n * b32 + q * v0 := by rw [← h.eq]; grind
  omega

/-- A step of the loop. -/
theorem DgInv.step {n u1 v1 v0 q r : Nat} (h : DgInv n u1 v1 v0 q r) (hv0 : v0 < b32) (hn : n < v1 * b32 + v0) (hu : u1 < b32) (ht : b32 ≤ q ∨ b32 * r + u1 < q * v0) :
    0 < q ∧ (q - 1) * v1 + (r + v1) = n ∧ n * b32 + u1 < (q - 1 + 1) * (v1 * b32 + v0) := by
  have hq : 0 < q := by
    rcases ht with h1 | h1
    · omega
    · rcases Nat.eq_zero_or_pos q with h2 | h2
      · subst h2; simp at h1
      · exact h2
  obtain ⟨p, rfl⟩ : ∃ p, q = p + 1 := ⟨q - 1, by omega⟩
  refine ⟨hq, ?_, ?_⟩
  · have := h.eq
    simp only [Nat.add_sub_cancel]
    grind
  · simp only [Nat.add_sub_cancel]
    rcases ht with h1 | h1
    · have e1 : (n + 1) * b32 ≤ (v1 * b32 + v0) * b32 := Nat.mul_le_mul_right _ hn
      have e2 : b32 * (v1 * b32 + v0) ≤ (p + 1) * (v1 * b32 + v0) := Nat.mul_le_mul_right _ h1
      have e3 : (v1 * b32 + v0) * b32 = b32 * (v1 * b32 + v0) := Nat.mul_comm _ _
      have e4 : (n + 1) * b32 = n * b32 + b32 := by grind
      omega
    · have e := h.eq
      have e2 : (p + 1) * (v1 * b32 + v0) + b32 * r = n * b32 + (p + 1) * v0 := by rw [← h.eq]; grind
      omega

/-- What the loop ends with: the digit of the quotient. -/
structure Digit (num V q : Nat) : Prop where
  le : q * V ≤ num
  lt : num < (q + 1) * V
theorem Digit.lt32 {n u1 V q : Nat} (h : Digit (n * b32 + u1) V q) (hn : n < V) (hu : u1 < b32) : q < b32 := by
  have h1 : (n + 1) * b32 ≤ V * b32 := Nat.mul_le_mul_right _ hn
  have h2 : (n + 1) * b32 = n * b32 + b32 := by grind
  have h3 : q * V < b32 * V := by rw [Nat.mul_comm b32]; have := h.le; omega
  exact Nat.lt_of_mul_lt_mul_right h3

/-- Two digits make the quotient of U = m * b + u0 by V. -/
theorem two_digits {b m u0 V q1 q0 : Nat} (h1 : Digit m V q1) (h0 : Digit ((m - q1 * V) * b + u0) V q0) :
    (q1 * b + q0) * V + ((m - q1 * V) * b + u0 - q0 * V) = m * b + u0 ∧ (m - q1 * V) * b + u0 - q0 * V < V := by
  have a1 := h1.le
  have a0 := h0.le
  have b0 := h0.lt
  obtain ⟨r1, hr1⟩ : ∃ r1, m = q1 * V + r1 := ⟨m - q1 * V, by omega⟩
  have e1 : m - q1 * V = r1 := by omega
  rw [e1] at a0 b0
  rw [e1]
  obtain ⟨r0, hr0⟩ : ∃ r0, r1 * b + u0 = q0 * V + r0 := ⟨r1 * b + u0 - q0 * V, by omega⟩
  have e0 : r1 * b + u0 - q0 * V = r0 := by omega
  rw [e0]
  refine ⟨?_, ?_⟩
  · rw [hr1]
    have : (q1 * V + r1) * b + u0 = q1 * b * V + (r1 * b + u0) := by grind
    rw [this, hr0]; grind
  · have : (q0 + 1) * V = q0 * V + V := by grind
    omega
/-- bits.LeadingZeros64: the shift that brings the first bit to the top. -/
theorem lz_exists {x : Nat} (h0 : 0 < x) (hx : x < 18446744073709551616) : ∃ s : Nat, s < 64 ∧ (64 : Int) - (Lib.bitLen x : Int) = (s : Int) ∧ 9223372036854775808 ≤ x * 2 ^ s ∧ x * 2 ^ s < 18446744073709551616 := by
  obtain ⟨h1, h2, h3⟩ := Lib.bitLenAux_bounds 64 x hx (by omega)
  have h4 := Lib.bitLen_le x 64 (by decide) hx
  change 1 ≤ Lib.bitLen x at h1
  change 2 ^ (Lib.bitLen x - 1) ≤ x at h2
  change x < 2 ^ Lib.bitLen x at h3
  refine ⟨64 - Lib.bitLen x, by omega, by omega, ?_, ?_⟩
  · have : 2 ^ (Lib.bitLen x - 1) * 2 ^ (64 - Lib.bitLen x) ≤ x * 2 ^ (64 - Lib.bitLen x) := Nat.mul_le_mul_right _ h2
    rw [← Nat.pow_add, show Lib.bitLen x - 1 + (64 - Lib.bitLen x) = 63 from by omega] at this
    exact this
  · have : x * 2 ^ (64 - Lib.bitLen x) < 2 ^ Lib.bitLen x * 2 ^ (64 - Lib.bitLen x) := Nat.mul_lt_mul_of_pos_right h3 (Nat.pow_pos (by decide))
    rw [← Nat.pow_add, show Lib.bitLen x + (64 - Lib.bitLen x) = 64 from by omega] at this
    exact this
end Go.Big
