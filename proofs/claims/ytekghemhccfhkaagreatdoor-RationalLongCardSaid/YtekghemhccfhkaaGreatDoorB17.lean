/-
  Walks of the program's functions: Rem64, DivW, Guess, Heads, FindSteps, RestW.
-/
import Derived.Test.YtekghemhccfhkaaGreatDoorB15
import Derived.Deep.QuietTactic
import Derived.BigQuiet
import Derived.Test.YtekghemhccfhkaaGreatDoorB09
import Derived.Test.YtekghemhccfhkaaGreatDoorB04
import Derived.Test.YtekghemhccfhkaaGreatDoorB13
import Derived.Test.YtekghemhccfhkaaGreatDoorB05
namespace Go.Proofs.YtekghemhccfhkaaGreatDoor
open Go.RowKit Go.Big
set_option maxRecDepth 100000 in
set_option maxHeartbeats 400000 in
theorem div64_zero {lo y : Nat} (hy : 0 < y) (hlo : lo < 18446744073709551616) (w : World) :
    Calls Tryz.prog 205 #[.int .u64 0, .int .u64 lo, .int .u64 y] w fun e w' => e = .returned (.tuple #[.int .u64 (dvQ 0 lo y), .int .u64 (dvR 0 lo y)]) ∧ ∃ n, w' = w.drewN n := by
  have hy0 : ((y : Int) == 0) = false := by rw [beq_eq_false_iff_ne]; omega
  have e1 : quoW lo y = dvQ 0 lo y := by
    rw [quoW, Nat.mod_eq_of_lt (Nat.lt_of_le_of_lt (Nat.div_le_self _ _) hlo)]; simp [dvQ]
  have e2 : lo % y = dvR 0 lo y := by simp [dvR]
  have HLO := Lib.hid hlo
  clear hlo
  go_enter Tryz.func205, Tryz.ntmps205
  go_wp2_with fail
  go_quiet (fail)
  go_wp2_with fail
  go_ret2
  exact ⟨rfl, _, rfl⟩

/-- bits.Div64 -/
theorem div64_any {hi lo y : Nat} (hhi : hi < y) (hy : y < 18446744073709551616) (hlo : lo < 18446744073709551616) (w : World) :
    Calls Tryz.prog 205 #[.int .u64 hi, .int .u64 lo, .int .u64 y] w fun e w' => e = .returned (.tuple #[.int .u64 (dvQ hi lo y), .int .u64 (dvR hi lo y)]) ∧ ∃ n, w' = w.drewN n := by
  rcases Nat.eq_zero_or_pos hi with h | h
  · subst h
    exact div64_zero hhi hlo w
  · exact (div64_big hhi h hy hlo w).mono fun e w' ⟨h1, h2⟩ => ⟨h1, 0, h2⟩
theorem dvR_mod (hi lo y : Nat) : dvR (hi % y) lo y = dvR hi lo y := by
  unfold dvR
  rw [Nat.add_mod, Nat.mul_mod, Nat.mod_mod, ← Nat.mul_mod, ← Nat.add_mod]
set_option maxRecDepth 100000 in
set_option maxHeartbeats 400000 in
/-- bits.Rem64 -/
theorem rem64_any {hi lo y : Nat} (hy0 : 0 < y) (hy : y < 18446744073709551616) (hlo : lo < 18446744073709551616) (w : World) :
    Calls Tryz.prog 200 #[.int .u64 hi, .int .u64 lo, .int .u64 y] w fun e w' => e = .returned (.int .u64 (dvR hi lo y)) ∧ ∃ n, w' = w.drewN n := by
  have hc := div64_any (hi := hi % y) (lo := lo) (Nat.mod_lt _ hy0) hy hlo w
  rw [dvR_mod] at hc
  have HC := Lib.hid hc
  clear hc hy hlo
  go_enter Tryz.func200, Tryz.ntmps200
  go_wp2_with fail
  refine HC.out.mono ?_
  rintro e w1 ⟨rfl, n, rfl⟩
  go_wp2_with fail
  go_ret
  exact ⟨rfl, _, rfl⟩
end Go.Proofs.YtekghemhccfhkaaGreatDoor
namespace Go.Big
open Go Go.RowKit
theorem dvQ_lt {hi lo y : Nat} (hhi : hi < y) (hlo : lo < 18446744073709551616) : dvQ hi lo y < 18446744073709551616 := by
  unfold dvQ
  rw [Nat.div_lt_iff_lt_mul (by omega)]
  have : (hi + 1) * 18446744073709551616 ≤ y * 18446744073709551616 := Nat.mul_le_mul_right _ hhi
  rw [Nat.mul_comm 18446744073709551616]
  omega
theorem dvR_lt {hi lo y : Nat} (hy : 0 < y) : dvR hi lo y < y := Nat.mod_lt _ hy
theorem dv_eq (hi lo y : Nat) : dvQ hi lo y * y + dvR hi lo y = hi * 18446744073709551616 + lo := by
  unfold dvQ dvR; rw [Nat.mul_comm]; exact Nat.div_add_mod _ _
/-- 'divideByWord': the words from i on are divided, r is left of them. -/
structure DwInv (a : List Nat) (x i : Nat) (cur : List Nat) (r : Nat) : Prop where
  len : cur.length = a.length
  wd : Wd B64 cur
  rlt : r < x
  rest : ∀ j, j < i → nth cur j = nth a j
  eq : val B64 (cur.drop i) * x + r = val B64 (a.drop i)
theorem DwInv.start {a : List Nat} {x : Nat} (hx : 0 < x) (h : Wd B64 a) : DwInv a x a.length a 0 := ⟨rfl, h, hx, fun _ _ => rfl, by rw [List.drop_length]; simp [val]⟩
theorem DwInv.step {a cur : List Nat} {x i r : Nat} (h : DwInv a x (i + 1) cur r) (hi : i < a.length) :
    DwInv a x i (cur.set i (dvQ r (nth cur i) x)) (dvR r (nth cur i) x) := by
  have hl := h.len
  have hw := h.wd.nth (i := i) (by omega)
  refine ⟨by rw [List.length_set, hl], h.wd.set (dvQ_lt h.rlt hw), dvR_lt (by have := h.rlt; omega), fun j hj => by rw [nth_set_ne (by omega)]; exact h.rest j (by omega), ?_⟩
  rw [drop_val_nth _ _ _ (by rw [List.length_set]; omega), nth_set_self (by omega), drop_set_succ, drop_val_nth B64 a i hi]
  have e1 := h.eq
  have e2 := dv_eq r (nth cur i) x
  have e3 := h.rest i (by omega)
  rw [e3] at e2 ⊢
  rw [← e1]
  grind
theorem DwInv.done {a cur : List Nat} {x r : Nat} (h : DwInv a x 0 cur r) : val B64 cur = val B64 a / x ∧ r = val B64 a % x := by
  have e := h.eq
  simp only [List.drop_zero] at e
  have hx : 0 < x := by have := h.rlt; omega
  have h1 : val B64 a / x = val B64 cur := by
    rw [← e, Nat.mul_comm, Nat.mul_add_div hx, Nat.div_eq_of_lt h.rlt, Nat.add_zero]
  have h2 : val B64 a % x = r := by
    rw [← e, Nat.mul_comm, Nat.mul_add_mod, Nat.mod_eq_of_lt h.rlt]
  exact ⟨h1.symm, h2.symm⟩
end Go.Big
namespace Go.Proofs.YtekghemhccfhkaaGreatDoor
open Go.RowKit Go.Big
def DwPost (w : World) (g : Nat) (pre a post : List Nat) (x : Nat) (e : Ending) (w' : World) : Prop :=
  ∃ (cur : List Nat) (n : Nat), e = .returned (.int .u64 (val B64 a % x : Nat)) ∧ w' = (wput w g .u64 (pre ++ (cur ++ post))).drewN n ∧ cur.length = a.length ∧ Wd B64 cur ∧ val B64 cur = val B64 a / x

set_option maxRecDepth 100000 in
set_option maxHeartbeats 1000000 in
theorem divideByWord_at {g cap n off : Nat} {pre a post : List Nat} {x : Nat} {w : World}
    (hg : isRow w g 71 .u64 (pre ++ (a ++ post))) (ha : Wd B64 a) (hx0 : 0 < x) (hx : x < 18446744073709551616) (hm : a.length ≤ 1099511627776)
    (hn : a.length = n) (ho : pre.length = off) :
    Calls Tryz.prog 173 #[.slice (some ⟨g, off, none⟩) n cap, .int .u64 x] w (DwPost w g pre a post x) := by
  subst hn ho
  have HX := Lib.hid hx
  clear hx
  go_enter Tryz.func173, Tryz.ntmps173
  go_wp2_with fail
  go_loopw [5, 6] (fun c i wr => ∃ (k r : Nat) (cur : List Nat) (d : Nat), k ≤ a.length ∧ i = .int .i64 ((k : Int) - 1) ∧ c = .int .u64 r ∧ DwInv a x k cur r ∧ wr = (wput w g .u64 (pre ++ (cur ++ post))).drewN d)
    (fun _ i _ => (intOf i + 1).toNat)
  case atStart => exact ⟨a.length, 0, a, 0, Nat.le_refl _, rfl, rfl, DwInv.start hx0 ha, by rw [put_self hg]; rfl⟩
  case round =>
    obtain ⟨k, r, cur, d, hk, rfl, rfl, hinv, rfl⟩ := hrel
    have HL : Hid (cur.length = a.length) := hinv.len
    rcases Nat.eq_zero_or_pos k with hk0 | hpos
    · subst hk0
      have hd := hinv.done
      have HD := Lib.hid hd
      clear hd
      go_wp2_with fail
      go_ret
      exact ⟨cur, d, ret_i (by rw [HD.out.2]), rfl, hinv.len, hinv.wd, HD.out.1⟩
    · obtain ⟨i, rfl⟩ : ∃ i, k = i + 1 := ⟨k - 1, by omega⟩
      have hca : (wput w g .u64 (pre ++ (cur ++ post))).cell? ⟨g, pre.length + i, none⟩ = some (.int .u64 (nth cur i)) := by
        rw [(hg.put _).cell (by have := HL.out; simp; omega), nth_mid _ _ _ _ (by have := HL.out; omega)]
      have hfr : (wput w g .u64 (pre ++ (cur ++ post))).frozen? ⟨g, pre.length + i, none⟩ = false := (hg.put _).frozen _
      have hst : ∀ y : Nat, (wput w g .u64 (pre ++ (cur ++ post))).setCell ⟨g, pre.length + i, none⟩ (.int .u64 (y : Int)) = wput w g .u64 (pre ++ (cur.set i y ++ post)) := fun y => by
        rw [put_store hg, set_mid _ _ _ _ _ (by have := HL.out; omega)]
      have HST := Lib.hid hst
      clear hst
      generalize wput w g .u64 (pre ++ (cur ++ post)) = W at *
      have hcall := fun w' => div64_any (hi := r) (lo := nth cur i) hinv.rlt HX.out (hinv.wd.nth (by have := HL.out; omega)) w'
      have HC := Lib.hid hcall
      have e1 : (((i + 1 : Nat) : Int) - 1) = i := by omega
      rw [e1]
      clear hcall e1 hpos
      go_wp2_with fail
      refine (HC.out _).mono ?_
      rintro e w1 ⟨rfl, m, rfl⟩
      go_wp2_with fail
      go_roundw
      case rel => exact ⟨i, _, cur.set i (dvQ r (nth cur i) x), _, by omega, rfl, rfl, hinv.step (by omega), by rw [← HST.out]; rfl⟩
      case measure => simp [intOf]
end Go.Proofs.YtekghemhccfhkaaGreatDoor
namespace Go.Big
open Go Go.RowKit
/-- The digit's guess: q is not too small; r is what it leaves of the first two words. -/
structure GsInv (B x2 x1 x0 v1 v0 q r : Nat) : Prop where
  eq : q * v1 + r = x2 * B + x1
  rlt : r < B
  qlt : q < B
  up : (x2 * B + x1) * B + x0 < (q + 1) * (v1 * B + v0)
theorem GsInv.mk0 {B x2 x1 x0 v1 v0 q r : Nat} (e : q * v1 + r = x2 * B + x1) (hr : r < v1) (hv : v1 < B) (hq : q < B) (h0 : x0 < B) : GsInv B x2 x1 x0 v1 v0 q r := by
  refine ⟨e, by omega, hq, ?_⟩
  have h2 : x2 * B + x1 + 1 ≤ (q + 1) * v1 := by rw [Nat.add_mul, Nat.one_mul]; omega
  have h3 : (x2 * B + x1 + 1) * B ≤ (q + 1) * v1 * B := Nat.mul_le_mul_right _ h2
  have h4 : (q + 1) * (v1 * B + v0) = (q + 1) * v1 * B + (q + 1) * v0 := by grind
  have h5 : (x2 * B + x1 + 1) * B = (x2 * B + x1) * B + B := by grind
  rw [h4]
  omega
theorem GsInv.start {x2 x1 x0 v1 v0 : Nat} (h : x2 < v1) (hv : v1 < 18446744073709551616) (h1 : x1 < 18446744073709551616) (h0 : x0 < 18446744073709551616) :
    GsInv 18446744073709551616 x2 x1 x0 v1 v0 (dvQ x2 x1 v1) (dvR x2 x1 v1) :=
  GsInv.mk0 (dv_eq x2 x1 v1) (dvR_lt (by omega)) hv (dvQ_lt h h1) h0
theorem lex_lt {B hi lo r x0 p : Nat} (e : lo + B * hi = p) (h0 : x0 < B) (ht : r < hi ∨ hi = r ∧ x0 < lo) : r * B + x0 < p := by
  rcases ht with h | ⟨rfl, h⟩
  · have h1 : B * (r + 1) ≤ B * hi := Nat.mul_le_mul_left _ h
    have h2 : B * (r + 1) = r * B + B := by grind
    omega
  · have : B * hi = hi * B := Nat.mul_comm _ _
    omega
/-- A refused guess is lowered. -/
theorem GsInv.step {B x2 x1 x0 v1 v0 q r hi lo : Nat} (h : GsInv B x2 x1 x0 v1 v0 q r) (h0 : x0 < B) (e : lo + B * hi = q * v0)
    (ht : r < hi ∨ hi = r ∧ x0 < lo) :
    0 < q ∧ (q - 1) * v1 + (r + v1) = x2 * B + x1 ∧ (x2 * B + x1) * B + x0 < (q - 1 + 1) * (v1 * B + v0) := by
  have hlt := lex_lt e h0 ht
  have hq : 0 < q := by
    rcases Nat.eq_zero_or_pos q with h2 | h2
    · subst h2; simp at hlt
    · exact h2
  obtain ⟨p, rfl⟩ : ∃ p, q = p + 1 := ⟨q - 1, by omega⟩
  refine ⟨hq, ?_, ?_⟩
  · have := h.eq
    simp only [Nat.add_sub_cancel]
    grind
  · simp only [Nat.add_sub_cancel]
    have e2 : (p + 1) * (v1 * B + v0) + r * B = (x2 * B + x1) * B + (p + 1) * v0 := by rw [← h.eq]; grind
    omega
theorem val_last2 {B : Nat} {l : List Nat} {n : Nat} (hl : l.length = n + 2) : val B l = val B (l.take n) + B ^ n * (nth l (n + 1) * B + nth l n) := by
  rw [take_drop_val B l n (by omega), drop_val_nth B l n (by omega), drop_val_nth B l (n + 1) (by omega), List.drop_eq_nil_of_le (by omega)]
  simp only [val]
  grind
theorem val_last3 {B : Nat} {l : List Nat} {n : Nat} (hl : l.length = n + 3) : val B l = val B (l.take n) + B ^ n * ((nth l (n + 2) * B + nth l (n + 1)) * B + nth l n) := by
  rw [take_drop_val B l n (by omega), drop_val_nth B l n (by omega), drop_val_nth B l (n + 1) (by omega), drop_val_nth B l (n + 2) (by omega), List.drop_eq_nil_of_le (by omega)]
  simp only [val]
  grind
/-- What holds of the first words holds of the numbers. -/
theorem guess_up {B : Nat} {a b : List Nat} {n q : Nat} (wa : Wd B a) (ha : a.length = n + 3) (hb : b.length = n + 2)
    (h : (nth a (n + 2) * B + nth a (n + 1)) * B + nth a n < (q + 1) * (nth b (n + 1) * B + nth b n)) : val B a < (q + 1) * val B b := by
  rw [val_last3 ha, val_last2 hb]
  have h1 := val_lt (wa.take n)
  rw [List.length_take, Nat.min_eq_left (by omega)] at h1
  generalize (nth a (n + 2) * B + nth a (n + 1)) * B + nth a n = x at *
  generalize nth b (n + 1) * B + nth b n = y at *
  have h2 : B ^ n * (x + 1) ≤ B ^ n * ((q + 1) * y) := Nat.mul_le_mul_left _ h
  have h3 : (q + 1) * (val B (b.take n) + B ^ n * y) = (q + 1) * val B (b.take n) + B ^ n * ((q + 1) * y) := by grind
  have h4 : B ^ n * (x + 1) = B ^ n * x + B ^ n := by grind
  omega
end Go.Big
namespace Go.Proofs.YtekghemhccfhkaaGreatDoor
open Go.RowKit Go.Big
/-- A call that may draw, inside a region whose world has drawn before. -/
theorem calls_drawn {P : Program} {f : FuncId} {xs : Array Value} {W : World} {k j : Nat} {r : Value}
    (hc : Calls P f xs (W.drewN (k + j)) fun e w' => e = .returned r ∧ ∃ i, w' = (W.drewN (k + j)).drewN i) :
    Calls P f xs (W.drewN (k + j)) fun e w' => e = .returned r ∧ ∃ i, w' = W.drewN (k + i) := by
  refine hc.mono ?_
  rintro e w' ⟨rfl, i, rfl⟩
  exact ⟨rfl, j + i, by rw [World.drewN_drewN, Nat.add_assoc]⟩
def GuessPost (w : World) (a b : List Nat) (e : Ending) (w' : World) : Prop :=
  ∃ d, e = .returned (.int .u64 (d : Nat)) ∧ d < 18446744073709551616 ∧ val B64 a < (d + 1) * val B64 b ∧ ∃ n, w' = w.drewN n
set_option maxRecDepth 100000 in
set_option maxHeartbeats 2000000 in
theorem guessDigit_core (ga offa capa gb offb capb n : Nat) (a b : List Nat) (w : World)
    (hca : ∀ j, j < a.length → w.cell? ⟨ga, offa + j, none⟩ = some (.int .u64 (nth a j))) (hcb : ∀ j, j < b.length → w.cell? ⟨gb, offb + j, none⟩ = some (.int .u64 (nth b j)))
    (wa : Wd B64 a) (wb : Wd B64 b) (ha : a.length = n + 3) (hb : b.length = n + 2) (hn : n ≤ 1099511627776) (hU : val B64 a < B64 * val B64 b) :
    Calls Tryz.prog 225 #[.slice (some ⟨ga, offa, none⟩) (n + 3) capa, .slice (some ⟨gb, offb, none⟩) (n + 2) capb] w (GuessPost w a b) := by
  have c2 := hca (n + 2) (by omega)
  have c1 := hca (n + 1) (by omega)
  have c0 := hca n (by omega)
  have d1 := hcb (n + 1) (by omega)
  have d0 := hcb n (by omega)
  have x2 := wa.nth (i := n + 2) (by omega)
  have x1 := wa.nth (i := n + 1) (by omega)
  have x0 := wa.nth (i := n) (by omega)
  have y1 := wb.nth (i := n + 1) (by omega)
  have y0 := wb.nth (i := n) (by omega)
  have hup := fun q => guess_up (q := q) wa ha hb
  have HU := Lib.hid hU
  have HUP := Lib.hid hup
  clear hca hcb ha hb wa wb hU hup
  generalize nth a (n + 2) = A2 at *
  generalize nth a (n + 1) = A1 at *
  generalize nth a n = A0 at *
  generalize nth b (n + 1) = V1 at *
  generalize nth b n = V0 at *
  by_cases hge : V1 ≤ A2
  · have HX := Lib.hid (And.intro x2 (And.intro x1 (And.intro x0 (And.intro y1 y0))))
    clear x2 x1 x0 y1 y0
    go_enter Tryz.func225, Tryz.ntmps225
    go_wp2_with fail
    go_quiet (fail)
    go_wp2_with fail
    go_ret
    exact ⟨18446744073709551615, rfl, by decide, HU.out, _, rfl⟩
  · have hlt : A2 < V1 := by omega
    have hst := GsInv.start (x0 := A0) (v0 := V0) hlt y1 x1 x0
    have hdv := fun w' => div64_any (hi := A2) (lo := A1) hlt y1 x1 w'
    have HST := Lib.hid hst
    have HDV := Lib.hid hdv
    have HX0 := Lib.hid x0
    have HY1 := Lib.hid y1
    have HY0 := Lib.hid y0
    have hs1 : (n : Int) + 2 - 1 = n + 1 := by omega
    have hs2 : n + 2 - 1 = n + 1 := rfl
    have hdec : decide ((V1 : Int) ≤ (A2 : Int)) = false := by simp; omega
    clear hst hdv x2 x1 x0 y1 y0
    go_enter Tryz.func225, Tryz.ntmps225
    go_wp2_with fail
    go_quiet (fail)
    go_wp2_with fail
    go_quiet ((go_at_call 205; exact calls_drawn (HDV.out _)))
    go_wp2_with fail
    go_loopw [6, 7] (fun x y wr => ∃ (q r d : Nat), x = .int .u64 q ∧ y = .int .u64 r ∧ GsInv 18446744073709551616 A2 A1 A0 V1 V0 q r ∧ wr = w.drewN d) (fun x _ _ => (intOf x).toNat)
    case atStart => exact ⟨_, _, _, rfl, rfl, HST.out, World.drewN_drewN _ _ _⟩
    case round =>
      obtain ⟨q, r, d, rfl, rfl, hinv, rfl⟩ := hrel
      have hmul := mul_at q V0 hinv.qlt HY0.out (w.drewN d)
      have HM := Lib.hid hmul
      have e := mul_eq q V0
      have HE := Lib.hid e
      have HI := Lib.hid hinv
      clear hmul e hinv
      generalize mulHi q V0 = hi at *
      generalize mulLo q V0 = lo at *
      by_cases ht : r < hi ∨ hi = r ∧ A0 < lo
      · obtain ⟨hq, heq, hup⟩ := HI.out.step HX0.out HE.out ht
        obtain ⟨p, hp⟩ : ∃ p, q = p + 1 := ⟨q - 1, by omega⟩
        have hsb : subW q 1 = p := by have := HI.out.qlt; rw [subW_le (by omega) this]; omega
        rw [hp, Nat.add_sub_cancel] at heq hup
        have hlo := HI.out.qlt
        have hrl := HI.out.rlt
        have hpl : Hid (p < 18446744073709551616) := (by omega : p < 18446744073709551616)
        have hpq : Hid (p < q) := (by omega : p < q)
        have HEQ := Lib.hid heq
        have HUp := Lib.hid hup
        have hadd := fun w' => run_addc r V1 w'
        have hcase : (hi : Int) < r → False := by omega
        have hd1 : r ≤ hi := by omega
        have hd2 : ((hi : Int) == r) = true ∧ A0 < lo ∨ ((hi : Int) == r) = false := by
          rcases ht with h | ⟨h1, h2⟩
          · right; rw [beq_eq_false_iff_ne]; omega
          · left; exact ⟨by rw [beq_iff_eq]; omega, h2⟩
        have HHL := Lib.hid hlo
        have HRL := Lib.hid hrl
        clear ht heq hup hp hq hcase hlo hrl
        by_cases hc : addHi r V1 0 = 0
        · have hc' : ((addHi r V1 0 : Int) != 0) = false := by rw [hc]; rfl
          have ha := add_eq r V1 0
          rw [hc] at ha
          have HA := Lib.hid ha
          have HC := Lib.hid hc
          clear ha hc
          rcases hd2 with ⟨h1, h2⟩ | h1
          · go_wp2_with (go_at_call 152; refine HM.out.mono ?_; rintro e w1 ⟨rfl, rfl⟩)
            go_roundw
            case rel => exact ⟨p, addLo r V1 0, d, rfl, rfl, ⟨by rw [← HEQ.out]; have := HA.out; omega, addLo_lt _ _ _, hpl.out, HUp.out⟩, rfl⟩
            case measure => have := hpq.out; simp [intOf]; omega
          · go_wp2_with (go_at_call 152; refine HM.out.mono ?_; rintro e w1 ⟨rfl, rfl⟩)
            go_roundw
            case rel => exact ⟨p, addLo r V1 0, d, rfl, rfl, ⟨by rw [← HEQ.out]; have := HA.out; omega, addLo_lt _ _ _, hpl.out, HUp.out⟩, rfl⟩
            case measure => have := hpq.out; simp [intOf]; omega
        · have hc' : ((addHi r V1 0 : Int) != 0) = true := by rw [bne_iff_ne]; omega
          clear hc
          rcases hd2 with ⟨h1, h2⟩ | h1
          · go_wp2_with (go_at_call 152; refine HM.out.mono ?_; rintro e w1 ⟨rfl, rfl⟩)
            go_ret
            exact ⟨p, rfl, hpl.out, HUP.out _ HUp.out, d, rfl⟩
          · go_wp2_with (go_at_call 152; refine HM.out.mono ?_; rintro e w1 ⟨rfl, rfl⟩)
            go_ret
            exact ⟨p, rfl, hpl.out, HUP.out _ HUp.out, d, rfl⟩
      · have hx : hi < r ∨ ¬ hi < r ∧ ((hi : Int) == r) = true ∧ lo ≤ A0 := by
          by_cases h1 : hi < r
          · exact .inl h1
          · exact .inr ⟨h1, by rw [beq_iff_eq]; omega, by omega⟩
        clear ht
        rcases hx with h1 | ⟨h1, h2, h3⟩
        · go_wp2_with (go_at_call 152; refine HM.out.mono ?_; rintro e w1 ⟨rfl, rfl⟩)
          go_ret
          exact ⟨q, rfl, HI.out.qlt, HUP.out _ HI.out.up, d, rfl⟩
        · go_wp2_with (go_at_call 152; refine HM.out.mono ?_; rintro e w1 ⟨rfl, rfl⟩)
          go_ret
          exact ⟨q, rfl, HI.out.qlt, HUP.out _ HI.out.up, d, rfl⟩
/-- guessDigit, for slices that can be read -/
theorem guess_at {ao bo : Option Addr} {capa capb na nb : Nat} {a b : List Nat} {w : World} (sa : SlA w .u64 ao capa a) (sb : SlA w .u64 bo capb b) (wa : Wd B64 a) (wb : Wd B64 b)
    (ha : a.length = b.length + 1) (hb : 2 ≤ b.length) (hU : val B64 a < B64 * val B64 b) (hna : a.length = na) (hnb : b.length = nb) :
    Calls Tryz.prog 225 #[.slice ao na capa, .slice bo nb capb] w (GuessPost w a b) := by
  subst hna hnb
  have hm := sb.len_le
  obtain ⟨n, hn⟩ : ∃ n, b.length = n + 2 := ⟨b.length - 2, by omega⟩
  obtain ⟨ga, offa, rfl, _, hca⟩ := sa.at (i := 0) (by omega)
  obtain ⟨gb, offb, rfl, _, hcb⟩ := sb.at (i := 0) (by omega)
  have := guessDigit_core ga offa capa gb offb capb n a b w hca hcb wa wb (by omega) hn (by omega) hU
  rw [ha, hn]
  exact this
end Go.Proofs.YtekghemhccfhkaaGreatDoor
namespace Go.Big
open Go
theorem div_two {h l s t : Nat} (st : s + t = 64) : (h * 18446744073709551616 + l) / 2 ^ t = h * 2 ^ s + l / 2 ^ t := by
  rw [← pow64 st, ← Nat.mul_assoc, Nat.mul_comm (h * 2 ^ s), Nat.mul_add_div (Nat.pow_pos (by decide))]
theorem head2 {l : List Nat} {n s t : Nat} (wl : Wd B64 l) (hl : l.length = n + 2) (st : s + t = 64) (hs : nth l (n + 1) * 2 ^ s < 18446744073709551616) :
    orW (shlW (nth l (n + 1)) s) (shrW (nth l n) t) = val B64 l / (B64 ^ n * 2 ^ t) := by
  rw [← Nat.div_div_eq_div_mul, val_div_pow wl n (by omega), drop_val_nth _ _ _ (by omega), drop_val_nth _ _ _ (by omega), List.drop_eq_nil_of_le (by omega)]
  simp only [val, Nat.mul_zero, Nat.add_zero]
  have e : nth l n + B64 * nth l (n + 1) = nth l (n + 1) * 18446744073709551616 + nth l n := by rw [Nat.mul_comm, Nat.add_comm]
  rw [e, div_two st, orW_comm, orW_add st (shrW_lt st (wl.nth (by omega))), shrW_eq (by omega), shlW, Nat.min_eq_left (by omega), Nat.mod_eq_of_lt hs, Nat.add_comm]
theorem top_word {l : List Nat} {n : Nat} (wl : Wd B64 l) (hl : l.length = n + 2) : val B64 l / B64 ^ (n + 1) = nth l (n + 1) := by
  rw [val_div_pow wl _ (by omega), drop_val_nth _ _ _ (by omega), List.drop_eq_nil_of_le (by omega)]
  simp [val]
theorem top_le {a b : List Nat} {n : Nat} (wa : Wd B64 a) (wb : Wd B64 b) (ha : a.length = n + 2) (hb : b.length = n + 2) (h : val B64 b ≤ val B64 a) : nth b (n + 1) ≤ nth a (n + 1) := by
  have h1 := Nat.div_le_div_right (c := B64 ^ (n + 1)) h
  rwa [top_word wa ha, top_word wb hb] at h1
theorem head1 {l : List Nat} {n s t : Nat} (wl : Wd B64 l) (hl : l.length = n + 1) (st : s + t = 64) :
    shrW (nth l n) t = val B64 l / (B64 ^ n * 2 ^ t) := by
  rw [← Nat.div_div_eq_div_mul, val_div_pow wl n (by omega), drop_val_nth _ _ _ (by omega), List.drop_eq_nil_of_le (by omega), shrW_eq (by omega)]
  simp [val]
theorem head0 {l : List Nat} {n t : Nat} (wl : Wd B64 l) (hl : l.length ≤ n) : 0 = val B64 l / (B64 ^ n * 2 ^ t) := by
  rw [← Nat.div_div_eq_div_mul, Nat.div_eq_of_lt (a := val B64 l)]
  · simp
  · exact Nat.lt_of_lt_of_le (val_lt wl) (Nat.pow_le_pow_right (by decide) hl)
end Go.Big
namespace Go.Proofs.YtekghemhccfhkaaGreatDoor
open Go.RowKit Go.Big
def HeadPost (w : World) (m k : Nat) (e : Ending) (w' : World) : Prop :=
  ∃ S, 0 < S ∧ e = .returned (.tuple #[.int .u64 (m / S : Nat), .int .u64 (k / S : Nat)]) ∧ m / S < 18446744073709551616 ∧ ∃ n, w' = w.drewN n
theorem ret_2i {k : IntKind} {a b c d : Int} (h : a = b) (h' : c = d) : Ending.returned (.tuple #[.int k a, .int k c]) = .returned (.tuple #[.int k b, .int k d]) := by rw [h, h']
set_option maxRecDepth 100000 in
set_option maxHeartbeats 2000000 in
/-- heads -/
theorem heads_any {va vb : Value} {m k : Nat} {w : World} (ha : NatV w .u64 B64 va m) (hb : NatV w .u64 B64 vb k) (hk : k ≤ m) (hk2 : B64 ≤ k) :
    Calls Tryz.prog 198 #[va, vb] w (HeadPost w m k) := by
  obtain ⟨ao, capa, la, rfl, sa, wa, za, ea⟩ := ha
  obtain ⟨bo, capb, lb, rfl, sb, wb, zb, eb⟩ := hb
  have hlb2 : 2 ≤ lb.length := by
    rcases Nat.lt_or_ge lb.length 2 with h1 | h1
    · have h2 := val_lt wb
      have h3 : B64 ^ lb.length ≤ B64 ^ 1 := Nat.pow_le_pow_right (by decide) (by omega)
      rw [Nat.pow_one] at h3
      omega
    · exact h1
  have hle : lb.length ≤ la.length := by
    rcases Nat.lt_or_ge la.length lb.length with h1 | h1
    · have := val_lt_of_len (B := B64) (by decide) wa zb h1; omega
    · exact h1
  have hm := sa.len_le
  obtain ⟨n, hn⟩ : ∃ n, la.length = n + 2 := ⟨la.length - 2, by omega⟩
  obtain ⟨ga, offa, rfl, _, hca⟩ := sa.at (i := n + 1) (by omega)
  obtain ⟨gb, offb, rfl, _, hcb⟩ := sb.at (i := 0) (by omega)
  have c1 := hca (n + 1) (by omega)
  have c0 := hca n (by omega)
  have htop : 0 < nth la (n + 1) := by
    have := nth_of_Nz za (by intro e; simp [e] at hn)
    rw [hn] at this
    simp only [Nat.add_succ_sub_one] at this
    omega
  obtain ⟨s, hs, hs1, hs2, hlz⟩ := lz_at htop (wa.nth (i := n + 1) (by omega))
  obtain ⟨t, ht⟩ : ∃ t, s + t = 64 := ⟨64 - s, by omega⟩
  have hst : (64 : Int) - (s : Int) = (t : Int) := by omega
  have hx := head2 wa hn ht hs2
  rw [ea] at hx
  have hx64 : m / (B64 ^ n * 2 ^ t) < 18446744073709551616 := by rw [← hx]; exact orW_lt _ _
  have hS : 0 < B64 ^ n * 2 ^ t := Nat.mul_pos (Nat.pow_pos (by decide)) (Nat.pow_pos (by decide))
  have hl1 : (la.length : Int) - 1 = ((n + 1 : Nat) : Int) := by omega
  have hl2 : (la.length : Int) - 2 = ((n : Nat) : Int) := by omega
  have hil : n + 1 < la.length := by omega
  have hin : n < la.length := by omega
  have HLZ := Lib.hid hlz
  have HX := Lib.hid hx
  have HF := Lib.hid (And.intro hS hx64)
  have HN := Lib.hid hn
  have hkv : val B64 lb ≤ val B64 la := by omega
  have HK := Lib.hid hkv
  have HS2 := Lib.hid hs2
  have HE := Lib.hid eb
  clear hkv eb hlz htop hs1 hs2 hx hx64 hS hca sa sb ea hk hk2
  rcases Nat.lt_trichotomy la.length (lb.length + 1) with h | h | h
  · have hl : lb.length = n + 2 := by omega
    have d1 := hcb (n + 1) (by omega)
    have d0 := hcb n (by omega)
    have hy := head2 wb hl ht (Nat.lt_of_le_of_lt (Nat.mul_le_mul_right _ (top_le wa wb hn hl HK.out)) HS2.out)
    rw [HE.out] at hy
    have e0 : (((la.length : Int) - (lb.length : Int)) == 0) = true := by rw [beq_iff_eq]; omega
    have hil' : n + 1 < lb.length := by omega
    have hin' : n < lb.length := by omega
    have HY := Lib.hid hy
    clear hy hcb hn h
    go_enter Tryz.func198, Tryz.ntmps198
    go_wp2_with fail
    refine (HLZ.out _).mono ?_
    rintro e w1 ⟨rfl, rfl⟩
    go_wp2_with fail
    go_quiet (fail)
    go_wp2_with fail
    go_quiet (fail)
    go_wp2_with fail
    go_ret2
    exact ⟨_, HF.out.1, ret_2i (by rw [← HX.out]) (by rw [← HY.out]), HF.out.2, _, World.drewN_drewN _ _ _⟩
  · have hl : lb.length = n + 1 := by omega
    have d0 := hcb n (by omega)
    have hy := head1 wb hl ht
    rw [HE.out] at hy
    have e0 : (((la.length : Int) - (lb.length : Int)) == 0) = false := by rw [beq_eq_false_iff_ne]; omega
    have e1 : (((la.length : Int) - (lb.length : Int)) == 1) = true := by rw [beq_iff_eq]; omega
    have hin' : n < lb.length := by omega
    have HY := Lib.hid hy
    clear hy hcb hn h
    go_enter Tryz.func198, Tryz.ntmps198
    go_wp2_with fail
    refine (HLZ.out _).mono ?_
    rintro e w1 ⟨rfl, rfl⟩
    go_wp2_with fail
    go_quiet (fail)
    go_wp2_with fail
    go_quiet (fail)
    go_wp2_with fail
    go_ret2
    exact ⟨_, HF.out.1, ret_2i (by rw [← HX.out]) (by rw [← HY.out]), HF.out.2, _, World.drewN_drewN _ _ _⟩
  · have hl : lb.length ≤ n := by omega
    have hy := head0 (t := t) wb hl
    rw [HE.out] at hy
    have e0 : (((la.length : Int) - (lb.length : Int)) == 0) = false := by rw [beq_eq_false_iff_ne]; omega
    have e1 : (((la.length : Int) - (lb.length : Int)) == 1) = false := by rw [beq_eq_false_iff_ne]; omega
    have HY := Lib.hid hy
    clear hy hcb hn h
    go_enter Tryz.func198, Tryz.ntmps198
    go_wp2_with fail
    refine (HLZ.out _).mono ?_
    rintro e w1 ⟨rfl, rfl⟩
    go_wp2_with fail
    go_quiet (fail)
    go_wp2_with fail
    go_ret2
    exact ⟨_, HF.out.1, ret_2i (by rw [← HX.out]) (by rw [← HY.out]; rfl), HF.out.2, _, rfl⟩
end Go.Proofs.YtekghemhccfhkaaGreatDoor
namespace Go.Proofs.YtekghemhccfhkaaGreatDoor
open Go.RowKit Go.Big
theorem below_five {B g : Nat} {a w : World} {v0 v1 v2 v3 v4 : Value} (h : Below B a w) (hg : B ≤ g) :
    Below B a (((((w.setCell ⟨g, 0, none⟩ v0).setCell ⟨g, 1, none⟩ v1).setCell ⟨g, 2, none⟩ v2).setCell ⟨g, 3, none⟩ v3).setCell ⟨g, 4, none⟩ v4) :=
  ((((h.setCell hg _).setCell hg _).setCell hg _).setCell hg _).setCell hg _
theorem below_two (w : World) (o o' : Obj) (d : Nat) : Below w.heap.size w (((w.alloc o).alloc o').drewN d) := below_drewN (((Below.refl _ _).alloc (Nat.le_refl _) _).alloc (by simp) _) _
def FsPost (w : World) (m k : Nat) (e : Ending) (w' : World) : Prop :=
  ∃ S c aA bA aB bB x y P Q : Nat, e = .returned (.agg #[.int .i64 c, .int .u64 aA, .int .u64 bA, .int .u64 aB, .int .u64 bB]) ∧ FsInv S m k c aA bA aB bB x y P Q ∧ FsCnt c aA bA aB bB y ∧ c < 17179869184 ∧ Below w.heap.size w w'
theorem row_set {w : World} {g : Nat} {cs : Array Value} {t : TypeId} (h : w.heap[g]? = some (.cells cs t (0, 0))) (i : Nat) (v : Value) : (w.setCell ⟨g, i, none⟩ v).heap[g]? = some (.cells (cs.setIfInBounds i v) t (0, 0)) := by
  rw [setCell_eq_setRow w g i cs t (0, 0) v h]
  exact setRow_heap w g cs _ t (0, 0) h
/-- The found steps lie in the second block that the call has made. -/
structure FsW (w : World) (c aA bA aB bB : Nat) (wr : World) : Prop where
  row : wr.heap[w.heap.size + 1]? = some (.cells #[.int .i64 c, .int .u64 aA, .int .u64 bA, .int .u64 aB, .int .u64 bB] 164 (0, 0))
  res : ∃ v0 v1 v2 v3 v4, wr.heap[w.heap.size]? = some (.cells #[v0, v1, v2, v3, v4] 164 (0, 0))
  bel : Below w.heap.size w wr
theorem FsW.step {w wr : World} {c aA bA aB bB nA nB : Nat} (h : FsW w c aA bA aB bB wr) (d : Nat) :
    FsW w (c + 1) aB bB nA nB ((((((wr.drewN d).setCell ⟨w.heap.size + 1, 1, none⟩ (.int .u64 aB)).setCell ⟨w.heap.size + 1, 3, none⟩ (.int .u64 nA)).setCell ⟨w.heap.size + 1, 2, none⟩ (.int .u64 bB)).setCell ⟨w.heap.size + 1, 4, none⟩ (.int .u64 nB)).setCell ⟨w.heap.size + 1, 0, none⟩ (.int .i64 ((c : Int) + 1))) := by
  have h0 : (wr.drewN d).heap[w.heap.size + 1]? = some (.cells #[.int .i64 c, .int .u64 aA, .int .u64 bA, .int .u64 aB, .int .u64 bB] 164 (0, 0)) := h.row
  obtain ⟨v0, v1, v2, v3, v4, hr⟩ := h.res
  refine ⟨row_set (row_set (row_set (row_set (row_set h0 1 _) 3 _) 2 _) 4 _) 0 _, ⟨v0, v1, v2, v3, v4, ?_⟩, ?_⟩
  · rw [Below.heap_setCell _ _ _ _ (by simp), Below.heap_setCell _ _ _ _ (by simp), Below.heap_setCell _ _ _ _ (by simp), Below.heap_setCell _ _ _ _ (by simp), Below.heap_setCell _ _ _ _ (by simp)]
    exact hr
  · exact (((((below_drewN h.bel d).setCell (Nat.le_succ _) _).setCell (Nat.le_succ _) _).setCell (Nat.le_succ _) _).setCell (Nat.le_succ _) _).setCell (Nat.le_succ _) _
theorem FsW.cell {w wr : World} {c aA bA aB bB : Nat} (h : FsW w c aA bA aB bB wr) :
    wr.cell? ⟨w.heap.size + 1, 0, none⟩ = some (.int .i64 c) ∧ wr.cell? ⟨w.heap.size + 1, 1, none⟩ = some (.int .u64 aA) ∧ wr.cell? ⟨w.heap.size + 1, 2, none⟩ = some (.int .u64 bA) ∧ wr.cell? ⟨w.heap.size + 1, 3, none⟩ = some (.int .u64 aB) ∧ wr.cell? ⟨w.heap.size + 1, 4, none⟩ = some (.int .u64 bB) := by
  have hr := h.row
  refine ⟨?_, ?_, ?_, ?_, ?_⟩ <;> simp [World.cell?, hr]
theorem FsW.free {w wr : World} {c aA bA aB bB : Nat} (h : FsW w c aA bA aB bB wr) : ∀ i, wr.frozen? ⟨w.heap.size + 1, i, none⟩ = false := by
  have hr := h.row
  intro i; simp [World.frozen?, hr]
theorem FsW.resCell {w wr : World} {c aA bA aB bB : Nat} (h : FsW w c aA bA aB bB wr) :
    ∃ v0 v1 v2 v3 v4, wr.cell? ⟨w.heap.size, 0, none⟩ = some v0 ∧ wr.cell? ⟨w.heap.size, 1, none⟩ = some v1 ∧ wr.cell? ⟨w.heap.size, 2, none⟩ = some v2 ∧ wr.cell? ⟨w.heap.size, 3, none⟩ = some v3 ∧ wr.cell? ⟨w.heap.size, 4, none⟩ = some v4 ∧
      ∀ i, wr.frozen? ⟨w.heap.size, i, none⟩ = false := by
  obtain ⟨v0, v1, v2, v3, v4, hr⟩ := h.res
  refine ⟨v0, v1, v2, v3, v4, ?_, ?_, ?_, ?_, ?_, fun i => ?_⟩ <;> simp [World.cell?, World.frozen?, hr]
/-- The results are five cells that the call's end has written. -/
theorem FsW.res5 {w wr : World} {c aA bA aB bB : Nat} (h : FsW w c aA bA aB bB wr) {v0 v1 v2 v3 v4 : Value} {W : World}
    (hW : W = (((((wr.setCell ⟨w.heap.size, 0, none⟩ v0).setCell ⟨w.heap.size, 1, none⟩ v1).setCell ⟨w.heap.size, 2, none⟩ v2).setCell ⟨w.heap.size, 3, none⟩ v3).setCell ⟨w.heap.size, 4, none⟩ v4)) :
    W.cell? ⟨w.heap.size, 0, none⟩ = some v0 ∧ W.cell? ⟨w.heap.size, 1, none⟩ = some v1 ∧ W.cell? ⟨w.heap.size, 2, none⟩ = some v2 ∧ W.cell? ⟨w.heap.size, 3, none⟩ = some v3 ∧ W.cell? ⟨w.heap.size, 4, none⟩ = some v4 := by
  obtain ⟨u0, u1, u2, u3, u4, hr⟩ := h.res
  have hh := row_set (row_set (row_set (row_set (row_set hr 0 v0) 1 v1) 2 v2) 3 v3) 4 v4
  rw [← hW] at hh
  refine ⟨?_, ?_, ?_, ?_, ?_⟩ <;> simp [World.cell?, hh]
theorem FsW.res1 {w wr : World} {c aA bA aB bB : Nat} (h : FsW w c aA bA aB bB wr) (v : Value) : (wr.setCell ⟨w.heap.size, 0, none⟩ v).cell? ⟨w.heap.size, 0, none⟩ = some v := by
  obtain ⟨u0, u1, u2, u3, u4, hr⟩ := h.res
  have hh := row_set hr 0 v
  simp [World.cell?, hh]
theorem FsW.drawn {w wr : World} {c aA bA aB bB : Nat} (h : FsW w c aA bA aB bB wr) (d : Nat) : FsW w c aA bA aB bB (wr.drewN d) :=
  ⟨h.row, h.res, below_drewN h.bel d⟩
def FsRel (w : World) (S m k : Nat) (vx vy : Value) (wr : World) : Prop :=
  ∃ c aA bA aB bB x y P Q : Nat, vx = .int .u64 x ∧ vy = .int .u64 y ∧ FsInv S m k c aA bA aB bB x y P Q ∧ FsCnt c aA bA aB bB y ∧ FsW w c aA bA aB bB wr
theorem FsW.start (w : World) (d : Nat) : FsW w 0 1 0 0 1 (((w.alloc (.cells #[.int .i64 0, .int .u64 0, .int .u64 0, .int .u64 0, .int .u64 0] 164)).alloc (.cells #[.int .i64 0, .int .u64 1, .int .u64 0, .int .u64 0, .int .u64 1] 164)).drewN d) := by
  refine ⟨?_, ⟨.int .i64 0, .int .u64 0, .int .u64 0, .int .u64 0, .int .u64 0, ?_⟩, below_two w _ _ d⟩
  · have := heap_alloc_new (w.alloc (.cells #[.int .i64 0, .int .u64 0, .int .u64 0, .int .u64 0, .int .u64 0] 164)) (.cells #[.int .i64 0, .int .u64 1, .int .u64 0, .int .u64 0, .int .u64 1] 164)
    simpa using this
  · show ((w.alloc _).alloc _).heap[w.heap.size]? = _
    rw [heap_alloc_old _ _ (by simp)]
    exact heap_alloc_new w _
set_option maxRecDepth 100000 in
set_option maxHeartbeats 1000000 in
/-- findSteps -/
theorem findSteps_any {va vb : Value} {m k : Nat} {w : World} (ha : NatV w .u64 B64 va m) (hb : NatV w .u64 B64 vb k) (hk : k ≤ m) (hk2 : B64 ≤ k) :
    Calls Tryz.prog 164 #[va, vb] w (FsPost w m k) := by
  have hh := fun w' (h : Below w.heap.size w w') => heads_any (ha.below h) (hb.below h) hk hk2
  have HH := Lib.hid hh
  have HKM := Lib.hid hk
  clear hh ha hb hk hk2
  go_enter Tryz.func164, Tryz.ntmps164
  go_wp2_with fail
  refine (HH.out _ (((Below.refl _ _).alloc (Nat.le_refl _) _).alloc (by simp) _)).mono ?_
  rintro e w1 ⟨S, hS, rfl, h64, n1, rfl⟩
  have hst := FsInv.start (S := S) HKM.out
  have H64 := Lib.hid h64
  have HS := Lib.hid hS
  obtain ⟨X, hX⟩ : ∃ X, m / S = X := ⟨_, rfl⟩
  obtain ⟨Y, hY⟩ : ∃ Y, k / S = Y := ⟨_, rfl⟩
  rw [hX, hY] at hst ⊢
  have HST := Lib.hid hst
  clear h64 hS hX hY hst
  go_wp2_with fail
  go_loopw [6, 7] (fun x y wr => FsRel w S m k x y wr) (fun _ y _ => (intOf y).toNat)
  case atStart => exact ⟨0, 1, 0, 0, 1, X, Y, m, k, rfl, rfl, HST.out, FsCnt.start Y, FsW.start w n1⟩
  case round =>
    clear HST
    obtain ⟨c, aA, bA, aB, bB, x, y, P, Q, rfl, rfl, hinv, hcnt, hfw⟩ := hrel
    obtain ⟨k0, k1, k2, k3, k4⟩ := hfw.cell
    have kf0 := hfw.free 0
    have kf1 := hfw.free 1
    have kf2 := hfw.free 2
    have kf3 := hfw.free 3
    have kf4 := hfw.free 4
    obtain ⟨v0, v1, v2, v3, v4, l0, l1, l2, l3, l4, lf⟩ := hfw.resCell
    have lf0 := lf 0
    have lf1 := lf 1
    have lf2 := lf 2
    have lf3 := lf 3
    have lf4 := lf 4
    have HFW := Lib.hid hfw
    clear hfw lf
    have HI := Lib.hid hinv
    have HC := Lib.hid hcnt
    have hc34 := hinv.count hcnt H64.out
    by_cases hy : y = 0
    · have hy' : ((y : Int) != 0) = false := by rw [hy]; rfl
      have HC34 := Lib.hid hc34
      clear hy hinv hcnt hc34
      go_wp2_with fail
      refine bodyPost_ret (v := .agg #[.int .i64 c, .int .u64 aA, .int .u64 bA, .int .u64 aB, .int .u64 bB]) (by obtain ⟨e0, e1, e2, e3, e4⟩ := HFW.out.res5 (v0 := .int .i64 c) (v1 := .int .u64 aA) (v2 := .int .u64 bA) (v3 := .int .u64 aB) (v4 := .int .u64 bB) rfl; have e5 := HFW.out.res1 (.int .i64 c); simp [results, Tryz.results164, go_sem, e1, e2, e3, e4, e5]) rfl ⟨S, c, aA, bA, aB, bB, x, y, P, Q, rfl, HI.out, HC.out, HC34.out, ?_⟩
      first | exact below_five HFW.out.bel (Nat.le_refl _) | exact below_five (below_drewN HFW.out.bel _) (Nat.le_refl _)
    · have hy' : ((y : Int) != 0) = true := by rw [bne_iff_ne]; omega
      have hyp : 0 < y := by omega
      obtain ⟨q, r, nA, nB, yr, hR⟩ := hinv.round hcnt HS.out hyp H64.out
      have hquo := hR.hquo
      have hr := hR.hr
      have ha1 := hR.ha1
      have ha2 := hR.ha2
      have hyr := hR.hyr
      have HR := Lib.hid hR
      have HC34 := Lib.hid hc34
      clear hR hinv hcnt hy
      rcases Nat.lt_or_ge r nB with t1 | t1
      · clear hc34
        go_wp2_with fail
        go_quiet (fail)
        go_wp2_with fail
        refine bodyPost_ret (v := .agg #[.int .i64 c, .int .u64 aA, .int .u64 bA, .int .u64 aB, .int .u64 bB]) (by
            have g0 : ∀ d, (wr.drewN d).cell? ⟨w.heap.size, 0, none⟩ = some v0 := fun _ => l0
            have g1 : ∀ d, (wr.drewN d).cell? ⟨w.heap.size, 1, none⟩ = some v1 := fun _ => l1
            have g2 : ∀ d, (wr.drewN d).cell? ⟨w.heap.size, 2, none⟩ = some v2 := fun _ => l2
            have g3 : ∀ d, (wr.drewN d).cell? ⟨w.heap.size, 3, none⟩ = some v3 := fun _ => l3
            have g4 : ∀ d, (wr.drewN d).cell? ⟨w.heap.size, 4, none⟩ = some v4 := fun _ => l4
            have f0 : ∀ d, (wr.drewN d).frozen? ⟨w.heap.size, 0, none⟩ = false := fun _ => lf0
            have f1 : ∀ d, (wr.drewN d).frozen? ⟨w.heap.size, 1, none⟩ = false := fun _ => lf1
            have f2 : ∀ d, (wr.drewN d).frozen? ⟨w.heap.size, 2, none⟩ = false := fun _ => lf2
            have f3 : ∀ d, (wr.drewN d).frozen? ⟨w.heap.size, 3, none⟩ = false := fun _ => lf3
            have f4 : ∀ d, (wr.drewN d).frozen? ⟨w.heap.size, 4, none⟩ = false := fun _ => lf4
            simp [results, Tryz.results164, go_sem, g0, g1, g2, g3, g4]) rfl ⟨S, c, aA, bA, aB, bB, x, y, P, Q, rfl, HI.out, HC.out, HC34.out, ?_⟩
        first | exact below_five HFW.out.bel (Nat.le_refl _) | exact below_five (below_drewN HFW.out.bel _) (Nat.le_refl _)
      · have e1 := HR.out.hbn t1
        by_cases t2 : yr < bB + nB
        · clear hc34
          go_wp2_with fail
          go_quiet (fail)
          go_wp2_with fail
          refine bodyPost_ret (v := .agg #[.int .i64 c, .int .u64 aA, .int .u64 bA, .int .u64 aB, .int .u64 bB]) (by
            have g0 : ∀ d, (wr.drewN d).cell? ⟨w.heap.size, 0, none⟩ = some v0 := fun _ => l0
            have g1 : ∀ d, (wr.drewN d).cell? ⟨w.heap.size, 1, none⟩ = some v1 := fun _ => l1
            have g2 : ∀ d, (wr.drewN d).cell? ⟨w.heap.size, 2, none⟩ = some v2 := fun _ => l2
            have g3 : ∀ d, (wr.drewN d).cell? ⟨w.heap.size, 3, none⟩ = some v3 := fun _ => l3
            have g4 : ∀ d, (wr.drewN d).cell? ⟨w.heap.size, 4, none⟩ = some v4 := fun _ => l4
            have f0 : ∀ d, (wr.drewN d).frozen? ⟨w.heap.size, 0, none⟩ = false := fun _ => lf0
            have f1 : ∀ d, (wr.drewN d).frozen? ⟨w.heap.size, 1, none⟩ = false := fun _ => lf1
            have f2 : ∀ d, (wr.drewN d).frozen? ⟨w.heap.size, 2, none⟩ = false := fun _ => lf2
            have f3 : ∀ d, (wr.drewN d).frozen? ⟨w.heap.size, 3, none⟩ = false := fun _ => lf3
            have f4 : ∀ d, (wr.drewN d).frozen? ⟨w.heap.size, 4, none⟩ = false := fun _ => lf4
            simp [results, Tryz.results164, go_sem, g0, g1, g2, g3, g4]) rfl ⟨S, c, aA, bA, aB, bB, x, y, P, Q, rfl, HI.out, HC.out, HC34.out, ?_⟩
          first | exact below_five HFW.out.bel (Nat.le_refl _) | exact below_five (below_drewN HFW.out.bel _) (Nat.le_refl _)
        · obtain ⟨Q', hn1, hn2⟩ := HR.out.next t1 (Nat.not_lt.1 t2)
          have HN := Lib.hid (And.intro hn1 hn2)
          clear hn1 hn2
          go_wp2_with fail
          go_quiet (fail)
          go_wp2_with fail
          go_roundw
          case rel => exact ⟨c + 1, aB, bB, nA, nB, y, r, Q, Q', rfl, rfl, HN.out.1, HN.out.2, HFW.out.step _⟩
          case measure => have := HR.out.ry; simp [intOf]; omega
end Go.Proofs.YtekghemhccfhkaaGreatDoor
namespace Go.Proofs.YtekghemhccfhkaaGreatDoor
open Go.RowKit Go.Big
theorem rest_step {a : List Nat} {x i r : Nat} (hi : i < a.length) (hr : r = val B64 (a.drop (i + 1)) % x) : dvR r (nth a i) x = val B64 (a.drop i) % x := by
  rw [drop_val_nth _ _ _ hi, hr, dvR_mod]
  unfold dvR
  rw [Nat.add_comm, Nat.mul_comm]
set_option maxRecDepth 100000 in
set_option maxHeartbeats 1000000 in
/-- restByWord -/
theorem restByWord_any {va : Value} {m x : Nat} {w : World} (ha : NatV w .u64 B64 va m) (hx0 : 0 < x) (hx : x < 18446744073709551616) :
    Calls Tryz.prog 166 #[va, .int .u64 x] w fun e w' => e = .returned (.int .u64 (m % x : Nat)) ∧ ∃ n, w' = w.drewN n := by
  obtain ⟨ao, capa, a, rfl, sa, wa, _, ea⟩ := ha
  have hm := sa.len_le
  have HX := Lib.hid hx
  have HE := Lib.hid ea
  clear hx ea
  go_enter Tryz.func166, Tryz.ntmps166
  go_wp2_with fail
  go_loopw [5, 6] (fun c i wr => ∃ (k r d : Nat), k ≤ a.length ∧ i = .int .i64 ((k : Int) - 1) ∧ c = .int .u64 r ∧ r = val B64 (a.drop k) % x ∧ wr = w.drewN d)
    (fun _ i _ => (intOf i + 1).toNat)
  case atStart => exact ⟨a.length, 0, 0, Nat.le_refl _, rfl, rfl, by rw [List.drop_length]; simp [val], rfl⟩
  case round =>
    obtain ⟨k, r, d, hk, rfl, rfl, hr, rfl⟩ := hrel
    have HR := Lib.hid hr
    clear hr
    rcases Nat.eq_zero_or_pos k with hk0 | hpos
    · subst hk0
      go_wp2_with fail
      go_ret
      exact ⟨ret_i (by rw [HR.out, List.drop_zero, HE.out]), d, rfl⟩
    · obtain ⟨i, rfl⟩ : ∃ i, k = i + 1 := ⟨k - 1, by omega⟩
      obtain ⟨ba, offa, rfl, _, hc⟩ := sa.at (i := i) (by omega)
      have ci := hc i (by omega)
      have hcall := fun w' => rem64_any (hi := r) hx0 HX.out (wa.nth (i := i) (by omega)) w'
      have HC := Lib.hid hcall
      have e1 : (((i + 1 : Nat) : Int) - 1) = i := by omega
      rw [e1]
      have SA := Lib.hid sa
      clear hcall e1 hpos hc sa
      go_wp2_with fail
      refine (HC.out _).mono ?_
      rintro e w1 ⟨rfl, m, rfl⟩
      go_wp2_with fail
      go_roundw
      case rel => exact ⟨i, _, _, by omega, rfl, rfl, rest_step (by omega) HR.out, rfl⟩
      case measure => simp [intOf]
end Go.Proofs.YtekghemhccfhkaaGreatDoor
