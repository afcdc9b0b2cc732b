/-
  Walks of the program's functions: Guess, SubProd, DdMath, TimesW.
-/
import Derived.Test.YtekghemhccfhkaaGreatDoorB05
import Derived.Test.YtekghemhccfhkaaGreatDoorB04
import Derived.Test.YtekghemhccfhkaaGreatDoorB01
import Derived.Test.YtekghemhccfhkaaGreatDoorB02
namespace Go.Big
open Go Go.RowKit
/-- The digit's guess: q is not too small; r is what it leaves of the first two words. -/
structure GsInv (B x2 x1 x0 v1 v0 q r : Nat) : Prop where
  eq : q * v1 + r = x2 * B + x1
  rlt : r < B
  qlt : q < B
  up : (x2 * B + x1) * B + x0 < (q + 1) * (v1 * B + v0)
theorem GsInv.mk0 {B x2 x1 x0 v1 v0 q r : Nat} (e : q * v1 + r = x2 * B + x1) (hr : r < v1) (hv : v1 < B) (hq : q < B) (h0 : x0 < B) : GsInv B x2 x1 x0 v1 v0 q r := by
  refine ⟨e, by omega, hq, ?_⟩
  have h2 : x2 * B + x1 + 1 ≤ (q + 1) * v1 := by rw [Nat.add_mul, Nat.one_mul]; omega
  have h3 : (x2 * B + x1 + 1) * B ≤ (q + 1) * v1 * B := Nat.mul_le_mul_right _ h2
  have h4 : (q + 1) * (v1 * B + v0) = (q + 1) * v1 * B + (q + 1) * v0 := by grind
  have h5 : (x2 * B + x1 + 1) * B = (x2 * B + x1) * B + B := by grind
  rw [h4]
  omega
theorem GsInv.start {x2 x1 x0 v1 v0 : Nat} (h : x2 < v1) (hv : v1 < 18446744073709551616) (h1 : x1 < 18446744073709551616) (h0 : x0 < 18446744073709551616) :
    GsInv 18446744073709551616 x2 x1 x0 v1 v0 (dvQ x2 x1 v1) (dvR x2 x1 v1) :=
  GsInv.mk0 (dv_eq x2 x1 v1) (dvR_lt (by omega)) hv (dvQ_lt h h1) h0
theorem lex_lt {B hi lo r x0 p : Nat} (e : lo + B * hi = p) (h0 : x0 < B) (ht : r < hi ∨ hi = r ∧ x0 < lo) : r * B + x0 < p := by
  rcases ht with h | ⟨rfl, h⟩
  · have h1 : B * (r + 1) ≤ B * hi := Nat.mul_le_mul_left _ h
    have h2 : B * (r + 1) = r * B + B := by grind
    omega
  · have : B * hi = hi * B := Nat.mul_comm _ _
    omega
/-- A refused guess is lowered. -/
theorem GsInv.step {B x2 x1 x0 v1 v0 q r hi lo : Nat} (h : GsInv B x2 x1 x0 v1 v0 q r) (h0 : x0 < B) (e : lo + B * hi = q * v0)
    (ht : r < hi ∨ hi = r ∧ x0 < lo) :
    0 < q ∧ (q - 1) * v1 + (r + v1) = x2 * B + x1 ∧ (x2 * B + x1) * B + x0 < (q - 1 + 1) * (v1 * B + v0) := by
  have hlt := lex_lt e h0 ht
  have hq : 0 < q := by
    rcases Nat.eq_zero_or_pos q with h2 | h2
    · subst h2; simp at hlt
    · exact h2
  obtain ⟨p, rfl⟩ : ∃ p, q = p + 1 := ⟨q - 1, by omega⟩
  refine ⟨hq, ?_, ?_⟩
  · have := h.eq
    simp only [Nat.add_sub_cancel]
    grind
  · simp only [Nat.add_sub_cancel]
    have e2 : (p + 1) * (v1 * B + v0) + r * B = (x2 * B + x1) * B + (p + 1) * v0 := by rw [← h.eq]; grind
    omega
theorem val_last2 {B : Nat} {l : List Nat} {n : Nat} (hl : l.length = n + 2) : val B l = val B (l.take n) + B ^ n * (nth l (n + 1) * B + nth l n) := by
  rw [take_drop_val B l n (by omega), drop_val_nth B l n (by omega), drop_val_nth B l (n + 1) (by omega), List.drop_eq_nil_of_le (by omega)]
  simp only [val]
  grind
theorem val_last3 {B : Nat} {l : List Nat} {n : Nat} (hl : l.length = n + 3) : val B l = val B (l.take n) + B ^ n * ((nth l (n + 2) * B + nth l (n + 1)) * B + nth l n) := by
  rw [take_drop_val B l n (by omega), drop_val_nth B l n (by omega), drop_val_nth B l (n + 1) (by omega), drop_val_nth B l (n + 2) (by omega), List.drop_eq_nil_of_le (by omega)]
  simp only [val]
  grind
/-- What holds of the first words holds of the numbers. -/
theorem guess_up {B : Nat} {a b : List Nat} {n q : Nat} (wa : Wd B a) (ha : a.length = n + 3) (hb : b.length = n + 2)
    (h : (nth a (n + 2) * B + nth a (n + 1)) * B + nth a n < (q + 1) * (nth b (n + 1) * B + nth b n)) : val B a < (q + 1) * val B b := by
  rw [val_last3 ha, val_last2 hb]
  have h1 := val_lt (wa.take n)
  rw [List.length_take, Nat.min_eq_left (by omega)] at h1
  generalize (nth a (n + 2) * B + nth a (n + 1)) * B + nth a n = x at *
  generalize nth b (n + 1) * B + nth b n = y at *
  have h2 : B ^ n * (x + 1) ≤ B ^ n * ((q + 1) * y) := Nat.mul_le_mul_left _ h
  have h3 : (q + 1) * (val B (b.take n) + B ^ n * y) = (q + 1) * val B (b.take n) + B ^ n * ((q + 1) * y) := by grind
  have h4 : B ^ n * (x + 1) = B ^ n * x + B ^ n := by grind
  omega
end Go.Big
namespace Go.Proofs.YtekghemhccfhkaaGreatDoor
open Go.RowKit Go.Big
/-- A call that may draw, inside a region whose world has drawn before. -/
theorem calls_drawn {P : Program} {f : FuncId} {xs : Array Value} {W : World} {k j : Nat} {r : Value}
    (hc : Calls P f xs (W.drewN (k + j)) fun e w' => e = .returned r ∧ ∃ i, w' = (W.drewN (k + j)).drewN i) :
    Calls P f xs (W.drewN (k + j)) fun e w' => e = .returned r ∧ ∃ i, w' = W.drewN (k + i) := by
  refine hc.mono ?_
  rintro e w' ⟨rfl, i, rfl⟩
  exact ⟨rfl, j + i, by rw [World.drewN_drewN, Nat.add_assoc]⟩
def GuessPost (w : World) (a b : List Nat) (e : Ending) (w' : World) : Prop :=
  ∃ d, e = .returned (.int .u64 (d : Nat)) ∧ d < 18446744073709551616 ∧ val B64 a < (d + 1) * val B64 b ∧ ∃ n, w' = w.drewN n
set_option maxRecDepth 100000 in
set_option maxHeartbeats 2000000 in
theorem guessDigit_core (ga offa capa gb offb capb n : Nat) (a b : List Nat) (w : World)
    (hca : ∀ j, j < a.length → w.cell? ⟨ga, offa + j, none⟩ = some (.int .u64 (nth a j))) (hcb : ∀ j, j < b.length → w.cell? ⟨gb, offb + j, none⟩ = some (.int .u64 (nth b j)))
    (wa : Wd B64 a) (wb : Wd B64 b) (ha : a.length = n + 3) (hb : b.length = n + 2) (hn : n ≤ 1099511627776) (hU : val B64 a < B64 * val B64 b) :
    Calls Tryz.prog 225 #[.slice (some ⟨ga, offa, none⟩) (n + 3) capa, .slice (some ⟨gb, offb, none⟩) (n + 2) capb] w (GuessPost w a b) := by
  have c2 := hca (n + 2) (by omega)
  have c1 := hca (n + 1) (by omega)
  have c0 := hca n (by omega)
  have d1 := hcb (n + 1) (by omega)
  have d0 := hcb n (by omega)
  have x2 := wa.nth (i := n + 2) (by omega)
  have x1 := wa.nth (i := n + 1) (by omega)
  have x0 := wa.nth (i := n) (by omega)
  have y1 := wb.nth (i := n + 1) (by omega)
  have y0 := wb.nth (i := n) (by omega)
  have hup := fun q => guess_up (q := q) wa ha hb
  have HU := Lib.hid hU
  have HUP := Lib.hid hup
  clear hca hcb ha hb wa wb hU hup
  generalize nth a (n + 2) = A2 at *
  generalize nth a (n + 1) = A1 at *
  generalize nth a n = A0 at *
  generalize nth b (n + 1) = V1 at *
  generalize nth b n = V0 at *
  by_cases hge : V1 ≤ A2
  · have HX := Lib.hid (And.intro x2 (And.intro x1 (And.intro x0 (And.intro y1 y0))))
    clear x2 x1 x0 y1 y0
    go_enter Tryz.func225, Tryz.ntmps225
    go_wp2_with fail
    go_quiet (fail)
    go_wp2_with fail
    go_ret
    exact ⟨18446744073709551615, rfl, by decide, HU.out, _, rfl⟩
  · have hlt : A2 < V1 := by omega
    have hst := GsInv.start (x0 := A0) (v0 := V0) hlt y1 x1 x0
    have hdv := fun w' => div64_any (hi := A2) (lo := A1) hlt y1 x1 w'
    have HST := Lib.hid hst
    have HDV := Lib.hid hdv
    have HX0 := Lib.hid x0
    have HY1 := Lib.hid y1
    have HY0 := Lib.hid y0
    have hs1 : (n : Int) + 2 - 1 = n + 1 := by omega
    have hs2 : n + 2 - 1 = n + 1 := rfl
    have hdec : decide ((V1 : Int) ≤ (A2 : Int)) = false := by simp; omega
    clear hst hdv x2 x1 x0 y1 y0
    go_enter Tryz.func225, Tryz.ntmps225
    go_wp2_with fail
    go_quiet (fail)
    go_wp2_with fail
    go_quiet ((go_at_call 205; exact calls_drawn (HDV.out _)))
    go_wp2_with fail
    go_loopw [6, 7] (fun x y wr => ∃ (q r d : Nat), x = .int .u64 q ∧ y = .int .u64 r ∧ GsInv 18446744073709551616 A2 A1 A0 V1 V0 q r ∧ wr = w.drewN d) (fun x _ _ => (intOf x).toNat)
    case atStart => exact ⟨_, _, _, rfl, rfl, HST.out, World.drewN_drewN _ _ _⟩
    case round =>
      obtain ⟨q, r, d, rfl, rfl, hinv, rfl⟩ := hrel
      have hmul := mul_at q V0 hinv.qlt HY0.out (w.drewN d)
      have HM := Lib.hid hmul
      have e := mul_eq q V0
      have HE := Lib.hid e
      have HI := Lib.hid hinv
      clear hmul e hinv
      generalize mulHi q V0 = hi at *
      generalize mulLo q V0 = lo at *
      by_cases ht : r < hi ∨ hi = r ∧ A0 < lo
      · obtain ⟨hq, heq, hup⟩ := HI.out.step HX0.out HE.out ht
        obtain ⟨p, hp⟩ : ∃ p, q = p + 1 := ⟨q - 1, by omega⟩
        have hsb : subW q 1 = p := by have := HI.out.qlt; rw [subW_le (by omega) this]; omega
        rw [hp, Nat.add_sub_cancel] at heq hup
        have hlo := HI.out.qlt
        have hrl := HI.out.rlt
        have hpl : Hid (p < 18446744073709551616) := (by omega : p < 18446744073709551616)
        have hpq : Hid (p < q) := (by omega : p < q)
        have HEQ := Lib.hid heq
        have HUp := Lib.hid hup
        have hadd := fun w' => run_addc r V1 w'
        have hcase : (hi : Int) < r → False := by omega
        have hd1 : r ≤ hi := by omega
        have hd2 : ((hi : Int) == r) = true ∧ A0 < lo ∨ ((hi : Int) == r) = false := by
          rcases ht with h | ⟨h1, h2⟩
          · right; rw [beq_eq_false_iff_ne]; omega
          · left; exact ⟨by rw [beq_iff_eq]; omega, h2⟩
        have HHL := Lib.hid hlo
        have HRL := Lib.hid hrl
        clear ht heq hup hp hq hcase hlo hrl
        by_cases hc : addHi r V1 0 = 0
        · have hc' : ((addHi r V1 0 : Int) != 0) = false := by rw [hc]; rfl
          have ha := add_eq r V1 0
          rw [hc] at ha
          have HA := Lib.hid ha
          have HC := Lib.hid hc
          clear ha hc
          rcases hd2 with ⟨h1, h2⟩ | h1
          · go_wp2_with (go_at_call 152; refine HM.out.mono ?_; rintro e w1 ⟨rfl, rfl⟩)
            go_roundw
            case rel => exact ⟨p, addLo r V1 0, d, rfl, rfl, ⟨by rw [← HEQ.out]; have := HA.out; omega, addLo_lt _ _ _, hpl.out, HUp.out⟩, rfl⟩
            case measure => have := hpq.out; simp [intOf]; omega
          · go_wp2_with (go_at_call 152; refine HM.out.mono ?_; rintro e w1 ⟨rfl, rfl⟩)
            go_roundw
            case rel => exact ⟨p, addLo r V1 0, d, rfl, rfl, ⟨by rw [← HEQ.out]; have := HA.out; omega, addLo_lt _ _ _, hpl.out, HUp.out⟩, rfl⟩
            case measure => have := hpq.out; simp [intOf]; omega
        · have hc' : ((addHi r V1 0 : Int) != 0) = true := by rw [bne_iff_ne]; omega
          clear hc
          rcases hd2 with ⟨h1, h2⟩ | h1
          · go_wp2_with (go_at_call 152; refine HM.out.mono ?_; rintro e w1 ⟨rfl, rfl⟩)
            go_ret
            exact ⟨p, rfl, hpl.out, HUP.out _ HUp.out, d, rfl⟩
          · go_wp2_with (go_at_call 152; refine HM.out.mono ?_; rintro e w1 ⟨rfl, rfl⟩)
            go_ret
            exact ⟨p, rfl, hpl.out, HUP.out _ HUp.out, d, rfl⟩
      · have hx : hi < r ∨ ¬ hi < r ∧ ((hi : Int) == r) = true ∧ lo ≤ A0 := by
          by_cases h1 : hi < r
          · exact .inl h1
          · exact .inr ⟨h1, by rw [beq_iff_eq]; omega, by omega⟩
        clear ht
        rcases hx with h1 | ⟨h1, h2, h3⟩
        · go_wp2_with (go_at_call 152; refine HM.out.mono ?_; rintro e w1 ⟨rfl, rfl⟩)
          go_ret
          exact ⟨q, rfl, HI.out.qlt, HUP.out _ HI.out.up, d, rfl⟩
        · go_wp2_with (go_at_call 152; refine HM.out.mono ?_; rintro e w1 ⟨rfl, rfl⟩)
          go_ret
          exact ⟨q, rfl, HI.out.qlt, HUP.out _ HI.out.up, d, rfl⟩
/-- guessDigit, for slices that can be read -/
theorem guess_at {ao bo : Option Addr} {capa capb na nb : Nat} {a b : List Nat} {w : World} (sa : SlA w .u64 ao capa a) (sb : SlA w .u64 bo capb b) (wa : Wd B64 a) (wb : Wd B64 b)
    (ha : a.length = b.length + 1) (hb : 2 ≤ b.length) (hU : val B64 a < B64 * val B64 b) (hna : a.length = na) (hnb : b.length = nb) :
    Calls Tryz.prog 225 #[.slice ao na capa, .slice bo nb capb] w (GuessPost w a b) := by
  subst hna hnb
  have hm := sb.len_le
  obtain ⟨n, hn⟩ : ∃ n, b.length = n + 2 := ⟨b.length - 2, by omega⟩
  obtain ⟨ga, offa, rfl, _, hca⟩ := sa.at (i := 0) (by omega)
  obtain ⟨gb, offb, rfl, _, hcb⟩ := sb.at (i := 0) (by omega)
  have := guessDigit_core ga offa capa gb offb capb n a b w hca hcb wa wb (by omega) hn (by omega) hU
  rw [ha, hn]
  exact this
end Go.Proofs.YtekghemhccfhkaaGreatDoor
namespace Go.Proofs.YtekghemhccfhkaaGreatDoor
open Go.RowKit Go.Big
/-- subtractProduct: what is left in the window, and what is missing. -/
def MsPost (w : World) (g : Nat) (pre s0 post b : List Nat) (x : Nat) (e : Ending) (w' : World) : Prop :=
  ∃ (cur : List Nat) (c : Nat), e = .returned (.int .u64 c) ∧ w' = wput w g .u64 (pre ++ (cur ++ post)) ∧ cur.length = s0.length ∧ Wd B64 cur ∧ c ≤ 1 ∧ val B64 cur + x * val B64 b = val B64 s0 + c * B64 ^ s0.length

set_option maxRecDepth 100000 in
set_option maxHeartbeats 1000000 in
theorem subtractProduct_at {g caps capb n off nb : Nat} {bo : Option Addr} {pre s0 post b : List Nat} {x : Nat} {w : World}
    (hg : isRow w g 71 .u64 (pre ++ (s0 ++ post))) (hs : Wd B64 s0) (hb : Wd B64 b) (sb : SlA w .u64 bo capb b) (hne : b ≠ [] → ∀ p, bo = some p → p.block ≠ g) (hx : x < 18446744073709551616)
    (hl : s0.length = b.length + 1) (hn : s0.length = n) (ho : pre.length = off) (hnb : b.length = nb) :
    Calls Tryz.prog 226 #[.slice (some ⟨g, off, none⟩) n caps, .slice bo nb capb, .int .u64 x] w (MsPost w g pre s0 post b x) := by
  subst ho hnb
  rw [hl] at hn
  subst hn
  have hm := sb.len_le
  go_enter Tryz.func226, Tryz.ntmps226
  go_wp2_with fail
  go_loopw [7, 15] (fun c i wr => ∃ (k cn : Nat) (cur : List Nat), k ≤ b.length ∧ i = .int .i64 k ∧ c = .int .u64 cn ∧ MsInv s0 b x k cur cn ∧ wr = wput w g .u64 (pre ++ (cur ++ post)))
    (fun _ i _ => b.length - (intOf i).toNat)
  case atStart => exact ⟨0, 0, s0, Nat.zero_le _, rfl, rfl, MsInv.start b x hs, (put_self hg).symm⟩
  case round =>
    obtain ⟨k, cn, cur, hk, rfl, rfl, hinv, rfl⟩ := hrel
    have HL : Hid (cur.length = b.length + 1) := hinv.len.trans hl
    have HLL := Lib.hid hl
    have hca : (wput w g .u64 (pre ++ (cur ++ post))).cell? ⟨g, pre.length + k, none⟩ = some (.int .u64 (nth cur k)) := by
      rw [(hg.put _).cell (by have := HL.out; simp; omega), nth_mid _ _ _ _ (by have := HL.out; omega)]
    have hfr : (wput w g .u64 (pre ++ (cur ++ post))).frozen? ⟨g, pre.length + k, none⟩ = false := (hg.put _).frozen _
    have hst : ∀ y : Nat, (wput w g .u64 (pre ++ (cur ++ post))).setCell ⟨g, pre.length + k, none⟩ (.int .u64 (y : Int)) = wput w g .u64 (pre ++ (cur.set k y ++ post)) := fun y => by
      rw [put_store hg, set_mid _ _ _ _ _ (by have := HL.out; omega)]
    have HST := Lib.hid hst
    clear hst
    by_cases hlt : k < b.length
    · obtain ⟨gb, offb, rfl, _, hbc⟩ := sb.at hlt
      have hgb : gb ≠ g := hne (by intro e; simp [e] at hlt) _ rfl
      have hcb : (wput w g .u64 (pre ++ (cur ++ post))).cell? ⟨gb, offb + k, none⟩ = some (.int .u64 (nth b k)) := by rw [put_other _ _ _ hgb]; exact hbc k hlt
      generalize wput w g .u64 (pre ++ (cur ++ post)) = W at *
      have hmul := mul_at (nth b k) x (hb.nth hlt) hx W
      have h1 := run_addc (mulLo (nth b k) x) cn W
      have h2 := run_add0 (mulHi (nth b k) x) (addHi (mulLo (nth b k) x) cn 0) (addHi_le (mulLo_lt _ _) hinv.carry (by decide)) W
      have h3 := run_subc (nth cur k) (addLo (mulLo (nth b k) x) cn 0) W
      have h4 := run_add0 (mcHi (nth b k) x cn) (subHi (nth cur k) (mcLo (nth b k) x cn) 0) (subHi_le _ _ _) (W.setCell ⟨g, pre.length + k, none⟩ (.int .u64 (subLo (nth cur k) (mcLo (nth b k) x cn) 0 : Nat)))
      unfold mcHi mcLo at h4
      have HM := Lib.hid hmul
      clear hmul hbc hgb hne sb hl
      go_wp2_with (go_at_call 152; refine HM.out.mono ?_; rintro e w1 ⟨rfl, rfl⟩)
      go_roundw
      case rel => exact ⟨k + 1, _, cur.set k (subLo (nth cur k) (mcLo (nth b k) x cn) 0), by omega, by go_num, rfl, hinv.step (by have := HLL.out; omega) hlt hb hx, HST.out _⟩
      case measure => simp [intOf]; omega
    · have hkb : k = b.length := by omega
      subst hkb
      have hres := hinv.done hl
      have HR := Lib.hid hres
      have h3 := run_subc (nth cur b.length) cn (wput w g .u64 (pre ++ (cur ++ post)))
      generalize wput w g .u64 (pre ++ (cur ++ post)) = W at *
      clear hres hl sb
      go_wp2_with fail
      go_ret
      exact ⟨cur.set b.length (subLo (nth cur b.length) cn 0), _, rfl, HST.out _, by rw [List.length_set, hinv.len], hinv.wd.set (subLo_lt _ _ _), subHi_le _ _ _, HR.out⟩
end Go.Proofs.YtekghemhccfhkaaGreatDoor
namespace Go.Big
open Go Go.RowKit
/-- Long division behind the digits from k on: R is the rest, Q the quotient. -/
structure DdInv (B : Nat) (a b : List Nat) (k : Nat) (R Q : List Nat) : Prop where
  rlen : R.length = a.length + 1
  qlen : Q.length = a.length - b.length + 1
  rwd : Wd B R
  qwd : Wd B Q
  zero : ∀ j, k + b.length ≤ j → nth R j = 0
  lt : val B (R.drop k) < val B b
  eq : val B R + val B b * (B ^ k * val B (Q.drop k)) = val B a

theorem nth_append_right {a b : List Nat} {i : Nat} (h : a.length ≤ i) : nth (a ++ b) i = nth b (i - a.length) := by
  simp [nth, List.getElem?_append_right h]
theorem nth_append_left {a b : List Nat} {i : Nat} (h : i < a.length) : nth (a ++ b) i = nth a i := by
  simp [nth, List.getElem?_append_left h]

theorem DdInv.start {B : Nat} {a b : List Nat} (hB : 1 < B) (wa : Wd B a) (nb : Nz b) (hb : 2 ≤ b.length) (hl : b.length ≤ a.length) :
    DdInv B a b (a.length - b.length + 1) (a ++ zeros 1) (zeros (a.length - b.length + 1)) := by
  refine ⟨by simp [zeros], zeros_len _, wa.append (zeros_wd (by omega) _), zeros_wd (by omega) _, ?_, ?_, ?_⟩
  · intro j hj
    rw [nth_append_right (by omega), zeros_nth]
  · rw [List.drop_append_of_le_length (by omega), val_append, zeros_val, Nat.mul_zero, Nat.add_zero]
    have h1 := val_lt (wa.drop (a.length - b.length + 1))
    have h2 := val_ge (B := B) nb (by intro e; simp [e] at hb)
    rw [List.length_drop, show a.length - (a.length - b.length + 1) = b.length - 1 from by omega] at h1
    omega
  · rw [zeros_drop, zeros_val, val_append, zeros_val]; simp

/-- The window of the rest: its first words and what stands above. -/
theorem window_val {B : Nat} {R : List Nat} {i n : Nat} (hl : i + n + 1 ≤ R.length) (hz : ∀ j, i + 1 + n ≤ j → nth R j = 0) :
    val B ((R.drop i).take (n + 1)) = val B (R.drop i) := by
  rw [take_drop_val B (R.drop i) (n + 1) (by rw [List.length_drop]; omega), List.drop_drop]
  have : val B (R.drop (i + (n + 1))) = 0 := val_of_zero fun j => by rw [nth_drop']; exact hz _ (by omega)
  rw [this]; simp
theorem parts3' (l : List Nat) (k n : Nat) : l = l.take k ++ ((l.drop k).take n ++ l.drop (k + n)) := by
  rw [← List.drop_drop, List.take_append_drop, List.take_append_drop]
theorem DdInv.window {B : Nat} {a b R Q : List Nat} {i : Nat} (h : DdInv B a b (i + 1) R Q) (hi : i ≤ a.length - b.length) (hl : b.length ≤ a.length) :
    ((R.drop i).take (b.length + 1)).length = b.length + 1 ∧ Wd B ((R.drop i).take (b.length + 1)) ∧ val B ((R.drop i).take (b.length + 1)) = val B (R.drop i) ∧
      val B ((R.drop i).take (b.length + 1)) < B * val B b := by
  have hr := h.rlen
  have hv : val B ((R.drop i).take (b.length + 1)) = val B (R.drop i) := window_val (by omega) h.zero
  refine ⟨by rw [List.length_take, List.length_drop]; omega, (h.rwd.drop i).take _, hv, ?_⟩
  rw [hv, drop_val_nth B R i (by omega)]
  have h1 := h.lt
  have h2 := h.rwd.nth (i := i) (by omega)
  have h3 : B * (val B (R.drop (i + 1)) + 1) ≤ B * val B b := Nat.mul_le_mul_left _ h1
  rw [Nat.mul_add, Nat.mul_one] at h3
  omega
theorem DdInv.step {B : Nat} {a b R Q cur : List Nat} {i d : Nat} (h : DdInv B a b (i + 1) R Q) (hi : i ≤ a.length - b.length) (hl : b.length ≤ a.length) (wb : Wd B b)
    (hcl : cur.length = b.length + 1) (hcw : Wd B cur) (hd : d < B) (hlt : val B cur < val B b) (he : val B cur + d * val B b = val B ((R.drop i).take (b.length + 1))) :
    DdInv B a b i (R.take i ++ (cur ++ R.drop (i + (b.length + 1)))) (Q.set i d) := by
  have hr := h.rlen
  have hq := h.qlen
  obtain ⟨w1, w2, w3, w4⟩ := h.window hi hl
  have hpre : (R.take i).length = i := by rw [List.length_take]; omega
  have hpost : ∀ j, nth (R.drop (i + (b.length + 1))) j = 0 := fun j => by rw [nth_drop']; exact h.zero _ (by omega)
  have hp0 : val B (R.drop (i + (b.length + 1))) = 0 := val_of_zero hpost
  have htop : nth cur b.length = 0 := by
    have h1 := val_lt wb
    have e1 := take_val_nth B cur b.length (by omega)
    rw [List.take_of_length_le (by omega)] at e1
    rcases Nat.eq_zero_or_pos (nth cur b.length) with h2 | h2
    · exact h2
    · have : B ^ b.length * 1 ≤ B ^ b.length * nth cur b.length := Nat.mul_le_mul_left _ h2
      omega
  have hdrop : (R.take i ++ (cur ++ R.drop (i + (b.length + 1)))).drop i = cur ++ R.drop (i + (b.length + 1)) := by
    rw [List.drop_append_of_le_length (by omega), List.drop_eq_nil_of_le (by omega), List.nil_append]
  refine ⟨?_, by rw [List.length_set, hq], (h.rwd.take i).append (hcw.append (h.rwd.drop _)), h.qwd.set hd, ?_, ?_, ?_⟩
  · simp only [List.length_append, hpre, hcl, List.length_drop]; omega
  · intro j hj
    rw [nth_append_right (by omega), hpre]
    by_cases hjb : j = i + b.length
    · subst hjb
      rw [nth_append_left (by omega), Nat.add_sub_cancel_left]; exact htop
    · rw [nth_append_right (by omega)]; exact hpost _
  · rw [hdrop, val_append, hp0]; simpa using hlt
  · rw [val_append, val_append, hp0, hpre, drop_val_nth B (Q.set i d) i (by rw [List.length_set]; omega), nth_set_self (by omega), drop_set_succ]
    have e1 := h.eq
    have e2 := congrArg (val B) (parts3' R i (b.length + 1))
    rw [val_append, val_append, hp0, hpre] at e2
    rw [← e1, e2, ← he, Nat.pow_succ]
    grind
theorem DdInv.done {B : Nat} {a b R Q : List Nat} (h : DdInv B a b 0 R Q) (hl : b.length ≤ a.length) : val B Q = val B a / val B b ∧ val B (R.take b.length) = val B a % val B b := by
  have e := h.eq
  have h1 := h.lt
  have hr := h.rlen
  simp only [List.drop_zero, Nat.pow_zero, Nat.one_mul] at e h1
  have h2 : val B (R.take b.length) = val B R := by
    rw [take_drop_val B R b.length (by omega), val_of_zero (l := R.drop b.length) fun j => by rw [nth_drop']; exact h.zero _ (by omega)]
    simp
  rw [h2]
  refine ⟨?_, ?_⟩
  · rw [← e, Nat.add_comm, Nat.mul_add_div (by omega), Nat.div_eq_of_lt h1, Nat.add_zero]
  · rw [← e, Nat.add_comm, Nat.mul_add_mod, Nat.mod_eq_of_lt h1]
/-- Adding back: what is missing, and by how much the digit is too large. -/
structure InInv (s0 b cur : List Nat) (d c : Nat) : Prop where
  len : cur.length = s0.length
  wd : Wd B64 cur
  carry : c ≤ 1
  dlt : d < B64
  eq : val B64 cur + d * val B64 b = val B64 s0 + c * B64 ^ s0.length
  up : val B64 s0 < (d + 1) * val B64 b
theorem InInv.step {s0 b cur cur' : List Nat} {d c' : Nat} (h : InInv s0 b cur d 1) (ha : Added cur b cur' c') : 0 < d ∧ InInv s0 b cur' (d - 1) (1 - c') := by
  have h1 := val_lt h.wd
  rw [h.len] at h1
  have e := h.eq
  have e2 := ha.eq
  rw [h.len] at e2
  have hd : 0 < d := by
    rcases Nat.eq_zero_or_pos d with h2 | h2
    · subst h2; omega
    · exact h2
  obtain ⟨p, rfl⟩ : ∃ p, d = p + 1 := ⟨d - 1, by omega⟩
  have e3 : (p + 1) * val B64 b = p * val B64 b + val B64 b := by rw [Nat.add_mul, Nat.one_mul]
  refine ⟨hd, by rw [ha.len, h.len], ha.wd, by omega, by have := h.dlt; omega, ?_, ?_⟩
  · simp only [Nat.add_sub_cancel]
    rcases Nat.eq_zero_or_pos c' with h4 | h4
    · subst h4; omega
    · have : c' = 1 := by have := ha.carry; omega
      subst this; omega
  · simp only [Nat.add_sub_cancel]; omega
theorem InInv.done {s0 b cur : List Nat} {d : Nat} (h : InInv s0 b cur d 0) : val B64 cur + d * val B64 b = val B64 s0 ∧ val B64 cur < val B64 b := by
  have e := h.eq
  have u := h.up
  have e3 : (d + 1) * val B64 b = d * val B64 b + val B64 b := by rw [Nat.add_mul, Nat.one_mul]
  omega
end Go.Big
namespace Go.Big
open Go Go.RowKit
variable {P : Program}
theorem run_slice_mid (t e : TypeId) (ht : P.underlying t = some (.slice e)) (hs : (P.info? e).map (·.size) = some 1) (g off n cap k h : Nat) (x : Int) (hx : x = h) (h1 : k ≤ h) (h2 : h ≤ cap) (h3 : k < cap) (w : World) :
    (Instr.slice t (.slice (some ⟨g, off, none⟩) n cap) (some (.int .i64 (k : Int))) (some (.int .i64 x)) none).run P w = .ok (.slice (some ⟨g, off + k, none⟩) (h - k) (cap - k)) w := by
  subst hx
  have h4 : ¬ cap < h := by omega
  have h5 : ¬ h < k := by omega
  have h6 : cap ≠ k := by omega
  cases hq : P.info? e with
  | none => rw [hq] at hs; cases hs
  | some i =>
    rw [hq] at hs
    have hs1 : i.size = 1 := by simpa using hs
    have ha : (⟨g, off, none⟩ : Addr).add k = ⟨g, off + k, none⟩ := by unfold Addr.add; split <;> simp_all
    simp [Instr.slice, run_underlying ht, Instr.sliceBounds, Instr.sliceBound, asIntOf, sizeOf, typeInfo, hq, hs1, h1, h2, h6, ha]
theorem val_set0 {B : Nat} {l : List Nat} {c : Nat} (hl : 0 < l.length) (h0 : nth l 0 = 0) : val B (l.set 0 c) = c + val B l := by
  match l, hl with
  | x :: l, _ =>
    have : x = 0 := by simpa [nth] using h0
    subst this
    simp [val]
structure TwInv (la lb : List Nat) (k : Nat) (cur : List Nat) : Prop where
  len : cur.length = la.length + lb.length
  wd : Wd B64 cur
  rest : ∀ j, k + la.length ≤ j → nth cur j = 0
  eq : val B64 cur = val B64 la * val B64 (lb.take k)
theorem TwInv.start (la lb : List Nat) : TwInv la lb 0 (zeros (la.length + lb.length)) :=
  ⟨zeros_len _, zeros_wd (by decide) _, fun _ _ => zeros_nth _ _, by simp [zeros_val, val]⟩
theorem parts3 (l : List Nat) (k n : Nat) : l = l.take k ++ ((l.drop k).take n ++ l.drop (k + n)) := by
  rw [← List.drop_drop, List.take_append_drop, List.take_append_drop]
theorem TwInv.step {la lb cur seg : List Nat} {k c : Nat} (h : TwInv la lb k cur) (hk : k < lb.length)
    (hm : MacInv ((cur.drop k).take la.length) la (nth lb k) la.length seg c) :
    TwInv la lb (k + 1) ((cur.take k ++ (seg ++ cur.drop (k + la.length))).set (k + la.length) c) := by
  have hl := h.len
  have hsl : ((cur.drop k).take la.length).length = la.length := by simp; omega
  have hseg : seg.length = la.length := by rw [hm.len, hsl]
  have hpre : (cur.take k).length = k := by simp; omega
  have hpl : 0 < (cur.drop (k + la.length)).length := by simp; omega
  have hp0 : ∀ j, nth (cur.drop (k + la.length)) j = 0 := fun j => by rw [nth_drop']; exact h.rest _ (by omega)
  have e : (cur.take k ++ (seg ++ cur.drop (k + la.length))).set (k + la.length) c = cur.take k ++ (seg ++ (cur.drop (k + la.length)).set 0 c) := by
    rw [List.set_append_right _ _ (by omega), hpre, List.set_append_right _ _ (by omega), hseg]
    congr 3; omega
  rw [e]
  refine ⟨?_, ?_, ?_, ?_⟩
  · simp only [List.length_append, List.length_set, hpre, hseg, List.length_drop]; omega
  · exact (h.wd.take k).append (hm.wd.append ((h.wd.drop _).set hm.carry))
  · intro j hj
    unfold nth
    rw [List.getD_eq_getElem?_getD, List.getElem?_append_right (by omega), List.getElem?_append_right (by omega), List.getElem?_set_ne (by omega)]
    exact hp0 _
  · rw [val_append, val_append, val_set0 hpl (hp0 0), val_of_zero hp0, hpre, hseg, Nat.add_zero, take_val_nth _ _ _ hk]
    have e1 := hm.done hsl
    have e2 := h.eq
    have e3 := congrArg (val B64) (parts3 cur k la.length)
    rw [val_append, val_append, val_of_zero hp0, hpre, hsl, Nat.mul_zero, Nat.add_zero] at e3
    have e4 : val B64 seg + B64 ^ la.length * c = val B64 seg + c * B64 ^ la.length := by rw [Nat.mul_comm c]
    rw [e4, e1, Nat.mul_add, ← Nat.add_assoc, ← e3, e2, Nat.mul_add]
    grind
end Go.Big
namespace Go.Proofs.YtekghemhccfhkaaGreatDoor
open Go.RowKit Go.Big
set_option maxRecDepth 100000 in
set_option maxHeartbeats 1000000 in
theorem timesByWords_core (ao bo : Option Addr) (capa capb : Nat) (la lb : List Nat) (w : World) (sa : SlA w .u64 ao capa la) (sb : SlA w .u64 bo capb lb)
    (wa : Wd B64 la) (wb : Wd B64 lb) (hK : la.length + lb.length ≤ 1099511627776) :
    Calls Tryz.prog 179 #[.slice ao la.length capa, .slice bo lb.length capb] w (RetNat w (val B64 la * val B64 lb)) := by
  have hmk := mk64 (la.length + lb.length) (la.length + lb.length) (by omega) hK w
  have hr0 : isRow (w.alloc (.cells (cellsOf .u64 (zeros (la.length + lb.length))) 71)) w.heap.size 71 .u64 (zeros (la.length + lb.length)) := isRow_alloc _ _ _ _
  have hb0 : Below w.heap.size w (w.alloc (.cells (cellsOf .u64 (zeros (la.length + lb.length))) 71)) := (Below.refl _ _).alloc (Nat.le_refl _) _
  generalize hW : w.alloc (.cells (cellsOf .u64 (zeros (la.length + lb.length))) 71) = W at *
  have HR := Lib.hid hr0
  clear hW hr0
  go_enter Tryz.func179, Tryz.ntmps179
  go_wp2_with fail
  go_loopw [16] (fun i wr => ∃ (k : Nat) (cur : List Nat), k ≤ lb.length ∧ i = .int .i64 k ∧ TwInv la lb k cur ∧ isRow wr w.heap.size 71 .u64 cur ∧ Below w.heap.size w wr)
    (fun i _ => lb.length - (intOf i).toNat)
  case atStart => exact ⟨0, _, Nat.zero_le _, rfl, TwInv.start la lb, HR.out, hb0⟩
  case round =>
    clear hb0 HR
    obtain ⟨k, cur, hk, rfl, hinv, hr, hb⟩ := hrel
    have hl := hinv.len
    by_cases hlt : k < lb.length
    · obtain ⟨bb, offb, rfl, hbb, hcb⟩ := sb.at hlt
      have cb := (hb.cell (p := ⟨bb, offb + k, none⟩) hbb).trans (hcb k hlt)
      have hpre : (cur.take k).length = k := by simp; omega
      have hsl : ((cur.drop k).take la.length).length = la.length := by simp; omega
      have hcall := addProduct_at (caps := la.length + lb.length - k) (capa := capa) (n := la.length) (off := k) (na := la.length) (ao := ao) (x := nth lb k) (by rw [← parts3 cur k la.length]; exact hr) ((hinv.wd.drop k).take _) wa (sa.below hb)
        (fun h p hp => by have := SlA.blk sa h p hp; omega) (wb.nth hlt) hsl hsl (by omega) hpre rfl
      have hs1 : ∀ w', (Instr.slice 108 (.slice (some ⟨w.heap.size, 0, none⟩) (la.length + lb.length) (la.length + lb.length)) (some (.int .i64 (k : Int))) (some (.int .i64 ((k : Int) + (la.length : Int)))) none).run Tryz.prog w' = .ok (.slice (some ⟨w.heap.size, k, none⟩) la.length (la.length + lb.length - k)) w' := fun w' => by
        rw [run_slice_mid 108 71 Tryz.underlying108 (by kernel_rfl) w.heap.size 0 _ _ k (k + la.length) _ (by omega) (by omega) (by omega) (by omega) w', Nat.zero_add, Nat.add_sub_cancel_left]
      have HC := Lib.hid hcall
      have SA := Lib.hid sa
      have SB := Lib.hid sb
      have HR := Lib.hid hr
      have HL := Lib.hid hl
      clear hcall sa sb hr hpre hsl hcb hl
      go_wp2_with fail
      refine HC.out.mono ?_
      rintro e w1 ⟨seg, c, rfl, rfl, hmac⟩
      have hstep := hinv.step hlt hmac
      have hr1 := HR.out.put (cur.take k ++ (seg ++ cur.drop (k + la.length)))
      have hlen : (cur.take k ++ (seg ++ cur.drop (k + la.length))).length = la.length + lb.length := by
        have := hstep.len
        rwa [List.length_set] at this
      have hb1 := hb.put (Nat.le_refl _) .u64 (cur.take k ++ (seg ++ cur.drop (k + la.length)))
      have c0 := hr1.cell (i := k + la.length) (by omega)
      have f0 := hr1.frozen (k + la.length)
      have hr2 := hr1.storeRow (k + la.length) c
      generalize wput wr w.heap.size .u64 (cur.take k ++ (seg ++ cur.drop (k + la.length))) = W1 at *
      have HS := Lib.hid hstep
      have H2 := Lib.hid hr2
      clear hstep hr2 hr1 hmac HC hlen hs1
      go_wp2_with fail
      go_roundw
      case rel => exact ⟨k + 1, _, by omega, by go_num, HS.out, H2.out, hb1.setCell (Nat.le_refl _) _⟩
      case measure => simp [intOf]; omega
    · have hkl : k = lb.length := by omega
      subst hkl
      have hs2 := hr.sl (cap := la.length + lb.length) (by omega) (by omega)
      have hv := hinv.eq
      rw [List.take_length] at hv
      have hwd := hinv.wd
      have htr := trim_at hs2 hl
      have H := Lib.hid htr
      have HV := Lib.hid hv
      clear htr hv hl
      go_wp2_with fail
      refine H.out.mono ?_
      intro e w1 ht
      have hret := trim_ret hs2 hwd HV.out hb ht
      obtain ⟨v, rfl, hv, hb⟩ := hret
      clear H ht
      go_wp2_with fail
      go_ret
      exact ⟨v, rfl, hv, hb⟩
end Go.Proofs.YtekghemhccfhkaaGreatDoor
