/-
  Walks of the program's functions: Root, RChunks, RText.
-/
import Derived.Test.YtekghemhccfhkaaGreatDoorB05
import Derived.Test.YtekghemhccfhkaaGreatDoorB07
import Derived.Test.YtekghemhccfhkaaGreatDoorB03
import Derived.Deep.LoopGhost
import Derived.Test.YtekghemhccfhkaaGreatDoorB04
import Derived.Test.YtekghemhccfhkaaGreatDoorB02
import Derived.Lib.TrimByte
import Derived.Test.YtekghemhccfhkaaGreatDoorB01
namespace Go.Big
open Go
theorem isqrt_ex (m : Nat) : ∃ s, s * s ≤ m ∧ m < (s + 1) * (s + 1) := by
  induction m with
  | zero => exact ⟨0, by omega, by omega⟩
  | succ m ih =>
    obtain ⟨s, h1, h2⟩ := ih
    by_cases h : (s + 1) * (s + 1) ≤ m + 1
    · refine ⟨s + 1, h, ?_⟩
      have : (s + 1 + 1) * (s + 1 + 1) = (s + 1) * (s + 1) + 2 * s + 3 := by grind
      omega
    · exact ⟨s, by omega, by omega⟩
theorem am_gm {R d s : Nat} (h : R + d = 2 * s) : R * d ≤ s * s := by
  rcases Nat.le_total R s with h1 | h1
  · obtain ⟨t, rfl⟩ : ∃ t, s = R + t := ⟨s - R, by omega⟩
    obtain rfl : d = R + 2 * t := by omega
    have e : (R + t) * (R + t) = R * (R + 2 * t) + t * t := by grind
    omega
  · obtain ⟨t, rfl⟩ : ∃ t, R = s + t := ⟨R - s, by omega⟩
    obtain rfl : s = d + t := by omega
    have e : (d + t) * (d + t) = (d + t + t) * d + t * t := by grind
    omega
theorem newton_ge {m R s : Nat} (hR : 0 < R) (h : s * s ≤ m) : s ≤ (R + m / R) / 2 := by
  obtain ⟨q, hq⟩ : ∃ q, m / R = q := ⟨_, rfl⟩
  have h1 : m < R * (q + 1) := by rw [← hq]; exact Nat.lt_mul_div_succ m hR
  rw [hq]
  by_cases h2 : R + q < 2 * s
  · obtain ⟨d, hd⟩ : ∃ d, R + d = 2 * s := ⟨2 * s - R, by omega⟩
    have h3 := am_gm hd
    have h4 : R * (q + 1) ≤ R * d := Nat.mul_le_mul_left _ (by omega)
    omega
  · omega
theorem newton_lt {m R s : Nat} (hR : s < R) (h : m < (s + 1) * (s + 1)) : (R + m / R) / 2 < R := by
  have h1 : (s + 1) * (s + 1) ≤ R * R := Nat.mul_le_mul hR hR
  have h2 : m / R < R := Nat.div_lt_of_lt_mul (by omega)
  omega
theorem root_start {m L K s : Nat} (h1 : 2 ^ (L - 1) ≤ m) (h2 : m < 2 ^ L) (hm : m < B64 ^ K) (hs : s * s ≤ m) :
    s ≤ 2 ^ ((L + 1) / 2) ∧ 2 ^ ((L + 1) / 2) < B64 ^ K ∧ (L + 1) / 2 < 64 * K := by
  rw [B64_pow] at hm ⊢
  have hL : L - 1 < 64 * K := (Nat.pow_lt_pow_iff_right (by decide)).1 (Nat.lt_of_le_of_lt h1 hm)
  have hK : 0 < K := by omega
  refine ⟨?_, (Nat.pow_lt_pow_iff_right (by decide)).2 (by omega), by omega⟩
  rcases Nat.lt_or_ge (2 ^ ((L + 1) / 2)) s with h | h
  · have h3 : 2 ^ ((L + 1) / 2) * 2 ^ ((L + 1) / 2) ≤ s * s := Nat.mul_le_mul (Nat.le_of_lt h) (Nat.le_of_lt h)
    rw [← Nat.pow_add] at h3
    have h4 : 2 ^ L ≤ 2 ^ ((L + 1) / 2 + (L + 1) / 2) := Nat.pow_le_pow_right (by decide) (by omega)
    omega
  · exact h
theorem root_word (b : Nat) : B64 ^ (b / 64) * 2 ^ (b % 64) = 2 ^ b := by
  rw [B64_pow, ← Nat.pow_add, Nat.div_add_mod]
end Go.Big
namespace Go.Proofs.YtekghemhccfhkaaGreatDoor
open Go.RowKit Go.Big
theorem natv_word {x : Nat} (h0 : 0 < x) (hx : x < 18446744073709551616) (w : World) :
    NatV (w.alloc (.cells #[.int .u64 x] 71)) .u64 B64 (.slice (some ⟨w.heap.size, 0, none⟩) 1 1) x := by
  have hr0 : isRow (w.alloc (.cells #[.int .u64 x] 71)) w.heap.size 71 .u64 [x] := isRow_alloc w 71 .u64 [x]
  have hs := hr0.sl (cap := 1) (by simp) (by simp)
  exact ⟨_, _, [x], rfl, hs, fun y hy => by simp at hy; subst hy; exact hx, by simp [Nz]; omega, by simp [val]⟩
def RootPost (w : World) (m : Nat) (e : Ending) (w' : World) : Prop := ∃ s v, s * s ≤ m ∧ m < (s + 1) * (s + 1) ∧ e = .returned v ∧ NatV w' .u64 B64 v s ∧ Below w.heap.size w w'
def RootRel (w : World) (s K g : Nat) (x : Value) (wr : World) : Prop := ∃ R, R ≤ g ∧ 0 < R ∧ s ≤ R ∧ R < B64 ^ K ∧ NatV wr .u64 B64 x R ∧ Below w.heap.size w wr
set_option maxRecDepth 100000 in
set_option maxHeartbeats 1000000 in
/-- (natural).root, of a number above 0 -/
theorem root_pos {va : Value} {m K : Nat} {w : World} (ha : NatV w .u64 B64 va m) (hK : K < 238) (hm : m < B64 ^ K) (h0 : 0 < m) :
    Calls Tryz.prog 195 #[va] w (RootPost w m) := by
  obtain ⟨s, hs1, hs2⟩ := isqrt_ex m
  have HL := Lib.hid (bitLen_any ha h0)
  have hlen : ∃ ao cap n, va = .slice ao (n + 1 : Nat) cap ∧ n < 1099511627776 := by
    obtain ⟨ao, capa, la, rfl, sa, wa, za, ea⟩ := ha
    have hne : la ≠ [] := by rintro rfl; rw [← ea] at h0; simp [val] at h0
    have := List.length_pos_iff.2 hne
    have := sa.len_le
    exact ⟨ao, capa, la.length - 1, by congr 1; omega, by omega⟩
  obtain ⟨ao, cap, n, rfl, hn⟩ := hlen
  have HA := Lib.hid ha
  have HM := Lib.hid (And.intro hm (And.intro h0 (And.intro hs1 hs2)))
  clear ha hm h0 hs1 hs2
  go_enter Tryz.func195, Tryz.ntmps195
  go_wp2_with fail
  refine HL.out.mono ?_
  rintro e w1 ⟨L, rfl, rfl, hL1, hL2, hL3, hL4⟩
  obtain ⟨r1, r2, r3⟩ := root_start hL2 hL3 HM.out.1 HM.out.2.2.1
  obtain ⟨b, hb⟩ : ∃ b, (L + 1) / 2 = b := ⟨_, rfl⟩
  rw [hb] at r1 r2 r3
  have HR := Lib.hid (And.intro r1 r2)
  clear r1 r2 hL2 hL3
  have hb2 : ((L : Int) + 1) / 2 = b := by omega
  have hb3 : b ≤ 70368744177664 := by omega
  have HLL := Lib.hid (And.intro hL4 hb)
  clear hb hL4
  obtain ⟨p, hp⟩ : ∃ p, 2 ^ (b % 64) = p := ⟨_, rfl⟩
  have hp0 : 0 < p := by rw [← hp]; exact Nat.pow_pos (by decide)
  have hp1 : p < 18446744073709551616 := by
    rw [← hp]
    exact (Nat.pow_lt_pow_iff_right (a := 2) (m := 64) (by decide)).2 (by omega)
  have hwr : IntKind.u64.wrap ((2 : Int) ^ (b % 64)) = (p : Int) := by
    have e : ((2 : Int) ^ (b % 64)) = (p : Int) := by rw [← hp]; push_cast; rfl
    rw [e, IntKind.wrap_u64]
    omega
  have HP := Lib.hid (And.intro hp (And.intro hp0 hp1))
  clear hp hp0 hp1
  obtain ⟨kk, hkk⟩ : ∃ kk, b / 64 = kk := ⟨_, rfl⟩
  have hkk2 : (b : Int) / 64 = (kk : Int) := by omega
  have HKK := Lib.hid hkk
  clear hkk
  go_wp2_with fail
  have hbel1 : Below w1.heap.size w1 (w1.alloc (.cells #[.int .u64 p] 71)) := (Below.refl _ _).alloc (Nat.le_refl _) _
  refine (join_any (natv_word HP.out.2.1 HP.out.2.2 w1) (natv_nil _) (k := kk) (Nat.pow_pos (by decide)) (by have := HKK.out; omega) 1 (by decide) (by rw [Nat.pow_one]; exact HP.out.2.2)).mono ?_
  rintro e w2 ⟨v, rfl, hv, hb2'⟩
  rw [Nat.zero_add, ← HP.out.1, ← HKK.out, root_word] at hv
  have HV := Lib.hid hv
  have HB := Lib.hid (below_trans hbel1 hb2')
  clear hv hb2' hbel1 hwr
  go_wp2_with fail
  go_loopg [4] (2 ^ b) (fun g x wr => RootRel w1 s K g x wr)
  case atStart => exact ⟨2 ^ b, Nat.le_refl _, Nat.pow_pos (by decide), HR.out.1, HR.out.2, HV.out, HB.out⟩
  case round =>
    clear HV HB HR
    obtain ⟨R, h1, h2, h3, h4, h5, h6⟩ := hrel
    have hA := HA.out.below h6
    have HD := Lib.hid (divide_any (K := K) hA h5 (by omega) HM.out.1 h4 h2)
    have HX := Lib.hid h5
    have HB := Lib.hid h6
    have HRR := Lib.hid (And.intro h1 (And.intro h2 (And.intro h3 h4)))
    clear h1 h2 h3 h4 h5 h6 hA
    go_wp2_with fail
    refine HD.out.mono ?_
    rintro e w3 ⟨q, r, rfl, hq, hr, hb3⟩
    have HX3 := Lib.hid (HX.out.below hb3)
    have HQ := Lib.hid hq
    have HB3 := Lib.hid (below_trans HB.out hb3)
    clear hq hr hb3
    go_wp2_with fail
    refine (plus_any (K := K) HX3.out HQ.out (by omega) HRR.out.2.2.2 (Nat.lt_of_le_of_lt (Nat.div_le_self _ _) HM.out.1)).mono ?_
    rintro e w4 ⟨v4, rfl, hv4, hb4⟩
    have HX4 := Lib.hid (HX3.out.below hb4)
    have HV4 := Lib.hid hv4
    have HB4 := Lib.hid (below_trans HB3.out hb4)
    clear hv4 hb4
    go_wp2_with fail
    refine (shiftRight_any (s := 1) HV4.out (by decide)).mono ?_
    rintro e w5 ⟨v5, rfl, hv5, hb5⟩
    rw [Nat.pow_one] at hv5
    have HX5 := Lib.hid (HX4.out.below hb5)
    have HV5 := Lib.hid hv5
    have HB5 := Lib.hid (below_trans HB4.out hb5)
    clear hv5 hb5
    obtain ⟨N, hN⟩ : ∃ N, (R + m / R) / 2 = N := ⟨_, rfl⟩
    have hge := newton_ge HRR.out.2.1 HM.out.2.2.1
    rw [hN] at HV5 hge
    have HN := Lib.hid hN
    have HGE := Lib.hid hge
    clear hN hge
    by_cases ht : N < R
    · have hc := compare_at HV5.out HX5.out (v := -1) (cmpInt_lt (by omega))
      have HC := Lib.hid hc
      have HT := Lib.hid ht
      clear hc ht
      go_wp2_with fail
      refine HC.out.mono ?_
      rintro e w6 ⟨rfl, hb6⟩
      have HV6 := Lib.hid (HV5.out.below hb6)
      have HB6 := Lib.hid (below_trans HB5.out hb6)
      clear hb6
      go_wp2_with fail
      go_roundg N
      case rel => exact ⟨N, Nat.le_refl _, Nat.lt_of_lt_of_le (by
        rcases Nat.eq_zero_or_pos s with h | h
        · have h1 := HM.out.2.2.2
          rw [h] at h1
          have h2 := HM.out.2.1
          omega
        · exact h) HGE.out, HGE.out, Nat.lt_trans HT.out HRR.out.2.2.2, HV6.out, HB6.out⟩
      case measure => have := HT.out; have := HRR.out.1; omega
    · obtain ⟨v, hv0, hv⟩ : ∃ v : Int, 0 ≤ v ∧ cmpInt N R = v := by
        refine ⟨cmpInt N R, ?_, rfl⟩
        unfold cmpInt
        rw [if_neg (by omega)]
        split <;> decide
      have hc := compare_at HV5.out HX5.out hv
      have HC := Lib.hid hc
      have HT := Lib.hid ht
      clear hc ht hv
      go_wp2_with fail
      refine HC.out.mono ?_
      rintro e w6 ⟨rfl, hb6⟩
      have HX6 := Lib.hid (HX5.out.below hb6)
      have HB6 := Lib.hid (below_trans HB5.out hb6)
      clear hb6
      go_wp2_with fail
      go_ret
      have hs : s = R := by
        rcases Nat.lt_or_ge s R with h | h
        · have := newton_lt h HM.out.2.2.2
          rw [HN.out] at this
          exact absurd this HT.out
        · exact Nat.le_antisymm HRR.out.2.2.1 h
      subst hs
      exact ⟨s, _, HM.out.2.2.1, HM.out.2.2.2, rfl, HX6.out, HB6.out⟩

set_option maxRecDepth 100000 in
set_option maxHeartbeats 1000000 in
theorem root_zero (ao : Option Addr) (cap : Nat) (w : World) : Calls Tryz.prog 195 #[.slice ao 0 cap] w (RootPost w 0) := by
  go_enter Tryz.func195, Tryz.ntmps195
  go_wp2_with fail
  go_ret
  exact ⟨0, _, by omega, by omega, rfl, natv_nil _, Below.refl _ _⟩
/-- (natural).root -/
theorem root_any {va : Value} {m K : Nat} {w : World} (ha : NatV w .u64 B64 va m) (hK : K < 238) (hm : m < B64 ^ K) : Calls Tryz.prog 195 #[va] w (RootPost w m) := by
  rcases Nat.eq_zero_or_pos m with h | h
  · obtain ⟨ao, capa, la, rfl, sa, wa, za, ea⟩ := ha
    have : la = [] := (val_zero_iff (by decide) za).1 (ea.trans h)
    subst this h
    exact root_zero ao capa w
  · exact root_pos ha hK hm h
end Go.Proofs.YtekghemhccfhkaaGreatDoor
namespace Go.Big
open Go Go.RowKit
variable {P : Program}
theorem run_mk0 (t e : TypeId) (k : IntKind) (ht : P.underlying t = some (.slice e)) (bytes : Nat) (hi : (P.info? e).map (fun i => (i.zero, i.size, i.bytes)) = some (some (.int k 0), 1, bytes)) (hby : bytes ≤ 8)
    (n : Nat) (hn : n ≤ 1099511627776) (w : World) :
    (Instr.makeSlice t (.int .i64 0) (.int .i64 (n : Int))).run P w = .ok (.slice (some ⟨w.heap.size, 0, none⟩) 0 n) (w.alloc (.cells (cellsOf k (zeros n)) e)) := by
  obtain ⟨i, hi', hi⟩ : ∃ i, P.info? e = some i ∧ (i.zero, i.size, i.bytes) = (some (.int k 0), 1, bytes) := by
    cases hq : P.info? e with
    | none => rw [hq] at hi; cases hi
    | some i => rw [hq] at hi; exact ⟨i, rfl, by simpa using hi⟩
  simp only [Prod.mk.injEq] at hi
  have hb : i.bytes ≤ 8 := by omega
  have hbytes : (i.bytes : Int) * (n : Int) ≤ 281474976710656 := by
    have h1 : i.bytes * n ≤ 8 * 1099511627776 := Nat.mul_le_mul hb hn
    have h2 : ((i.bytes * n : Nat) : Int) ≤ 281474976710656 := by omega
    rwa [Int.natCast_mul] at h2
  have := run_make (P := P) w t e i (.int k 0) ht hi' hi.1 .i64 .i64 0 n (by omega) (by omega) hbytes (by omega)
  rw [this, hi.2.1]
  simp only [Int.toNat_natCast, Int.toNat_zero, Nat.mul_one, cells_zero]
end Go.Big
namespace Go.Proofs.YtekghemhccfhkaaGreatDoor
open Go.RowKit Go.Big
theorem scale_lit {g cap n off : Nat} {pre a post : List Nat} {w : World}
    (hg : isRow w g 71 .u64 (pre ++ (a ++ post))) (ha : Wd B64 a) (hm : a.length ≤ 1099511627776)
    (hn : a.length = n) (ho : pre.length = off) :
    Calls Tryz.prog 215 #[.slice (some ⟨g, off, none⟩) n cap, .int .u64 10000000000000000000] w (ScPost w g pre a post 10000000000000000000) :=
  scale_at (cap := cap) hg ha (by decide) hm hn ho
def RcRel (w : World) (l : List UInt8) (g c gk : Nat) (x y : Value) (wr : World) : Prop :=
  ∃ (p q : List UInt8) (A post : List Nat) (n k : Nat), x = .string ⟨q.toArray⟩ ∧ q.length = n ∧ n ≤ gk ∧ n ≤ 1000000 ∧ A.length = k ∧ y = .slice (some ⟨g, 0, none⟩) k c ∧ RcInv l p q A post c ∧ isRow wr g 71 .u64 (A ++ post) ∧ Below g w wr ∧ g < wr.heap.size
set_option maxRecDepth 100000 in
set_option maxHeartbeats 1000000 in
/-- readChunks -/
theorem readChunks_any (l : List UInt8) (hd : Dig l) (hl : l.length ≤ 1000000) (w : World) :
    Calls Tryz.prog 188 #[.string ⟨l.toArray⟩] w (RetNat w (dec l)) := by
  obtain ⟨n0, hn0⟩ : ∃ n0, l.length = n0 := ⟨_, rfl⟩
  obtain ⟨c, hc⟩ : ∃ c, n0 / 19 + 1 = c := ⟨_, rfl⟩
  have hsz : (⟨l.toArray⟩ : ByteArray).size = n0 := by rw [Lib.size_mk]; exact hn0
  have hci : (n0 : Int) / 19 + 1 = (c : Int) := by omega
  have hc1 : c ≤ 1000000 := by omega
  have hl0 : n0 ≤ 1000000 := by omega
  have hmk : ∀ W : World, (Instr.makeSlice 108 (.int .i64 0) (.int .i64 (c : Int))).run Tryz.prog W = .ok (.slice (some ⟨W.heap.size, 0, none⟩) 0 c) (W.alloc (.cells (cellsOf .u64 (zeros c)) 71)) := by
    intro W; exact run_mk0 108 71 .u64 Tryz.underlying108 8 (by kernel_rfl) (by decide) c (by omega) W
  have HI0 := Lib.hid (RcInv.start l (c := c) (by omega))
  have HD := Lib.hid hd
  have HR0 := Lib.hid (isRow_alloc w 71 .u64 (zeros c))
  have HB0 := Lib.hid (((Below.refl w.heap.size w).alloc (Nat.le_refl _) (.cells (cellsOf .u64 (zeros c)) 71)) : Below w.heap.size w (w.alloc (.cells (cellsOf .u64 (zeros c)) 71)))
  have HN0 := Lib.hid hn0
  clear hd hn0 hc hl
  go_enter Tryz.func188, Tryz.ntmps188
  go_wp2_with fail
  go_loopg [0, 3] n0 (fun gk x y wr => RcRel w l w.heap.size c gk x y wr)
  case atStart => exact ⟨[], l, [], zeros c, n0, 0, rfl, HN0.out, Nat.le_refl _, hl0, rfl, rfl, HI0.out, HR0.out, HB0.out, by simp⟩
  case round =>
    clear HI0 HR0 HB0
    obtain ⟨p, q, A, post, n, k, rfl, hn, hng, hn6, hk, rfl, hinv, hr, hb, hg⟩ := hrel
    have hqs : (⟨q.toArray⟩ : ByteArray).size = n := by rw [Lib.size_mk]; exact hn
    by_cases h0 : 0 < n
    · obtain ⟨z, hz⟩ : ∃ z, (n - 1) % 19 + 1 = z := ⟨_, rfl⟩
      have hzi : ((n : Int) - 1) % 19 + 1 = (z : Int) := by omega
      have hz1 : 1 ≤ z := by omega
      have hz2 : z ≤ 19 := by omega
      have hz3 : z ≤ n := by omega
      obtain ⟨t1, ht1⟩ : ∃ t1 : ByteArray, ⟨(q.take z).toArray⟩ = t1 := ⟨_, rfl⟩
      obtain ⟨t2, ht2⟩ : ∃ t2 : ByteArray, ⟨(q.drop z).toArray⟩ = t2 := ⟨_, rfl⟩
      have x1 : (⟨q.toArray⟩ : ByteArray).extract 0 z = t1 := by rw [Lib.extract_mk, List.drop_zero, Nat.sub_zero]; exact ht1
      have x2 : (⟨q.toArray⟩ : ByteArray).extract z n = t2 := by
        rw [Lib.extract_mk, List.take_of_length_le (by rw [List.length_drop]; omega)]; exact ht2
      have hdt : Dig (q.take z) := fun b hb' => HD.out b (by rw [hinv.app]; exact List.mem_append_right _ (List.mem_of_mem_take hb'))
      have htl : (q.take z).length = z := by rw [List.length_take]; omega
      have hrc := fun W => readChunk_any ⟨(q.take z).toArray⟩ hdt (by rw [Lib.size_mk]; omega) W
      have hdl : dec (q.take z) < B64 := by
        have h1 := dec_lt hdt
        have h2 : 10 ^ (q.take z).length ≤ 10 ^ 19 := Nat.pow_le_pow_right (by decide) (by omega)
        exact Nat.lt_of_lt_of_le h1 (Nat.le_trans h2 (by decide))
      obtain ⟨x0, post', rfl⟩ : ∃ x0 post', post = x0 :: post' := by
        cases post with
        | nil => have h5 := hinv.lenq; rw [List.length_nil] at h5; omega
        | cons a b => exact ⟨a, b, rfl⟩
      have htot := hinv.tot
      rw [List.length_cons, hk] at htot
      obtain ⟨d, hdd⟩ : ∃ d, dec (q.take z) = d := ⟨_, rfl⟩
      have hrc2 : ∀ W, Calls Tryz.prog 149 #[.string t1] W fun e w' => e = .returned (.int .u64 d) ∧ w' = W := by rw [← hdd, ← ht1]; exact hrc
      rw [hdd] at hdl
      have HRC := Lib.hid hrc2
      have HT := Lib.hid (And.intro ht1 ht2)
      generalize (⟨q.toArray⟩ : ByteArray) = tq at *
      have HINV := Lib.hid hinv
      have HDD := Lib.hid hdd
      have HZ := Lib.hid (And.intro hz (And.intro hn htl))
      have HK := Lib.hid hk
      have HR := Lib.hid hr
      have HB := Lib.hid hb
      have HDL := Lib.hid hdl
      obtain ⟨W1, hW1⟩ : ∃ W1, wr.alloc (.cells #[.int .u64 d] 71) = W1 := ⟨_, rfl⟩
      have r1 : isRow W1 w.heap.size 71 .u64 (A ++ x0 :: post') := by rw [← hW1]; exact hr.below ((Below.refl _ _).alloc (Nat.le_refl _) _)
      have r1d : isRow W1 wr.heap.size 71 .u64 [d] := by rw [← hW1]; exact isRow_alloc wr 71 .u64 [d]
      have b1 : Below w.heap.size w W1 := by rw [← hW1]; exact hb.alloc (Nat.le_of_lt hg) _
      have s1 : W1.heap.size = wr.heap.size + 1 := by rw [← hW1]; simp
      have HS := Lib.hid (scale_lit (cap := c) (n := k) (off := 0) (pre := []) (a := A) (post := x0 :: post') (by simpa using r1) hinv.wd (by omega) hk rfl)
      have R1d := Lib.hid r1d
      have R1 := Lib.hid r1
      have B1 := Lib.hid b1
      clear hrc hrc2 hinv hdd hz hn htl hdt hr hb hdl r1 r1d b1 hk ht1 ht2
      go_wp2_with fail
      refine (HRC.out _).mono ?_
      rintro e w1 ⟨rfl, rfl⟩
      go_wp2_with fail
      refine HS.out.mono ?_
      rintro e w2 ⟨cur, cc, rfl, hw2, hsc⟩
      have hne : w.heap.size ≠ w1.heap.size := by omega
      have r2 : isRow w2 w.heap.size 71 .u64 (cur ++ x0 :: post') := by rw [hw2, List.nil_append]; exact R1.out.put _
      have r2d : isRow w2 w1.heap.size 71 .u64 [d] := by rw [hw2]; exact R1d.out.other (Ne.symm hne) _
      have s2 : w2.heap.size = w1.heap.size + 1 := by rw [hw2, put_size]; exact s1
      have b2 : Below w.heap.size w w2 := by rw [hw2]; exact B1.out.put (Nat.le_refl _) _ _
      obtain ⟨W3, hW3⟩ : ∃ W3, w2.alloc (.cells #[.int .u64 cc] 71) = W3 := ⟨_, rfl⟩
      have r3 : isRow W3 w.heap.size 71 .u64 (cur ++ x0 :: post') := by rw [← hW3]; exact r2.below ((Below.refl _ _).alloc (Nat.le_refl _) _)
      have r3d : isRow W3 w1.heap.size 71 .u64 [d] := by rw [← hW3]; exact r2d.below ((Below.refl _ _).alloc (Nat.le_refl _) _)
      have b3 : Below w.heap.size w W3 := by rw [← hW3]; exact b2.alloc (by omega) _
      have s3 : W3.heap.size = w1.heap.size + 2 := by rw [← hW3]; simp [s2]
      have c3 : W3.cell? ⟨w2.heap.size, 0, none⟩ = some (.int .u64 (cc : Int)) := by
        have h := isRow_alloc w2 71 .u64 [cc]
        have h1 := h.cell (i := 0) (by simp)
        rw [← hW3]; exact h1
      have hcl : cur.length = k := hsc.len.trans HK.out
      have hap := run_append1 (cap := c) (m := 1) (ty := 108) r3 c3 (by omega)
      rw [hcl] at hap
      have r4 : isRow (wput W3 w.heap.size .u64 (cur ++ cc :: post')) w.heap.size 71 .u64 ([] ++ ((cur ++ [cc]) ++ post')) := by rw [List.nil_append, List.append_assoc]; exact r3.put _
      have r4d : isRow (wput W3 w.heap.size .u64 (cur ++ cc :: post')) w1.heap.size 71 .u64 [d] := r3d.other (Ne.symm hne) _
      have b4 : Below w.heap.size w (wput W3 w.heap.size .u64 (cur ++ cc :: post')) := b3.put (Nat.le_refl _) _ _
      have s4 : (wput W3 w.heap.size .u64 (cur ++ cc :: post')).heap.size = w1.heap.size + 2 := by rw [put_size]; exact s3
      obtain ⟨W4, hW4⟩ : ∃ W4, wput W3 w.heap.size .u64 (cur ++ cc :: post') = W4 := ⟨_, rfl⟩
      rw [hW4] at hap r4 r4d b4 s4
      have hwd : Wd B64 (cur ++ [cc]) := hsc.wd.append (fun y hy => by rw [List.mem_singleton.1 hy]; exact hsc.carry)
      have sd : SlA W4 .u64 (some ⟨w1.heap.size, 0, none⟩) 1 [d] := r4d.sl (by simp) (by simp)
      have hadd := addTo_at (capa := c) (n := k + 1) (off := 0) (nb := 1) r4 hwd (fun y hy => by rw [List.mem_singleton.1 hy]; exact HDL.out) sd (fun _ p hp => by simp at hp; subst hp; exact Ne.symm hne) (by simp) (by simp; omega) (by simp; omega) rfl rfl
      have HAP := Lib.hid hap
      have HADD := Lib.hid hadd
      have HSC := Lib.hid hsc
      have R4 := Lib.hid r4
      have B4 := Lib.hid b4
      have S4 := Lib.hid s4
      clear s1 s2 s3 s4 r2 r2d b2 r3 r3d b3 c3 hap r4 r4d b4 hwd sd hadd hsc hw2 hcl hW4
      go_wp2_with (at_builtin; refine wpList_append_run rfl (.tmp 27) (.tmp 30) 108 108 rfl _ _ rfl rfl _ _ HAP.out ?_)
      refine HADD.out.mono ?_
      rintro e w5 ⟨cur2, c2, rfl, hw5, hadded⟩
      have r5 : isRow w5 w.heap.size 71 .u64 (cur2 ++ post') := by rw [hw5, List.nil_append]; exact R4.out.put _
      have b5 : Below w.heap.size w w5 := by rw [hw5]; exact B4.out.put (Nat.le_refl _) _ _
      have s5 : w.heap.size < w5.heap.size := by rw [hw5, put_size, S4.out]; omega
      have hq0 : q ≠ [] := by rintro rfl; have := HZ.out.2.1; simp at this; omega
      have hl5 : cur2.length = k + 1 := by rw [hadded.len, List.length_append, HSC.out.len, HK.out]; rfl
      have hstep := HINV.out.step (z := z) HD.out (by rw [HZ.out.2.1]; exact HZ.out.1) hq0 HSC.out (by rw [HDD.out]; exact hadded)
      have HREL := Lib.hid (show RcRel w l w.heap.size c (n - z) (.string t2) (.slice (some ⟨w.heap.size, 0, none⟩) (k + 1 : Nat) c) w5 from
        ⟨p ++ q.take z, q.drop z, cur2, post', n - z, k + 1, by rw [HT.out.2], by rw [List.length_drop, HZ.out.2.1], Nat.le_refl _, by omega, hl5, rfl, hstep, r5, b5, s5⟩)
      clear hw5 hadded r5 b5 s5 hq0 hl5 hstep hW1 hW3
      go_wp2_with fail
      go_roundg (n - z)
      case rel => exact HREL.out
      case measure => omega
    · have hq : q = [] := List.eq_nil_of_length_eq_zero (by omega)
      have hlp : l = p := by rw [hinv.app, hq, List.append_nil]
      have hsA : SlA wr .u64 (some ⟨w.heap.size, 0, none⟩) c A := isRow.seg (pre := []) (seg := A) (post := post) (by rw [List.nil_append]; exact hr) (by have := hinv.tot; omega) (by have := hinv.tot; omega)
      have HTR := Lib.hid (trim_at (n := k) hsA hk)
      have HFI := Lib.hid (fun e w' => trim_ret (n := dec l) (w0 := w) (e := e) (w' := w') hsA hinv.wd (by rw [hinv.eq, hlp]) hb)
      have h0' : n = 0 := by omega
      subst h0'
      clear hinv hr hb hq hlp hsA h0
      go_wp2_with fail
      refine HTR.out.mono ?_
      intro e w' ht
      obtain ⟨v, rfl, hv, hb⟩ := HFI.out _ _ ht
      clear ht
      go_wp2_with fail
      go_ret
      exact ⟨v, rfl, hv, hb⟩
end Go.Proofs.YtekghemhccfhkaaGreatDoor
namespace Go.Big
open Go
/-- The numeral of an integer. -/
def itext (n : Int) : List UInt8 := if n < 0 then 45 :: Lib.decDigits n.natAbs else Lib.decDigits n.natAbs
/-- The canonical text of a rational number. -/
def rtext (q : Rat) : List UInt8 := itext q.num ++ (if q.den = 1 then [] else 47 :: Lib.decDigits q.den)
theorem itext_eq (n : Int) : itext n = Lib.itoa n := by
  unfold itext Lib.itoa
  split
  · rfl
  · rw [show n.natAbs = n.toNat by omega]
/-- Digits as they are read: at least one, no leading zero. -/
def rdInt (l : List UInt8) : Option Nat := if (∀ b ∈ l, 48 ≤ b.toNat ∧ b.toNat ≤ 57) ∧ l ≠ [] ∧ (1 < l.length → l.head? ≠ some 48) then some (dec l) else none
theorem rdInt_dd (n : Nat) : rdInt (Lib.decDigits n) = some n := by
  have h3 : 1 < (Lib.decDigits n).length → (Lib.decDigits n).head? ≠ some 48 := by
    intro h h0
    obtain ⟨b, m, e⟩ := List.exists_cons_of_ne_nil (dd_ne n)
    have := dd_canon h b m e
    rw [e] at h0
    simp only [List.head?_cons, Option.some.injEq] at h0
    subst h0; exact this rfl
  unfold rdInt
  rw [if_pos ⟨dd_dig n, dd_ne n, h3⟩, dd_dec]
theorem rdInt_some {l : List UInt8} {n : Nat} (h : rdInt l = some n) : l = Lib.decDigits n := by
  unfold rdInt at h
  split at h
  · next hc =>
    simp at h; subst h
    exact (dd_of hc.1 hc.2.1 (fun hl b m e hb => hc.2.2 hl (by rw [e]; simp; exact UInt8.toNat_inj.1 hb))).symm
  · cases h
/-- The split at the first slash. -/
def slash : List UInt8 → Option (List UInt8 × List UInt8)
  | [] => none
  | b :: l => if b = 47 then some ([], l) else (slash l).map fun p => (b :: p.1, p.2)
theorem slash_none {l : List UInt8} (h : ∀ b ∈ l, b ≠ 47) : slash l = none := by
  induction l with
  | nil => rfl
  | cons b m ih =>
    rw [slash, if_neg (h b (by simp)), ih (fun x hx => h x (by simp [hx]))]; rfl
theorem slash_some {l m : List UInt8} (h : ∀ b ∈ l, b ≠ 47) : slash (l ++ 47 :: m) = some (l, m) := by
  induction l with
  | nil => simp [slash]
  | cons b k ih =>
    rw [List.cons_append, slash, if_neg (h b (by simp)), ih (fun x hx => h x (by simp [hx]))]; rfl
theorem slash_eq {l a b : List UInt8} (h : slash l = some (a, b)) : l = a ++ 47 :: b := by
  induction l generalizing a with
  | nil => simp [slash] at h
  | cons x m ih =>
    rw [slash] at h
    split at h
    · next hx => subst hx; simp at h; rw [h.1, h.2]; rfl
    · cases hs : slash m with
      | none => rw [hs] at h; simp at h
      | some p =>
        rw [hs] at h; simp at h
        rw [ih (a := p.1) (by rw [hs, ← h.2])]
        rw [← h.1]; rfl
theorem slash_nomem {l : List UInt8} (h : slash l = none) : ∀ b ∈ l, b ≠ 47 := by
  induction l with
  | nil => intro b hb; simp at hb
  | cons x m ih =>
    rw [slash] at h
    split at h
    · simp at h
    · next hx =>
      intro b hb
      rcases List.mem_cons.1 hb with e | e
      · rw [e]; exact hx
      · exact ih (by cases hs : slash m with | none => rfl | some p => rw [hs] at h; simp at h) b e
def unsign (l : List UInt8) : List UInt8 × Bool := match l with | 45 :: m => (m, true) | m => (m, false)
def signed (neg : Bool) (n : Nat) : Int := if neg then -(n : Int) else n
/-- Reading a canonical text. -/
def rd (s : List UInt8) : Option (Int × Nat) :=
  match slash (unsign s).1 with
  | none => match rdInt (unsign s).1 with
    | none => none
    | some n => if n = 0 ∧ s ≠ [48] then none else some (signed (unsign s).2 n, 1)
  | some (a, b) => match rdInt a, rdInt b with
    | some n, some d => if n = 0 ∨ d = 0 ∨ d = 1 ∨ Nat.gcd n d ≠ 1 then none else some (signed (unsign s).2 n, d)
    | _, _ => none
theorem dd_noslash (n : Nat) : ∀ b ∈ Lib.decDigits n, b ≠ 47 := fun b hb e => by
  have := dd_dig n b hb
  subst e; exact absurd this (by decide)
theorem unsign_dd (n : Nat) (m : List UInt8) : unsign (Lib.decDigits n ++ m) = (Lib.decDigits n ++ m, false) := by
  obtain ⟨b, l, e⟩ := List.exists_cons_of_ne_nil (dd_ne n)
  have hb := dd_dig n b (by rw [e]; simp)
  rw [e, List.cons_append]
  unfold unsign
  split
  · next h => simp at h; rw [h.1] at hb; exact absurd hb (by decide)
  · rfl
theorem unsign_itext (n : Int) (m : List UInt8) : unsign (itext n ++ m) = (Lib.decDigits n.natAbs ++ m, decide (n < 0)) := by
  unfold itext
  split
  · next h => rw [List.cons_append]; simp [unsign, h]
  · next h => rw [unsign_dd]; simp [h]
theorem signed_abs (n : Int) : signed (decide (n < 0)) n.natAbs = n := by
  unfold signed; split
  · next h => simp at h; omega
  · next h => simp at h; omega
theorem itext_zero : itext 0 = [48] := by unfold itext; rw [if_neg (by omega)]; exact Lib.decDigits_one (by omega)
theorem rd_rtext (q : Rat) : rd (rtext q) = some (q.num, q.den) := by
  unfold rd rtext
  rw [unsign_itext]
  by_cases h : q.den = 1
  · rw [if_pos h, List.append_nil, slash_none (dd_noslash _)]
    simp only [rdInt_dd]
    rw [if_neg ?_, signed_abs, h]
    rintro ⟨h0, h1⟩
    apply h1
    have : q.num = 0 := by omega
    rw [List.append_nil, this, itext_zero]
  · rw [if_neg h, slash_some (dd_noslash _)]
    simp only [rdInt_dd]
    rw [if_neg ?_, signed_abs]
    have hd := q.den_nz
    have hr := q.reduced
    rintro (h0 | h0 | h0 | h0)
    · rw [h0] at hr
      unfold Nat.Coprime at hr
      rw [Nat.gcd_zero_left] at hr
      exact h hr
    · exact hd h0
    · exact h h0
    · exact h0 hr
theorem unsign_eq (s : List UInt8) : s = (if (unsign s).2 then 45 :: (unsign s).1 else (unsign s).1) := by
  unfold unsign
  split <;> simp
theorem rd_some {s : List UInt8} {n : Int} {d : Nat} (h : rd s = some (n, d)) : ∃ q : Rat, q.num = n ∧ q.den = d ∧ s = rtext q := by
  have hs := unsign_eq s
  unfold rd at h
  cases hsl : slash (unsign s).1 with
  | none =>
    rw [hsl] at h
    simp only at h
    cases hr : rdInt (unsign s).1 with
    | none => rw [hr] at h; simp at h
    | some m =>
      rw [hr] at h
      simp only at h
      split at h
      · cases h
      · next hc =>
        simp only [Option.some.injEq, Prod.mk.injEq] at h
        refine ⟨⟨n, 1, by omega, Nat.coprime_one_right _⟩, rfl, h.2, ?_⟩
        have e := rdInt_some hr
        unfold rtext
        rw [if_pos rfl, List.append_nil]
        show s = itext n
        rw [← h.1]
        cases hn : (unsign s).2 with
        | false =>
          rw [hn] at hs
          simp only [Bool.false_eq_true, if_false] at hs
          have hn0 : ¬ ((m : Int) < 0) := by omega
          rw [show signed false m = (m : Int) from rfl]
          unfold itext
          rw [if_neg hn0, hs, e]; rfl
        | true =>
          rw [hn] at hs
          simp only [if_true] at hs
          have hm : m ≠ 0 := by
            intro h0
            apply hc
            refine ⟨h0, fun h1 => ?_⟩
            rw [h1] at hs; simp at hs
          have hn0 : (-(m : Int) < 0) := by omega
          rw [show signed true m = -(m : Int) from rfl]
          unfold itext
          rw [if_pos hn0, hs, e]
          congr 2; omega
  | some p =>
    obtain ⟨a, b⟩ := p
    rw [hsl] at h
    simp only at h
    cases hra : rdInt a with
    | none => rw [hra] at h; simp at h
    | some m =>
      cases hrb : rdInt b with
      | none => rw [hra, hrb] at h; simp at h
      | some k =>
        rw [hra, hrb] at h
        simp only at h
        split at h
        · cases h
        · next hc =>
          simp only [Option.some.injEq, Prod.mk.injEq] at h
          have hm : m ≠ 0 := fun e => hc (.inl e)
          have hk : k ≠ 0 := fun e => hc (.inr (.inl e))
          have hk1 : k ≠ 1 := fun e => hc (.inr (.inr (.inl e)))
          have hg : Nat.gcd m k = 1 := Decidable.byContradiction fun e => hc (.inr (.inr (.inr e)))
          have habs : n.natAbs = m := by rw [← h.1]; unfold signed; split <;> omega
          refine ⟨⟨n, k, hk, by rw [habs]; exact hg⟩, rfl, h.2, ?_⟩
          have ea := rdInt_some hra
          have eb := rdInt_some hrb
          have e := slash_eq hsl
          unfold rtext
          rw [if_neg hk1]
          show s = itext n ++ (47 :: Lib.decDigits k)
          rw [← eb]
          cases hn : (unsign s).2 with
          | false =>
            rw [hn] at hs h
            simp only [Bool.false_eq_true, if_false] at hs
            have hn0 : ¬ (n < 0) := by rw [← h.1]; unfold signed; simp
            unfold itext
            rw [if_neg hn0, habs, ← ea, ← e]; exact hs
          | true =>
            rw [hn] at hs h
            simp only [if_true] at hs
            have hn0 : n < 0 := by rw [← h.1]; unfold signed; simp; omega
            unfold itext
            rw [if_pos hn0, habs, ← ea, List.cons_append, ← e, ← hs]
open Classical in
/-- The value of a text: a text that is no number counts as 0. -/
noncomputable def qval (s : List UInt8) : Rat := if h : ∃ q : Rat, s = rtext q then h.choose else 0
theorem rtext_inj {p q : Rat} (h : rtext p = rtext q) : p = q := by
  have h1 := rd_rtext p
  rw [h, rd_rtext q] at h1
  simp only [Option.some.injEq, Prod.mk.injEq] at h1
  exact Rat.ext h1.1.symm h1.2.symm
theorem qval_rtext (q : Rat) : qval (rtext q) = q := by
  have h : ∃ p : Rat, rtext q = rtext p := ⟨q, rfl⟩
  unfold qval
  rw [dif_pos h]
  exact (rtext_inj h.choose_spec).symm
theorem qval_none {s : List UInt8} (h : rd s = none) : qval s = 0 := by
  unfold qval
  rw [dif_neg]
  rintro ⟨q, e⟩
  rw [e, rd_rtext] at h; cases h
theorem qval_rd {s : List UInt8} {n : Int} {d : Nat} (h : rd s = some (n, d)) : (qval s).num = n ∧ (qval s).den = d := by
  obtain ⟨q, h1, h2, e⟩ := rd_some h
  rw [e, qval_rtext]; exact ⟨h1, h2⟩
end Go.Big
