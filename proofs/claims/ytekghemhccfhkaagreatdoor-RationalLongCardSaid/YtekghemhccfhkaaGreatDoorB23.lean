/-
  Walks of the program's functions: MinusProd.
-/
import Derived.Test.YtekghemhccfhkaaGreatDoorB10
import Derived.Test.YtekghemhccfhkaaGreatDoorB13
import Derived.Test.YtekghemhccfhkaaGreatDoorB18
namespace Go.Big
open Go Go.RowKit
structure MpInv (a b : List Nat) (x y n i : Nat) (cur : List Nat) (cA cB br : Nat) : Prop where
  len : cur.length = n
  wd : Wd B64 cur
  ca : cA < 18446744073709551616
  cb : cB < 18446744073709551616
  br1 : br ≤ 1
  eq : val B64 (cur.take i) + y * val B64 (b.take i) + cA * B64 ^ i = x * val B64 (a.take i) + (cB + br) * B64 ^ i
theorem MpInv.start (a b : List Nat) (x y n : Nat) : MpInv a b x y n 0 (zeros n) 0 0 0 := ⟨zeros_len _, zeros_wd (by decide) _, by decide, by decide, by decide, by simp [val]⟩
theorem mp_arith {P B d lb br la br' cA' cA va x cB' cB vb y S T U : Nat} (e1 : la + B * cA' = va * x + cA) (e2 : lb + B * cB' = vb * y + cB) (e3 : d + lb + br = la + B * br')
    (h : S + y * T + cA * P = x * U + (cB + br) * P) : S + P * d + y * (T + P * vb) + cA' * (P * B) = x * (U + P * va) + (cB' + br') * (P * B) := by
  grind
theorem MpInv.step {a b cur : List Nat} {x y n i cA cB br : Nat} (h : MpInv a b x y n i cur cA cB br) (hi : i < n) (ha : a.length = n) (hb : b.length = n) (wa : Wd B64 a) (wb : Wd B64 b)
    (hx : x < 18446744073709551616) (hy : y < 18446744073709551616) :
    MpInv a b x y n (i + 1) (cur.set i (subLo (mcLo (nth a i) x cA) (mcLo (nth b i) y cB) br)) (mcHi (nth a i) x cA) (mcHi (nth b i) y cB) (subHi (mcLo (nth a i) x cA) (mcLo (nth b i) y cB) br) := by
  have hl := h.len
  refine ⟨by rw [List.length_set, hl], h.wd.set (subLo_lt _ _ _), mcHi_lt _ _ _, mcHi_lt _ _ _, subHi_le _ _ _, ?_⟩
  rw [set_take_val _ _ _ _ (by omega), take_val_nth _ a i (by omega), take_val_nth _ b i (by omega), Nat.pow_succ]
  exact mp_arith (mc_eq (wa.nth (by omega)) hx h.ca) (mc_eq (wb.nth (by omega)) hy h.cb) (sub_eq (mcLo_lt _ _ _) (mcLo_lt _ _ _) h.br1) h.eq
theorem mp_done {D N M S C E : Nat} (h : D + M + C * S = N + E * S) (hD : D < S) (hle : M ≤ N) (hlt : N < M + S) : D = N - M := by
  have h1 : C = E := by
    rcases Nat.lt_trichotomy C E with h2 | h2 | h2
    · have : (C + 1) * S ≤ E * S := Nat.mul_le_mul_right _ h2
      rw [Nat.add_mul, Nat.one_mul] at this
      omega
    · exact h2
    · have : (E + 1) * S ≤ C * S := Nat.mul_le_mul_right _ h2
      rw [Nat.add_mul, Nat.one_mul] at this
      omega
  subst h1
  omega
theorem MpInv.done {a b cur : List Nat} {x y n cA cB br : Nat} (h : MpInv a b x y n n cur cA cB br) (ha : a.length = n) (hb : b.length = n) (hle : y * val B64 b ≤ x * val B64 a) (hlt : x * val B64 a < y * val B64 b + B64 ^ n) :
    val B64 cur = x * val B64 a - y * val B64 b := by
  have e := h.eq
  rw [List.take_of_length_le (by rw [h.len]; omega), List.take_of_length_le (by omega), List.take_of_length_le (by omega)] at e
  have h1 := val_lt h.wd
  rw [h.len] at h1
  exact mp_done e h1 hle hlt
end Go.Big
namespace Go.Proofs.YtekghemhccfhkaaGreatDoor
open Go.RowKit Go.Big
set_option maxRecDepth 100000 in
set_option maxHeartbeats 2000000 in
theorem minusProducts_core (ao bo : Option Addr) (capa capb : Nat) (la lb : List Nat) (x y n : Nat) (w : World) (sa : SlA w .u64 ao capa la) (sb : SlA w .u64 bo capb lb) (wa : Wd B64 la) (wb : Wd B64 lb)
    (hx : x < 18446744073709551616) (hy : y < 18446744073709551616) (hn : max la.length lb.length = n) (hle : y * val B64 lb ≤ x * val B64 la) (hlt : x * val B64 la < y * val B64 lb + B64 ^ n) :
    Calls Tryz.prog 199 #[.slice ao la.length capa, .int .u64 x, .slice bo lb.length capb, .int .u64 y] w (RetNat w (x * val B64 la - y * val B64 lb)) := by
  have hla := sa.len_le
  have hlb := sb.len_le
  have hnn : n ≤ 1099511627776 := by omega
  have ha : la.length ≤ n := by omega
  have hb : lb.length ≤ n := by omega
  have hmax : max (la.length : Int) (lb.length : Int) = (n : Int) := by omega
  have wa1 := widen_any (size := n) sa rfl ha hnn
  have wb1 := fun w' (h : Below w.heap.size w w') => widen_any (size := n) (sb.below h) rfl hb hnn
  have HWA := Lib.hid wa1
  have HWB := Lib.hid wb1
  have HLE := Lib.hid (And.intro hle hlt)
  have HXY := Lib.hid (And.intro hx hy)
  have hifm : (if la.length < lb.length then (lb.length : Int) else (la.length : Int)) = (n : Int) := by split <;> omega
  clear wa1 wb1 hle hlt hx hy sa sb hn
  go_enter Tryz.func199, Tryz.ntmps199
  go_wp2_with fail
  refine HWA.out.mono ?_
  rintro e w1 ⟨ao1, capa1, rfl, sa1, hb1⟩
  have SA := Lib.hid sa1
  have HB1 := Lib.hid hb1
  clear sa1 hb1
  go_wp2_with fail
  refine (HWB.out _ HB1.out).mono ?_
  rintro e w2 ⟨bo1, capb1, rfl, sb2, hb2⟩
  have sa2 := SA.out.below hb2
  have hbel := below_trans HB1.out hb2
  have hla1 : (la ++ zeros (n - la.length)).length = n := by simp [zeros]; omega
  have hlb1 : (lb ++ zeros (n - lb.length)).length = n := by simp [zeros]; omega
  have wal : Wd B64 (la ++ zeros (n - la.length)) := wa.append (zeros_wd (by decide) _)
  have wbl : Wd B64 (lb ++ zeros (n - lb.length)) := wb.append (zeros_wd (by decide) _)
  have va : val B64 (la ++ zeros (n - la.length)) = val B64 la := by rw [val_append, zeros_val]; simp
  have vb : val B64 (lb ++ zeros (n - lb.length)) = val B64 lb := by rw [val_append, zeros_val]; simp
  generalize la ++ zeros (n - la.length) = A at *
  generalize lb ++ zeros (n - lb.length) = Bl at *
  have hmk := mk64 (n : Int) n rfl hnn w2
  have hr0 : isRow (w2.alloc (.cells (cellsOf .u64 (zeros n)) 71)) w2.heap.size 71 .u64 (zeros n) := isRow_alloc _ _ _ _
  have hb0 : Below w2.heap.size w2 (w2.alloc (.cells (cellsOf .u64 (zeros n)) 71)) := (Below.refl _ _).alloc (Nat.le_refl _) _
  generalize hW : w2.alloc (.cells (cellsOf .u64 (zeros n)) 71) = W at *
  have hb3 := hb0
  have HR := Lib.hid hr0
  have HB0 := Lib.hid hb0
  have HBel := Lib.hid hbel
  have HV := Lib.hid (And.intro va vb)
  have HL := Lib.hid (And.intro hla1 hlb1)
  have SA2 := Lib.hid sa2
  have SB2 := Lib.hid sb2
  clear hW hr0 hb0 hbel va vb hla1 hlb1 sa2 sb2 hb2 hb3 SA HWA HWB wa wb
  go_wp2_with fail
  go_loopw [11, 12, 13, 35] (fun p q r i wr => ∃ (k cA cB br : Nat) (cur : List Nat), k ≤ n ∧ i = .int .i64 k ∧ p = .int .u64 cA ∧ q = .int .u64 cB ∧ r = .int .u64 br ∧ MpInv A Bl x y n k cur cA cB br ∧ isRow wr w2.heap.size 71 .u64 cur ∧ Below w2.heap.size w2 wr)
    (fun _ _ _ i _ => n - (intOf i).toNat)
  case atStart => exact ⟨0, 0, 0, 0, _, Nat.zero_le _, rfl, rfl, rfl, rfl, MpInv.start A Bl x y n, HR.out, HB0.out⟩
  case round =>
    clear HR HB0
    obtain ⟨k, cA, cB, br, cur, hk, rfl, rfl, rfl, rfl, hinv, hr, hbw⟩ := hrel
    have hl := hinv.len
    by_cases hlt : k < n
    · obtain ⟨ga, offa, rfl, hga, hca⟩ := SA2.out.at (i := k) (by have := HL.out.1; omega)
      obtain ⟨gb, offb, rfl, hgb, hcb⟩ := SB2.out.at (i := k) (by have := HL.out.2; omega)
      have ca := (hbw.cell (p := ⟨ga, offa + k, none⟩) hga).trans (hca k (by have := HL.out.1; omega))
      have cb := (hbw.cell (p := ⟨gb, offb + k, none⟩) hgb).trans (hcb k (by have := HL.out.2; omega))
      have c0 := hr.cell (i := k) (by omega)
      have f0 := hr.frozen k
      have na : nth A k < 18446744073709551616 := wal.nth (by have := HL.out.1; omega)
      have nb : nth Bl k < 18446744073709551616 := wbl.nth (by have := HL.out.2; omega)
      have m1 := mul_at (nth A k) x na HXY.out.1 wr
      have m2 := mul_at (nth Bl k) y nb HXY.out.2 wr
      have h1 := run_addc (mulLo (nth A k) x) cA wr
      have h2 := run_add0 (mulHi (nth A k) x) (addHi (mulLo (nth A k) x) cA 0) (addHi_le (mulLo_lt _ _) hinv.ca (by decide)) wr
      have h3 := run_addc (mulLo (nth Bl k) y) cB wr
      have h4 := run_add0 (mulHi (nth Bl k) y) (addHi (mulLo (nth Bl k) y) cB 0) (addHi_le (mulLo_lt _ _) hinv.cb (by decide)) wr
      have h5 := run_sub (addLo (mulLo (nth A k) x) cA 0) (addLo (mulLo (nth Bl k) y) cB 0) br hinv.br1 wr
      have HStep := Lib.hid (hinv.step hlt HL.out.1 HL.out.2 wal wbl HXY.out.1 HXY.out.2)
      have HR2 := Lib.hid (hr.storeRow k (subLo (mcLo (nth A k) x cA) (mcLo (nth Bl k) y cB) br))
      have M1 := Lib.hid m1
      have M2 := Lib.hid m2
      clear m1 m2 na nb hca hcb hr hl hinv
      go_wp2_with fail
      refine M1.out.mono ?_
      rintro e w3 ⟨rfl, rfl⟩
      go_wp2_with fail
      refine M2.out.mono ?_
      rintro e w3 ⟨rfl, rfl⟩
      go_wp2_with fail
      go_roundw
      case rel => exact ⟨k + 1, _, _, _, _, by omega, by go_num, rfl, rfl, rfl, HStep.out, HR2.out, hbw.setCell (Nat.le_refl _) _⟩
      case measure => simp [intOf]; omega
    · have hkn : k = n := by omega
      subst hkn
      have hs2 := hr.sl (cap := k) (by omega) (by omega)
      have hv := hinv.done HL.out.1 HL.out.2 (by rw [HV.out.1, HV.out.2]; exact HLE.out.1) (by rw [HV.out.1, HV.out.2]; exact HLE.out.2)
      rw [HV.out.1, HV.out.2] at hv
      have hwd := hinv.wd
      have htr := trim_at hs2 hl
      have H := Lib.hid htr
      have HVV := Lib.hid hv
      clear htr hv hl
      go_wp2_with fail
      refine H.out.mono ?_
      intro e w5 ht
      have hret := trim_ret hs2 hwd HVV.out hbw ht
      obtain ⟨v, rfl, hv, hbw⟩ := hret
      have HB := Lib.hid (below_trans HBel.out hbw)
      clear H ht hbw
      go_wp2_with fail
      go_ret
      exact ⟨v, rfl, hv, HB.out⟩
end Go.Proofs.YtekghemhccfhkaaGreatDoor
