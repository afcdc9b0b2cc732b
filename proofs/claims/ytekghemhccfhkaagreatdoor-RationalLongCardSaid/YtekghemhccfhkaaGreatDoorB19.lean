/-
  Walks of the program's functions: ShL, ShR.
-/
import Derived.Test.YtekghemhccfhkaaGreatDoorB09
import Derived.Test.YtekghemhccfhkaaGreatDoorB05
namespace Go.Proofs.YtekghemhccfhkaaGreatDoor
open Go.RowKit Go.Big
set_option maxRecDepth 100000 in
set_option maxHeartbeats 400000 in
theorem shiftLeft_core (ao : Option Addr) (capa : Nat) (la : List Nat) (w : World) (s : Nat) (sa : SlA w .u64 ao capa la) (wa : Wd B64 la) (hs : s < 64) (hK : la.length < 1099511627776) :
    Calls Tryz.prog 176 #[.slice ao la.length capa, .int .i64 s] w (RetNat w (val B64 la * 2 ^ s)) := by
  have hmk := mk64 (la.length + 1) (la.length + 1) rfl hK w
  have hr0 : isRow (w.alloc (.cells (cellsOf .u64 (zeros (la.length + 1))) 71)) w.heap.size 71 .u64 (zeros (la.length + 1)) := isRow_alloc _ _ _ _
  have hb0 : Below w.heap.size w (w.alloc (.cells (cellsOf .u64 (zeros (la.length + 1))) 71)) := (Below.refl _ _).alloc (Nat.le_refl _) _
  generalize hW : w.alloc (.cells (cellsOf .u64 (zeros (la.length + 1))) 71) = W at *
  clear hW
  have HR := Lib.hid hr0
  clear hr0
  obtain ⟨t, ht⟩ : ∃ t, s + t = 64 := ⟨64 - s, by omega⟩
  have hst : (64 : Int) - (s : Int) = (t : Int) := by omega
  have ht' : t ≤ 64 := by omega
  have HT := Lib.hid ht
  clear ht
  go_enter Tryz.func176, Tryz.ntmps176
  go_wp2_with fail
  go_loopw [14] (fun i wr => ∃ (k : Nat) (cur : List Nat), k ≤ la.length ∧ i = .int .i64 k ∧ ShlInv la s k cur ∧ isRow wr w.heap.size 71 .u64 cur ∧ Below w.heap.size w wr)
    (fun i _ => la.length - (intOf i).toNat)
  case atStart => exact ⟨0, _, Nat.zero_le _, rfl, ShlInv.start la s, HR.out, hb0⟩
  case round =>
    clear hb0 HR
    obtain ⟨k, cur, hk, rfl, hinv, hr, hb⟩ := hrel
    have hl := hinv.len
    have HL := Lib.hid hl
    by_cases hlt : k < la.length
    · obtain ⟨ba, offa, rfl, hba, hca⟩ := sa.at hlt
      have ca := (hb.cell (p := ⟨ba, offa + k, none⟩) hba).trans (hca k hlt)
      have c0 := hr.cell (i := k) (by omega)
      have c1 := hr.cell (i := k + 1) (by omega)
      have f0 := hr.frozen k
      have f1 := hr.frozen (k + 1)
      have SA := Lib.hid sa
      have HR := Lib.hid hr
      clear sa hr hl hca
      go_wp2_with fail
      go_region
      go_wp2_with fail
      go_roundw
      case rel => exact ⟨k + 1, _, by omega, by go_num, hinv.step HT.out wa hlt, HR.out.store2 _ _ _ _, below_drewN (((hb.setCell (Nat.le_refl _) _).setCell (Nat.le_refl _) _)) 1⟩
      case measure => simp [intOf]; omega
    · have hkl : k = la.length := by omega
      subst hkl
      have hs2 := hr.sl (cap := la.length + 1) (by omega) (by omega)
      have hv := hinv.done
      have hwd := hinv.wd
      have htr := trim_at hs2 hl
      have H := Lib.hid htr
      have HV := Lib.hid hv
      clear htr hv HL hl
      go_wp2_with fail
      refine H.out.mono ?_
      intro e w1 ht
      have hret := trim_ret hs2 hwd HV.out hb ht
      obtain ⟨v, rfl, hv, hb⟩ := hret
      clear H ht
      go_wp2_with fail
      go_ret
      exact ⟨v, rfl, hv, hb⟩
/-- (natural).shiftLeft -/
theorem shiftLeft_any {va : Value} {m s K : Nat} {w : World} (ha : NatV w .u64 B64 va m) (hs : s < 64) (hK : K < 1099511627776) (hm : m < B64 ^ K) :
    Calls Tryz.prog 176 #[va, .int .i64 s] w (RetNat w (m * 2 ^ s)) := by
  obtain ⟨ao, capa, la, rfl, sa, wa, _, ea, la'⟩ := natv_len ha hm
  subst ea
  exact shiftLeft_core ao capa la w s sa wa hs (by omega)
end Go.Proofs.YtekghemhccfhkaaGreatDoor
namespace Go.Proofs.YtekghemhccfhkaaGreatDoor
open Go.RowKit Go.Big
set_option maxRecDepth 100000 in
set_option maxHeartbeats 1000000 in
theorem shiftRight_core (ao : Option Addr) (capa : Nat) (la : List Nat) (w : World) (s : Nat) (sa : SlA w .u64 ao capa la) (wa : Wd B64 la) (hs : s < 64) :
    Calls Tryz.prog 178 #[.slice ao la.length capa, .int .i64 s] w (RetNat w (val B64 la / 2 ^ s)) := by
  have hK := sa.len_le
  have hmk := mk64 la.length la.length rfl hK w
  have hr0 : isRow (w.alloc (.cells (cellsOf .u64 (zeros la.length)) 71)) w.heap.size 71 .u64 (zeros la.length) := isRow_alloc _ _ _ _
  have hb0 : Below w.heap.size w (w.alloc (.cells (cellsOf .u64 (zeros la.length)) 71)) := (Below.refl _ _).alloc (Nat.le_refl _) _
  generalize hW : w.alloc (.cells (cellsOf .u64 (zeros la.length)) 71) = W at *
  clear hW
  have HR := Lib.hid hr0
  clear hr0
  obtain ⟨t, ht⟩ : ∃ t, s + t = 64 := ⟨64 - s, by omega⟩
  have hst : (64 : Int) - (s : Int) = (t : Int) := by omega
  have ht' : t ≤ 64 := by omega
  have HT := Lib.hid ht
  clear ht
  go_enter Tryz.func178, Tryz.ntmps178
  go_wp2_with fail
  go_loopw [13] (fun i wr => ∃ (k : Nat) (cur : List Nat), k ≤ la.length ∧ i = .int .i64 k ∧ ShrInv la s t k cur ∧ isRow wr w.heap.size 71 .u64 cur ∧ Below w.heap.size w wr)
    (fun i _ => la.length - (intOf i).toNat)
  case atStart => exact ⟨0, _, Nat.zero_le _, rfl, ShrInv.start la s t, HR.out, hb0⟩
  case round =>
    clear hb0 HR
    obtain ⟨k, cur, hk, rfl, hinv, hr, hb⟩ := hrel
    have hl := hinv.len
    have HL := Lib.hid hl
    by_cases hlt : k < la.length
    · obtain ⟨ba, offa, rfl, hba, hca⟩ := sa.at hlt
      have ca := (hb.cell (p := ⟨ba, offa + k, none⟩) hba).trans (hca k hlt)
      rcases Nat.eq_zero_or_pos k with hk0 | hpos
      · have HZ := Lib.hid hk0
        have hk0' : k ≤ 0 := by omega
        have c0 := hr.cell (i := k) (by omega)
        have f0 := hr.frozen k
        have SA := Lib.hid sa
        have HR := Lib.hid hr
        clear sa hr hl hca hk0
        go_wp2_with fail
        go_roundw
        case rel =>
          have e := HZ.out
          subst e
          exact ⟨1, _, by omega, by go_num, hinv.step0 HT.out wa hlt, HR.out.storeRow _ _, hb.setCell (Nat.le_refl _) _⟩
        case measure => simp [intOf]; omega
      · obtain ⟨j, rfl⟩ : ∃ j, k = j + 1 := ⟨k - 1, by omega⟩
        have c0 := hr.cell (i := j) (by omega)
        have c1 := hr.cell (i := j + 1) (by omega)
        have f0 := hr.frozen j
        have f1 := hr.frozen (j + 1)
        have hc := (hr.storeRow (j + 1) (shrW (nth la (j + 1)) s)).cell (i := j) (by rw [List.length_set]; omega)
        rw [nth_set_ne (by omega)] at hc
        have hf := (hr.storeRow (j + 1) (shrW (nth la (j + 1)) s)).frozen j
        have SA := Lib.hid sa
        have HR := Lib.hid hr
        clear sa hr hl hca hpos
        go_wp2_with fail
        go_region
        go_wp2_with fail
        go_roundw
        case rel => exact ⟨j + 2, _, by omega, by go_num, hinv.step HT.out wa hlt, HR.out.store2 _ _ _ _, below_drewN (((hb.setCell (Nat.le_refl _) _).setCell (Nat.le_refl _) _)) 1⟩
        case measure => simp [intOf]; omega
    · have hkl : k = la.length := by omega
      subst hkl
      have hs2 := hr.sl (cap := la.length) (by omega) (by omega)
      have hv := hinv.done
      have hwd := hinv.wd
      have htr := trim_at hs2 hl
      have H := Lib.hid htr
      have HV := Lib.hid hv
      clear htr hv HL hl
      go_wp2_with fail
      refine H.out.mono ?_
      intro e w1 ht
      have hret := trim_ret hs2 hwd HV.out hb ht
      obtain ⟨v, rfl, hv, hb⟩ := hret
      clear H ht
      go_wp2_with fail
      go_ret
      exact ⟨v, rfl, hv, hb⟩
/-- (natural).shiftRight -/
theorem shiftRight_any {va : Value} {m s : Nat} {w : World} (ha : NatV w .u64 B64 va m) (hs : s < 64) :
    Calls Tryz.prog 178 #[va, .int .i64 s] w (RetNat w (m / 2 ^ s)) := by
  obtain ⟨ao, capa, la, rfl, sa, wa, _, ea⟩ := ha
  subst ea
  exact shiftRight_core ao capa la w s sa wa hs
end Go.Proofs.YtekghemhccfhkaaGreatDoor
