/-
  Walks of the program's functions: DivDig, Divide, DivLong.
-/
import Derived.Test.YtekghemhccfhkaaGreatDoorB17
import Derived.Test.YtekghemhccfhkaaGreatDoorB13
import Derived.Test.YtekghemhccfhkaaGreatDoorB04
import Derived.Deep.QuietTactic
import Derived.BigQuiet
import Derived.Deep.DeepCutAuto
import Derived.Deep.DeepFit
import Derived.Deep.CutBlock
import Derived.Test.YtekghemhccfhkaaGreatDoorB12
import Derived.Test.YtekghemhccfhkaaGreatDoorB19
import Derived.Test.YtekghemhccfhkaaGreatDoorB09
namespace Go.Proofs.YtekghemhccfhkaaGreatDoor
open Go.RowKit Go.Big
/-- Two natural numbers come back. -/
def RetNat2 (w : World) (m n : Nat) (e : Ending) (w' : World) : Prop := ∃ v v', e = .returned (.tuple #[v, v']) ∧ NatV w' .u64 B64 v m ∧ NatV w' .u64 B64 v' n ∧ Below w.heap.size w w'

/-- What holds behind the digits from k on: in the world wr, with the rest in block g1 and the quotient in block g2. -/
def DdRel (w : World) (la lb : List Nat) (g1 g2 : Nat) (x : Value) (wr : World) : Prop :=
  ∃ (k : Nat) (R Q : List Nat), x = .int .i64 ((k : Int) - 1) ∧ k ≤ la.length - lb.length + 1 ∧ DdInv B64 la lb k R Q ∧ isRow wr g1 71 .u64 R ∧ isRow wr g2 71 .u64 Q ∧ Below w.heap.size w wr

set_option maxRecDepth 100000 in
set_option maxHeartbeats 1500000 in
theorem divideByDigits_core (ao bo : Option Addr) (capa capb : Nat) (la lb : List Nat) (w : World) (sa : SlA w .u64 ao capa la) (sb : SlA w .u64 bo capb lb)
    (wa : Wd B64 la) (wb : Wd B64 lb) (nb : Nz lb) (hb2 : 2 ≤ lb.length) (hl : lb.length ≤ la.length) (hK : la.length < 1000000000000) :
    Calls Tryz.prog 206 #[.slice ao la.length capa, .slice bo lb.length capb] w (RetNat2 w (val B64 la / val B64 lb) (val B64 la % val B64 lb)) := by
  have hmk := mk64 (la.length + 1) (la.length + 1) rfl (by omega) w
  have hr0 : isRow (w.alloc (.cells (cellsOf .u64 (zeros (la.length + 1))) 71)) w.heap.size 71 .u64 (zeros (la.length + 1)) := isRow_alloc _ _ _ _
  have hb0 : Below w.heap.size w (w.alloc (.cells (cellsOf .u64 (zeros (la.length + 1))) 71)) := (Below.refl _ _).alloc (Nat.le_refl _) _
  have hs0 : (w.alloc (.cells (cellsOf .u64 (zeros (la.length + 1))) 71)).heap.size = w.heap.size + 1 := by simp
  generalize hW : w.alloc (.cells (cellsOf .u64 (zeros (la.length + 1))) 71) = W at *
  clear hW
  have hcp := copy64 (off := 0) (dLen := la.length + 1) (dCap := la.length + 1) (cap := capa) hr0 (sa.below hb0) (by omega) (by rw [zeros_len]; omega) 3
  rw [zeros_fill, Nat.add_sub_cancel_left] at hcp
  have hr1 : isRow (wput W w.heap.size .u64 (la ++ zeros 1)) w.heap.size 71 .u64 (la ++ zeros 1) := hr0.put _
  have hb1 : Below w.heap.size w (wput W w.heap.size .u64 (la ++ zeros 1)) := hb0.put (Nat.le_refl _) _ _
  have hs1 : (wput W w.heap.size .u64 (la ++ zeros 1)).heap.size = w.heap.size + 1 := by rw [put_size, hs0]
  generalize hW1 : wput W w.heap.size .u64 (la ++ zeros 1) = W1 at *
  clear hW1 hs0 hr0 hb0
  obtain ⟨nq, hq⟩ : ∃ nq, la.length - lb.length + 1 = nq := ⟨_, rfl⟩
  have eq : (la.length : Int) - (lb.length : Int) + 1 = (nq : Int) := by omega
  have hmk2 := mk64 (nq : Int) nq rfl (by omega) W1
  rw [hs1] at hmk2
  have hr2 : isRow (W1.alloc (.cells (cellsOf .u64 (zeros nq)) 71)) (w.heap.size + 1) 71 .u64 (zeros nq) := by
    have := isRow_alloc W1 71 .u64 (zeros nq)
    rwa [hs1] at this
  have hr1' := hr1.below (w' := W1.alloc (.cells (cellsOf .u64 (zeros nq)) 71)) ((Below.refl _ _).alloc (Nat.le_refl _) _)
  have hb2' := hb1.alloc (by omega) (.cells (cellsOf .u64 (zeros nq)) 71)
  generalize hW2 : W1.alloc (.cells (cellsOf .u64 (zeros nq)) 71) = W2 at *
  clear hW2 hr1 hb1 hs1
  have hstart : DdRel w la lb w.heap.size (w.heap.size + 1) (.int .i64 ((nq : Int) - 1)) W2 := by
    refine ⟨nq, _, _, rfl, by omega, ?_, hr1', hr2, hb2'⟩
    subst hq
    exact DdInv.start (by decide) wa nb hb2 hl
  have HS := Lib.hid hstart
  have HQ := Lib.hid hq
  clear hstart hr1' hr2 hb2' hq
  go_enter Tryz.func206, Tryz.ntmps206
  go_wp2_with fail
  go_loopw [8] (fun x wr => DdRel w la lb w.heap.size (w.heap.size + 1) x wr) (fun x _ => (intOf x + 1).toNat)
  case atStart => exact HS.out
  case round =>
    clear HS
    obtain ⟨k, R, Q, rfl, hk, hinv, hr1, hr2, hbel⟩ := hrel
    rcases Nat.eq_zero_or_pos k with hk0 | hpos
    · subst hk0
      have hd := hinv.done hl
      have hrl := hinv.rlen
      have hql := hinv.qlen
      have s2 := hr2.sl (cap := nq) (by have := HQ.out; omega) (by have := HQ.out; omega)
      have s1 := (hr1.sl (cap := la.length + 1) (by omega) (by omega)).take lb.length
      have n2 := natv_trim s2 hinv.qwd (n := nq) (by have := HQ.out; omega) hd.1
      have n1 := natv_trim s1 (hinv.rwd.take _) (n := lb.length) (by rw [List.length_take]; omega) hd.2
      have t2 := fun d => trim_det_at (w := wr.drewN d) (s2.below (below_drewN (Below.refl _ _) d)) (n := nq) (by have := HQ.out; omega)
      have t1 := fun d => trim_det_at (w := wr.drewN d) (s1.below (below_drewN (Below.refl _ _) d)) (n := lb.length) (by rw [List.length_take]; omega)
      have hs1 : ∀ w', (Instr.slice 108 (.slice (some ⟨w.heap.size, 0, none⟩) (la.length + 1) (la.length + 1)) none (some (.int .i64 (lb.length : Int))) none).run Tryz.prog w' = .ok (.slice (some ⟨w.heap.size, 0, none⟩) lb.length (la.length + 1)) w' := fun w' =>
        run_slice_to 108 71 Tryz.underlying108 (by kernel_rfl) _ _ _ _ (by omega) w'
      have T1 := Lib.hid t1
      have T2 := Lib.hid t2
      have N1 := Lib.hid n1
      have N2 := Lib.hid n2
      clear t1 t2 n1 n2 s1 s2 hrl hql hd hinv hr1 hr2
      go_wp2_with fail
      go_quiet ((go_at_call 174; first | (with_reducible exact Calls.quiet_of_same (T2.out _)) | (with_reducible exact Calls.quiet_of_same (T1.out _))))
      go_wp2_with fail
      go_ret2
      exact ⟨_, _, rfl, NatV.below N2.out (below_drewN (Below.refl _ _) _), NatV.below N1.out (below_drewN (Below.refl _ _) _), below_drewN hbel _⟩
    · obtain ⟨i, rfl⟩ : ∃ i, k = i + 1 := ⟨k - 1, by omega⟩
      obtain ⟨wl, ww, wv, wlt⟩ := hinv.window (by omega) hl
      have hrl := hinv.rlen
      have hql := hinv.qlen
      have hpre : (R.take i).length = i := by rw [List.length_take]; omega
      have hrs : isRow wr w.heap.size 71 .u64 (R.take i ++ ((R.drop i).take (lb.length + 1) ++ R.drop (i + (lb.length + 1)))) := by rw [← parts3' R i (lb.length + 1)]; exact hr1
      have hsw := hrs.seg (cap := la.length + 1 - i) (by omega) (by omega)
      rw [hpre] at hsw
      have sbr := sb.below hbel
      have hg := guess_at hsw sbr ww wb wl hb2 wlt wl rfl
      have hs1 : ∀ w', (Instr.slice 108 (.slice (some ⟨w.heap.size, 0, none⟩) (la.length + 1) (la.length + 1)) (some (.int .i64 (i : Int))) (some (.int .i64 ((i : Int) + (lb.length : Int) + 1))) none).run Tryz.prog w' = .ok (.slice (some ⟨w.heap.size, i, none⟩) (lb.length + 1) (la.length + 1 - i)) w' := fun w' => by
        rw [run_slice_mid 108 71 Tryz.underlying108 (by kernel_rfl) w.heap.size 0 _ _ i (i + lb.length + 1) _ (by omega) (by omega) (by omega) (by omega) w', Nat.zero_add, show i + lb.length + 1 - i = lb.length + 1 from by omega]
      have e1 : (((i + 1 : Nat) : Int) - 1) = i := by omega
      rw [e1]
      have HG := Lib.hid hg
      have HP := Lib.hid hpre
      have HW := Lib.hid (And.intro wl (And.intro ww (And.intro wv wlt)))
      have HR1 := Lib.hid hrs
      have HR2 := Lib.hid hr2
      have HRL := Lib.hid (And.intro hrl hql)
      have HQk : Hid (i + 1 ≤ nq) := (by have := HQ.out; omega : i + 1 ≤ nq)
      have hib : i + lb.length ≤ la.length := by omega
      clear hg hpre wl ww wv wlt hrs hr1 hr2 hsw e1 hrl hql hpos hk
      go_wp2_with fail
      refine HG.out.mono ?_
      rintro e w1 ⟨d, rfl, hd, hup, n1, rfl⟩
      have hbel1 := below_drewN hbel n1
      have hsub := subtractProduct_at (caps := la.length + 1 - i) (capb := capb) (bo := bo) (x := d) (HR1.out.drewN n1) HW.out.2.1 wb (sb.below hbel1) (fun h p hp => by have := SlA.blk sb h p hp; omega) hd HW.out.1 HW.out.1 HP.out rfl
      have HSub := Lib.hid hsub
      have HUp := Lib.hid hup
      have HD := Lib.hid hd
      clear hsub hup hd hbel HG
      go_wp2_with fail
      refine HSub.out.mono ?_
      rintro e w2 ⟨cur, c, rfl, rfl, hcl, hcw, hcc, hce⟩
      have hin : InInv ((R.drop i).take (lb.length + 1)) lb cur d c := ⟨hcl, hcw, hcc, HD.out, hce, HUp.out⟩
      have HIn := Lib.hid hin
      clear hcl hcw hcc hce hin HSub
      go_wp2_with fail
      go_loopw [10, 11] (fun x y wi => ∃ (d c : Nat) (cur : List Nat), x = .int .u64 d ∧ y = .int .u64 c ∧ InInv ((R.drop i).take (lb.length + 1)) lb cur d c ∧ wi = wput (wr.drewN n1) w.heap.size .u64 (R.take i ++ (cur ++ R.drop (i + (lb.length + 1))))) (fun x _ _ => (intOf x).toNat)
      case atStart => exact ⟨d, c, cur, rfl, rfl, HIn.out, rfl⟩
      case round =>
        clear HIn HUp HD
        obtain ⟨d, c, cur, rfl, rfl, hin, rfl⟩ := hrel
        have hcarry := hin.carry
        have hb2 := hbel1.put (Nat.le_refl _) .u64 (R.take i ++ (cur ++ R.drop (i + (lb.length + 1))))
        have hw1 := (HR1.out.drewN n1).put (R.take i ++ (cur ++ R.drop (i + (lb.length + 1))))
        have hw2 := (HR2.out.drewN n1).other (k' := .u64) (g' := w.heap.size) (by omega) (R.take i ++ (cur ++ R.drop (i + (lb.length + 1))))
        have hpp : ∀ l, wput (wput (wr.drewN n1) w.heap.size .u64 (R.take i ++ (cur ++ R.drop (i + (lb.length + 1))))) w.heap.size .u64 l = wput (wr.drewN n1) w.heap.size .u64 l := fun l => put_put _ _ _ _ _
        have HPP := Lib.hid hpp
        clear hpp
        generalize hWd : wput (wr.drewN n1) w.heap.size .u64 (R.take i ++ (cur ++ R.drop (i + (lb.length + 1)))) = W at *
        have HWd := Lib.hid hWd
        have HIn := Lib.hid hin
        clear hWd hin
        by_cases hz : c = 0
        · subst hz
          have c2 := hw2.cell (i := i) (by rw [HRL.out.2]; have := HQ.out; have := HQk.out; omega)
          have f2 := hw2.frozen i
          have hiq : i < nq := by have := HQk.out; omega
          have hfin : DdRel w la lb w.heap.size (w.heap.size + 1) (.int .i64 ((i : Int) - 1)) (W.setCell ⟨w.heap.size + 1, i, none⟩ (.int .u64 (d : Int))) := by
            obtain ⟨q1, q2⟩ := HIn.out.done
            exact ⟨i, _, Q.set i d, rfl, by have := HQ.out; omega, hinv.step (by have := HQ.out; omega) hl wb (by rw [HIn.out.len, HW.out.1]) HIn.out.wd HIn.out.dlt q2 q1, hw1.otherCell (by simp) _, hw2.storeRow i d, hb2.setCell (by simp) _⟩
          have HF := Lib.hid hfin
          have hc0 : ((0 : Int) != 0) = false := rfl
          clear hfin hw1 hw2 hinv
          go_wp2_with fail
          go_roundw
          case rel => exact HF.out
          case measure => simp [intOf]
        · have hz' : ((c : Int) != 0) = true := by rw [bne_iff_ne]; omega
          have hc1 : Hid (c = 1) := (by omega : c = 1)
          have hadd := addTo_at (capa := la.length + 1 - i) (capb := capb) (bo := bo) hw1 HIn.out.wd wb (sb.below hb2) (fun h p hp => by have := SlA.blk sb h p hp; omega) (by rw [HIn.out.len, HW.out.1]; omega) (by rw [HIn.out.len, HW.out.1]; omega) (by rw [HIn.out.len, HW.out.1]) HP.out rfl
          have HA := Lib.hid hadd
          clear hadd hw1 hw2 hz
          go_wp2_with fail
          refine HA.out.mono ?_
          rintro e w3 ⟨cur', c', rfl, rfl, had⟩
          have hstep : 0 < d ∧ InInv ((R.drop i).take (lb.length + 1)) lb cur' (d - 1) (1 - c') := by
            have h := HIn.out
            rw [hc1.out] at h
            exact h.step had
          have hsb : Hid (subW d 1 = d - 1) := subW_le hstep.1 HIn.out.dlt
          have hsc : Hid (subW c c' = 1 - c') := by show subW c c' = 1 - c'; rw [hc1.out]; exact subW_le had.carry (by decide)
          have HSt := Lib.hid hstep
          clear hstep had HA
          go_wp2_with fail
          go_roundw
          case rel => exact ⟨subW d 1, subW c c', cur', rfl, rfl, by rw [hsb.out, hsc.out]; exact HSt.out.2, HPP.out _⟩
          case measure => have := HSt.out.1; have := hsb.out; simp [intOf]; omega
end Go.Proofs.YtekghemhccfhkaaGreatDoor
namespace Go.Proofs.YtekghemhccfhkaaGreatDoor
open Go.RowKit Go.Big
theorem compare_at {va vb : Value} {m n : Nat} {v : Int} {w : World} (ha : NatV w .u64 B64 va m) (hb : NatV w .u64 B64 vb n) (h : cmpInt m n = v) :
    Calls Tryz.prog 155 #[va, vb] w fun e w' => e = .returned (.int .i64 v) ∧ Below w.heap.size w w' := by
  subst h; exact compare_any ha hb
theorem natv_nil (w : World) : NatV w .u64 B64 (.slice none 0 0) 0 := ⟨none, 0, [], rfl, SlA.nil _ _ _ _, fun _ h => by simp at h, Nz_nil, rfl⟩

set_option maxRecDepth 100000 in
set_option maxHeartbeats 1000000 in
/-- (natural).divideScaled, of numbers below the length from which they are split -/
theorem divideScaled_any {va vb : Value} {m n K : Nat} {w : World} (ha : NatV w .u64 B64 va m) (hb : NatV w .u64 B64 vb n) (hK : K < 240) (hm : m < B64 ^ K) (hn : n < B64 ^ K) (hn2 : B64 ≤ n) :
    Calls Tryz.prog 177 #[va, vb] w (RetNat2 w (m / n) (m % n)) := by
  rcases Nat.lt_or_ge m n with h | h
  · have hc := compare_at ha hb (v := -1) (cmpInt_lt (by omega))
    obtain ⟨ao, capa, la, rfl, sa, wa, na, ea, la'⟩ := natv_len ha hm
    obtain ⟨bo, capb, lb, rfl, sb, wb, nb, eb, lb'⟩ := natv_len hb hn
    have HC := Lib.hid hc
    have HA := Lib.hid ha
    have HV := Lib.hid (And.intro (Nat.div_eq_of_lt h) (Nat.mod_eq_of_lt h))
    clear hc ha hb sa sb ea eb hm hn hn2
    go_enter Tryz.func177, Tryz.ntmps177
    go_wp2_with fail
    refine HC.out.mono ?_
    rintro e w1 ⟨rfl, hb1⟩
    clear HC
    go_wp2_with fail
    go_ret2
    exact ⟨_, _, rfl, by rw [HV.out.1]; exact natv_nil _, by rw [HV.out.2]; exact HA.out.below hb1, hb1⟩
  · obtain ⟨v, hv0, hv⟩ : ∃ v : Int, 0 ≤ v ∧ cmpInt m n = v := by
      refine ⟨cmpInt m n, ?_, rfl⟩
      unfold cmpInt
      rw [if_neg (by omega)]
      split <;> decide
    have hc := compare_at ha hb hv
    obtain ⟨ao, capa, la, rfl, sa, wa, na, ea, la'⟩ := natv_len ha hm
    obtain ⟨bo, capb, lb, rfl, sb, wb, nb, eb, lb'⟩ := natv_len hb hn
    have hlen : lb.length ≤ la.length := by
      rcases Nat.lt_or_ge la.length lb.length with h1 | h1
      · have := val_lt_of_len (B := B64) (by decide) wa nb h1; omega
      · exact h1
    have hb2 : 2 ≤ lb.length := by
      rcases Nat.lt_or_ge lb.length 2 with h1 | h1
      · have h2 := val_lt wb
        have h3 : B64 ^ lb.length ≤ B64 ^ 1 := Nat.pow_le_pow_right (by decide) (by omega)
        rw [Nat.pow_one] at h3
        omega
      · exact h1
    have hd := fun w' (h1 : SlA w' .u64 ao capa la) (h2 : SlA w' .u64 bo capb lb) => divideByDigits_core ao bo capa capb la lb w' h1 h2 wa wb nb hb2 hlen (by omega)
    rw [ea, eb] at hd
    have HC := Lib.hid hc
    have HD := Lib.hid hd
    have SA := Lib.hid sa
    have SB := Lib.hid sb
    clear hc hd ha hb sa sb ea eb hv hm hn hn2
    go_enter Tryz.func177, Tryz.ntmps177
    go_wp2_with fail
    refine HC.out.mono ?_
    rintro e w1 ⟨rfl, hb1⟩
    clear HC
    go_wp2_with fail
    refine (HD.out _ (SA.out.below hb1) (SB.out.below hb1)).mono ?_
    rintro e w2 ⟨q, r, rfl, hq, hr, hb2⟩
    clear HD
    have HB := Lib.hid (hb1.trans (hb2.mono hb1.size))
    have HQ := Lib.hid hq
    have HR := Lib.hid hr
    clear hb1 hb2 hq hr
    go_wp2_with fail
    go_ret2
    exact ⟨_, _, rfl, HQ.out, HR.out, HB.out⟩

theorem one_word {B n : Nat} {l : List Nat} (h : l.length = 1) (e : val B l = n) : nth l 0 = n := by
  obtain ⟨x, rfl⟩ := List.length_eq_one_iff.1 h
  rw [← e]
  simp [val, nth]
theorem below_trans {a b c : World} (h : Below a.heap.size a b) (k : Below b.heap.size b c) : Below a.heap.size a c := h.trans (k.mono h.size)

set_option maxRecDepth 100000 in
set_option maxHeartbeats 1000000 in
theorem divide_less {va vb : Value} {m n : Nat} {w : World} (ha : NatV w .u64 B64 va m) (hb : NatV w .u64 B64 vb n) (h : m < n) :
    Calls Tryz.prog 138 #[va, vb] w (RetNat2 w (m / n) (m % n)) := by
  have hc := compare_at ha hb (v := -1) (cmpInt_lt (by omega))
  obtain ⟨ao, capa, la, rfl, sa, wa, na, ea⟩ := ha
  obtain ⟨bo, capb, lb, rfl, sb, wb, nb, eb⟩ := hb
  have HC := Lib.hid hc
  have HA : Hid (NatV w .u64 B64 (.slice ao la.length capa) m) := ⟨ao, capa, la, rfl, sa, wa, na, ea⟩
  have HV := Lib.hid (And.intro (Nat.div_eq_of_lt h) (Nat.mod_eq_of_lt h))
  clear hc sa sb ea eb
  go_enter Tryz.func138, Tryz.ntmps138
  go_wp2_with fail
  refine HC.out.mono ?_
  rintro e w1 ⟨rfl, hb1⟩
  clear HC
  go_wp2_with fail
  go_ret2
  exact ⟨_, _, rfl, by rw [HV.out.1]; exact natv_nil _, by rw [HV.out.2]; exact HA.out.below hb1, hb1⟩

set_option maxRecDepth 100000 in
set_option maxHeartbeats 1000000 in
theorem divide_word (ao bo : Option Addr) (capa capb : Nat) (la lb : List Nat) (v : Int) {m n : Nat} {w : World} (sa : SlA w .u64 ao capa la) (sb : SlA w .u64 bo capb lb)
    (wa : Wd B64 la) (wb : Wd B64 lb) (nb : Nz lb) (ea : val B64 la = m) (eb : val B64 lb = n) (h1 : lb.length = 1) (hv0 : 0 ≤ v)
    (hc : Calls Tryz.prog 155 #[.slice ao la.length capa, .slice bo lb.length capb] w fun e w' => e = .returned (.int .i64 v) ∧ Below w.heap.size w w') :
    Calls Tryz.prog 138 #[.slice ao la.length capa, .slice bo lb.length capb] w (RetNat2 w (m / n) (m % n)) := by
  have hK := sa.len_le
  have hx : nth lb 0 = n := one_word h1 eb
  have hx64 : n < B64 := by rw [← hx]; exact wb.nth (by omega)
  have hx0 : 0 < n := by
    have h2 := nth_of_Nz nb (by intro e; simp [e] at h1)
    rw [h1] at h2
    simp only [Nat.sub_self] at h2
    omega
  obtain ⟨gb, offb, rfl, hgb, hcb⟩ := sb.at (i := 0) (by omega)
  have hcb0 := hcb 0 (by omega)
  rw [hx] at hcb0
  have HC := Lib.hid hc
  have HX := Lib.hid (And.intro hx0 hx64)
  rw [h1] at HC ⊢
  clear hc hcb hx hx0 hx64 h1 nb sb wb
  go_enter Tryz.func138, Tryz.ntmps138
  go_wp2_with fail
  refine HC.out.mono ?_
  rintro e w1 ⟨rfl, hb1⟩
  have cb := (hb1.cell (p := ⟨gb, offb + 0, none⟩) hgb).trans hcb0
  have hmk := mk64 la.length la.length rfl hK w1
  have hr0 : isRow (w1.alloc (.cells (cellsOf .u64 (zeros la.length)) 71)) w1.heap.size 71 .u64 (zeros la.length) := isRow_alloc _ _ _ _
  have hb0 : Below w1.heap.size w1 (w1.alloc (.cells (cellsOf .u64 (zeros la.length)) 71)) := (Below.refl _ _).alloc (Nat.le_refl _) _
  generalize hW : w1.alloc (.cells (cellsOf .u64 (zeros la.length)) 71) = W at *
  clear hW
  have hcp := copy64 (off := 0) (dLen := la.length) (dCap := la.length) (cap := capa) hr0 ((sa.below hb1).below hb0) (by omega) (by rw [zeros_len]; omega) 3
  rw [zeros_fill, Nat.sub_self, show zeros 0 = [] from rfl, List.append_nil] at hcp
  have hr1 : isRow (wput W w1.heap.size .u64 la) w1.heap.size 71 .u64 la := hr0.put _
  have hb2 : Below w1.heap.size w1 (wput W w1.heap.size .u64 la) := hb0.put (Nat.le_refl _) _ _
  generalize hW1 : wput W w1.heap.size .u64 la = W1 at *
  have cb1 : W1.cell? ⟨gb, offb + 0, none⟩ = some (.int .u64 n) := (hb2.cell (p := ⟨gb, offb + 0, none⟩) (Nat.lt_of_lt_of_le hgb hb1.size)).trans cb
  simp only [Nat.add_zero] at cb1
  have hdw := divideByWord_at (cap := la.length) (pre := []) (post := []) (n := la.length) (off := 0) (x := n) (by simpa using hr1) wa HX.out.1 HX.out.2 hK rfl rfl
  have HD := Lib.hid hdw
  have HR := Lib.hid hr1
  have HB := Lib.hid (below_trans hb1 hb2)
  have hsz := hb1.size
  clear hW1 hdw hr1 hr0 hb0 hb2 hb1 cb hcb0 HC sa
  go_wp2_with fail
  refine HD.out.mono ?_
  rintro e w2 ⟨cur, k, rfl, rfl, hcl, hcw, hcv⟩
  simp only [List.nil_append, List.append_nil]
  have hr3 := (HR.out.put cur).drewN k
  have hb3 := below_drewN (HB.out.put (g := w1.heap.size) hsz .u64 cur) k
  generalize hW3 : (wput W1 w1.heap.size .u64 cur).drewN k = W3 at *
  have s3 := hr3.sl (cap := la.length) (by omega) (by omega)
  have ht := trim_det_at (n := la.length) s3 hcl
  have nq := natv_trim (n := la.length) s3 hcw hcl (hcv.trans (by rw [ea]))
  have hf := fromWord_any (val B64 la % n) (by have := HX.out.1; have := HX.out.2; have := Nat.mod_lt (val B64 la) HX.out.1; omega) W3
  rw [ea] at hf
  have HT := Lib.hid ht
  have HF := Lib.hid hf
  have HQ := Lib.hid nq
  have HB3 := Lib.hid hb3
  rw [ea]
  clear hW3 hr3 hb3 s3 ht hf nq HD HR HB hcv hcw hcl
  go_wp2_with fail
  refine HT.out.mono ?_
  rintro e w4 ⟨rfl, rfl⟩
  go_wp2_with fail
  refine HF.out.mono ?_
  rintro e w5 ⟨vr, rfl, hr, hb5⟩
  have HR := Lib.hid hr
  clear HF HT hr
  go_wp2_with fail
  go_ret2
  exact ⟨_, _, rfl, HQ.out.below hb5, HR.out, below_trans HB3.out hb5⟩

theorem scaled_div {m n s : Nat} : m * 2 ^ s / (n * 2 ^ s) = m / n ∧ m * 2 ^ s % (n * 2 ^ s) / 2 ^ s = m % n := by
  have hp : 0 < 2 ^ s := Nat.pow_pos (by decide)
  exact ⟨Nat.mul_div_mul_right _ _ hp, by rw [Nat.mul_mod_mul_right, Nat.mul_div_cancel _ hp]⟩
theorem scaled_lt {m K s : Nat} (h : m < B64 ^ K) (hs : s < 64) : m * 2 ^ s < B64 ^ (K + 1) := by
  have h1 : 2 ^ s ≤ B64 := by
    have : 2 ^ s ≤ 2 ^ 64 := Nat.pow_le_pow_right (by decide) (by omega)
    exact this
  rw [Nat.pow_succ]
  exact Nat.lt_of_lt_of_le (Nat.mul_lt_mul_of_pos_right h (Nat.pow_pos (by decide))) (Nat.mul_le_mul_left _ h1)

set_option maxRecDepth 100000 in
set_option maxHeartbeats 1000000 in
theorem divide_long (ao bo : Option Addr) (capa capb : Nat) (la lb : List Nat) (v : Int) {m n K : Nat} {w : World} (_sa : SlA w .u64 ao capa la) (sb : SlA w .u64 bo capb lb)
    (na : NatV w .u64 B64 (.slice ao la.length capa) m) (nb : NatV w .u64 B64 (.slice bo lb.length capb) n)
    (wb : Wd B64 lb) (zb : Nz lb) (eb : val B64 lb = n) (hK : K < 239) (hm : m < B64 ^ K) (hn : n < B64 ^ K) (h1 : 2 ≤ lb.length) (hv0 : 0 ≤ v)
    (hc : Calls Tryz.prog 155 #[.slice ao la.length capa, .slice bo lb.length capb] w fun e w' => e = .returned (.int .i64 v) ∧ Below w.heap.size w w') :
    Calls Tryz.prog 138 #[.slice ao la.length capa, .slice bo lb.length capb] w (RetNat2 w (m / n) (m % n)) := by
  have hlm := sb.len_le
  obtain ⟨i, hi⟩ : ∃ i, lb.length = i + 2 := ⟨lb.length - 2, by omega⟩
  obtain ⟨gb, offb, rfl, hgb, hcb⟩ := sb.at (i := i + 1) (by omega)
  have hcbi := hcb (i + 1) (by omega)
  have htop : 0 < nth lb (i + 1) := by
    have := nth_of_Nz zb (by intro e; simp [e] at h1)
    rw [hi] at this
    simp only [Nat.add_succ_sub_one] at this
    omega
  have hn2 : B64 ≤ n := by
    have := val_ge (B := B64) zb (by intro e; simp [e] at h1)
    rw [eb, hi] at this
    have h3 : B64 ^ 1 ≤ B64 ^ (i + 2 - 1) := Nat.pow_le_pow_right (by decide) (by omega)
    rw [Nat.pow_one] at h3
    omega
  obtain ⟨s, hs, hs1, hs2, hlz⟩ := lz_at htop (wb.nth (i := i + 1) (by omega))
  have hbl : ((lb.length : Int) == 1) = false := by rw [beq_eq_false_iff_ne]; omega
  have hl1 : (lb.length : Int) - 1 = ((i + 1 : Nat) : Int) := by omega
  have hil : i + 1 < lb.length := by omega
  have HC := Lib.hid hc
  have HLZ := Lib.hid hlz
  have HM := Lib.hid hm
  have HN := Lib.hid hn
  have HN2 := Lib.hid hn2
  have NA := Lib.hid na
  have NB := Lib.hid nb
  have HI := Lib.hid hi
  clear hc hcb htop hs1 hs2 hlz hm hn hn2 na nb _sa sb zb eb hi h1
  go_enter Tryz.func138, Tryz.ntmps138
  go_wp2_with fail
  refine HC.out.mono ?_
  rintro e w1 ⟨rfl, hb1⟩
  have cb := (hb1.cell (p := ⟨gb, offb + (i + 1), none⟩) hgb).trans hcbi
  clear hcbi HC
  go_wp2_with fail
  refine (HLZ.out _).mono ?_
  rintro e w2 ⟨rfl, rfl⟩
  have NA1 := Lib.hid (NA.out.below hb1)
  have NB1 := Lib.hid (NB.out.below hb1)
  have HB1 := Lib.hid hb1
  clear hb1 cb
  go_wp2_with fail
  refine (shiftLeft_any NA1.out hs (by omega) HM.out).mono ?_
  rintro e w3 ⟨va, rfl, hva, hb3⟩
  have NA3 := Lib.hid hva
  have NB3 := Lib.hid (NB1.out.below hb3)
  have HB3 := Lib.hid (below_trans HB1.out hb3)
  clear hva hb3
  go_wp2_with fail
  refine (shiftLeft_any NB3.out hs (by omega) HN.out).mono ?_
  rintro e w4 ⟨vb, rfl, hvb, hb4⟩
  have NA4 := Lib.hid (NA3.out.below hb4)
  have NB4 := Lib.hid hvb
  have HB4 := Lib.hid (below_trans HB3.out hb4)
  clear hvb hb4
  go_wp2_with fail
  refine (divideScaled_any NA4.out NB4.out (K := K + 1) (by omega) (scaled_lt HM.out hs) (scaled_lt HN.out hs) (by have := HN2.out; have := Nat.le_mul_of_pos_right n (Nat.pow_pos (n := s) (show 0 < 2 by decide)); omega)).mono ?_
  rintro e w5 ⟨q, r, rfl, hq, hr, hb5⟩
  rw [scaled_div.1] at hq
  have HQ := Lib.hid hq
  have HR := Lib.hid hr
  have HB5 := Lib.hid (below_trans HB4.out hb5)
  clear hq hr hb5
  go_wp2_with fail
  refine (shiftRight_any HR.out hs).mono ?_
  rintro e w6 ⟨r', rfl, hr, hb6⟩
  rw [scaled_div.2] at hr
  have HR6 := Lib.hid hr
  have HQ6 := Lib.hid (HQ.out.below hb6)
  have HB6 := Lib.hid (below_trans HB5.out hb6)
  clear hr hb6
  go_wp2_with fail
  go_ret2
  exact ⟨_, _, rfl, HQ6.out, HR6.out, HB6.out⟩

/-- (natural).divide, of numbers below the length from which they are split -/
theorem divide_any {va vb : Value} {m n K : Nat} {w : World} (ha : NatV w .u64 B64 va m) (hb : NatV w .u64 B64 vb n) (hK : K < 239) (hm : m < B64 ^ K) (hn : n < B64 ^ K) (hn0 : 0 < n) :
    Calls Tryz.prog 138 #[va, vb] w (RetNat2 w (m / n) (m % n)) := by
  rcases Nat.lt_or_ge m n with h | h
  · exact divide_less ha hb h
  · obtain ⟨v, hv0, hv⟩ : ∃ v : Int, 0 ≤ v ∧ cmpInt m n = v := by
      refine ⟨cmpInt m n, ?_, rfl⟩
      unfold cmpInt
      rw [if_neg (by omega)]
      split <;> decide
    have hc := compare_at ha hb hv
    obtain ⟨ao, capa, la, rfl, sa, wa, za, ea⟩ := ha
    obtain ⟨bo, capb, lb, rfl, sb, wb, zb, eb⟩ := hb
    rcases Nat.lt_or_ge lb.length 2 with h1 | h1
    · have h2 : lb.length = 1 := by
        rcases Nat.eq_zero_or_pos lb.length with h3 | h3
        · have : lb = [] := List.eq_nil_of_length_eq_zero h3
          subst this
          simp [val] at eb
          omega
        · omega
      exact divide_word ao bo capa capb la lb v sa sb wa wb zb ea eb h2 hv0 hc
    · exact divide_long ao bo capa capb la lb v sa sb ⟨ao, capa, la, rfl, sa, wa, za, ea⟩ ⟨bo, capb, lb, rfl, sb, wb, zb, eb⟩ wb zb eb hK hm hn h1 hv0 hc
end Go.Proofs.YtekghemhccfhkaaGreatDoor
namespace Go.Proofs.YtekghemhccfhkaaGreatDoor
open Go.RowKit Go.Big
set_option maxRecDepth 100000 in
set_option maxHeartbeats 1000000 in
/-- (natural).divideScaled, of numbers below the length from which they are split -/
theorem divideScaled_longer {va vb : Value} {m n K : Nat} {w : World} (ha : NatV w .u64 B64 va m) (hb : NatV w .u64 B64 vb n) (hK : K < 480) (hm : m < B64 ^ K) (hn : n < B64 ^ K) (hn2 : B64 ≤ n) :
    Calls Tryz.prog 177 #[va, vb] w (RetNat2 w (m / n) (m % n)) := by
  rcases Nat.lt_or_ge m n with h | h
  · have hc := compare_at ha hb (v := -1) (cmpInt_lt (by omega))
    obtain ⟨ao, capa, la, rfl, sa, wa, na, ea, la'⟩ := natv_len ha hm
    obtain ⟨bo, capb, lb, rfl, sb, wb, nb, eb, lb'⟩ := natv_len hb hn
    have HC := Lib.hid hc
    have HA := Lib.hid ha
    have HV := Lib.hid (And.intro (Nat.div_eq_of_lt h) (Nat.mod_eq_of_lt h))
    clear hc ha hb sa sb ea eb hm hn hn2
    go_enter Tryz.func177, Tryz.ntmps177
    go_wp2_with fail
    refine HC.out.mono ?_
    rintro e w1 ⟨rfl, hb1⟩
    clear HC
    go_wp2_with fail
    go_ret2
    exact ⟨_, _, rfl, by rw [HV.out.1]; exact natv_nil _, by rw [HV.out.2]; exact HA.out.below hb1, hb1⟩
  · obtain ⟨v, hv0, hv⟩ : ∃ v : Int, 0 ≤ v ∧ cmpInt m n = v := by
      refine ⟨cmpInt m n, ?_, rfl⟩
      unfold cmpInt
      rw [if_neg (by omega)]
      split <;> decide
    have hc := compare_at ha hb hv
    obtain ⟨ao, capa, la, rfl, sa, wa, na, ea, la'⟩ := natv_len ha hm
    obtain ⟨bo, capb, lb, rfl, sb, wb, nb, eb, lb'⟩ := natv_len hb hn
    have hlen : lb.length ≤ la.length := by
      rcases Nat.lt_or_ge la.length lb.length with h1 | h1
      · have := val_lt_of_len (B := B64) (by decide) wa nb h1; omega
      · exact h1
    have hb2 : 2 ≤ lb.length := by
      rcases Nat.lt_or_ge lb.length 2 with h1 | h1
      · have h2 := val_lt wb
        have h3 : B64 ^ lb.length ≤ B64 ^ 1 := Nat.pow_le_pow_right (by decide) (by omega)
        rw [Nat.pow_one] at h3
        omega
      · exact h1
    have hd := fun w' (h1 : SlA w' .u64 ao capa la) (h2 : SlA w' .u64 bo capb lb) => divideByDigits_core ao bo capa capb la lb w' h1 h2 wa wb nb hb2 hlen (by omega)
    rw [ea, eb] at hd
    rcases Nat.lt_or_ge la.length (lb.length + 240) with hq240 | hq240
    · have HC := Lib.hid hc
      have HD := Lib.hid hd
      have SA := Lib.hid sa
      have SB := Lib.hid sb
      clear hc hd ha hb sa sb ea eb hv hm hn hn2
      go_enter Tryz.func177, Tryz.ntmps177
      go_wp2_with fail
      refine HC.out.mono ?_
      rintro e w1 ⟨rfl, hb1⟩
      clear HC
      go_wp2_with fail
      refine (HD.out _ (SA.out.below hb1) (SB.out.below hb1)).mono ?_
      rintro e w2 ⟨q, r, rfl, hq, hr, hb2⟩
      clear HD
      have HB := Lib.hid (hb1.trans (hb2.mono hb1.size))
      have HQ := Lib.hid hq
      have HR := Lib.hid hr
      clear hb1 hb2 hq hr
      go_wp2_with fail
      go_ret2
      exact ⟨_, _, rfl, HQ.out, HR.out, HB.out⟩
    · have hn240 : ¬ (la.length : Int) - (lb.length : Int) < 240 := by omega
      have hl240 : (lb.length : Int) < 240 := by omega
      clear hq240
      have HC := Lib.hid hc
      have HD := Lib.hid hd
      have SA := Lib.hid sa
      have SB := Lib.hid sb
      clear hc hd ha hb sa sb ea eb hv hm hn hn2
      go_enter Tryz.func177, Tryz.ntmps177
      go_wp2_with fail
      refine HC.out.mono ?_
      rintro e w1 ⟨rfl, hb1⟩
      clear HC
      go_wp2_with fail
      refine (HD.out _ (SA.out.below hb1) (SB.out.below hb1)).mono ?_
      rintro e w2 ⟨q, r, rfl, hq, hr, hb2⟩
      clear HD
      have HB := Lib.hid (hb1.trans (hb2.mono hb1.size))
      have HQ := Lib.hid hq
      have HR := Lib.hid hr
      clear hb1 hb2 hq hr
      go_wp2_with fail
      go_ret2
      exact ⟨_, _, rfl, HQ.out, HR.out, HB.out⟩
set_option maxRecDepth 100000 in
set_option maxHeartbeats 1000000 in
theorem divide_longer (ao bo : Option Addr) (capa capb : Nat) (la lb : List Nat) (v : Int) {m n K : Nat} {w : World} (_sa : SlA w .u64 ao capa la) (sb : SlA w .u64 bo capb lb)
    (na : NatV w .u64 B64 (.slice ao la.length capa) m) (nb : NatV w .u64 B64 (.slice bo lb.length capb) n)
    (wb : Wd B64 lb) (zb : Nz lb) (eb : val B64 lb = n) (hK : K < 479) (hm : m < B64 ^ K) (hn : n < B64 ^ K) (h1 : 2 ≤ lb.length) (hv0 : 0 ≤ v)
    (hc : Calls Tryz.prog 155 #[.slice ao la.length capa, .slice bo lb.length capb] w fun e w' => e = .returned (.int .i64 v) ∧ Below w.heap.size w w') :
    Calls Tryz.prog 138 #[.slice ao la.length capa, .slice bo lb.length capb] w (RetNat2 w (m / n) (m % n)) := by
  have hlm := sb.len_le
  obtain ⟨i, hi⟩ : ∃ i, lb.length = i + 2 := ⟨lb.length - 2, by omega⟩
  obtain ⟨gb, offb, rfl, hgb, hcb⟩ := sb.at (i := i + 1) (by omega)
  have hcbi := hcb (i + 1) (by omega)
  have htop : 0 < nth lb (i + 1) := by
    have := nth_of_Nz zb (by intro e; simp [e] at h1)
    rw [hi] at this
    simp only [Nat.add_succ_sub_one] at this
    omega
  have hn2 : B64 ≤ n := by
    have := val_ge (B := B64) zb (by intro e; simp [e] at h1)
    rw [eb, hi] at this
    have h3 : B64 ^ 1 ≤ B64 ^ (i + 2 - 1) := Nat.pow_le_pow_right (by decide) (by omega)
    rw [Nat.pow_one] at h3
    omega
  obtain ⟨s, hs, hs1, hs2, hlz⟩ := lz_at htop (wb.nth (i := i + 1) (by omega))
  have hbl : ((lb.length : Int) == 1) = false := by rw [beq_eq_false_iff_ne]; omega
  have hl1 : (lb.length : Int) - 1 = ((i + 1 : Nat) : Int) := by omega
  have hil : i + 1 < lb.length := by omega
  have HC := Lib.hid hc
  have HLZ := Lib.hid hlz
  have HM := Lib.hid hm
  have HN := Lib.hid hn
  have HN2 := Lib.hid hn2
  have NA := Lib.hid na
  have NB := Lib.hid nb
  have HI := Lib.hid hi
  clear hc hcb htop hs1 hs2 hlz hm hn hn2 na nb _sa sb zb eb hi h1
  go_enter Tryz.func138, Tryz.ntmps138
  go_wp2_with fail
  refine HC.out.mono ?_
  rintro e w1 ⟨rfl, hb1⟩
  have cb := (hb1.cell (p := ⟨gb, offb + (i + 1), none⟩) hgb).trans hcbi
  clear hcbi HC
  go_wp2_with fail
  refine (HLZ.out _).mono ?_
  rintro e w2 ⟨rfl, rfl⟩
  have NA1 := Lib.hid (NA.out.below hb1)
  have NB1 := Lib.hid (NB.out.below hb1)
  have HB1 := Lib.hid hb1
  clear hb1 cb
  go_wp2_with fail
  refine (shiftLeft_any NA1.out hs (by omega) HM.out).mono ?_
  rintro e w3 ⟨va, rfl, hva, hb3⟩
  have NA3 := Lib.hid hva
  have NB3 := Lib.hid (NB1.out.below hb3)
  have HB3 := Lib.hid (below_trans HB1.out hb3)
  clear hva hb3
  go_wp2_with fail
  refine (shiftLeft_any NB3.out hs (by omega) HN.out).mono ?_
  rintro e w4 ⟨vb, rfl, hvb, hb4⟩
  have NA4 := Lib.hid (NA3.out.below hb4)
  have NB4 := Lib.hid hvb
  have HB4 := Lib.hid (below_trans HB3.out hb4)
  clear hvb hb4
  go_wp2_with fail
  refine (divideScaled_longer NA4.out NB4.out (K := K + 1) (by omega) (scaled_lt HM.out hs) (scaled_lt HN.out hs) (by have := HN2.out; have := Nat.le_mul_of_pos_right n (Nat.pow_pos (n := s) (show 0 < 2 by decide)); omega)).mono ?_
  rintro e w5 ⟨q, r, rfl, hq, hr, hb5⟩
  rw [scaled_div.1] at hq
  have HQ := Lib.hid hq
  have HR := Lib.hid hr
  have HB5 := Lib.hid (below_trans HB4.out hb5)
  clear hq hr hb5
  go_wp2_with fail
  refine (shiftRight_any HR.out hs).mono ?_
  rintro e w6 ⟨r', rfl, hr, hb6⟩
  rw [scaled_div.2] at hr
  have HR6 := Lib.hid hr
  have HQ6 := Lib.hid (HQ.out.below hb6)
  have HB6 := Lib.hid (below_trans HB5.out hb6)
  clear hr hb6
  go_wp2_with fail
  go_ret2
  exact ⟨_, _, rfl, HQ6.out, HR6.out, HB6.out⟩

/-- (natural).divide, of numbers below the length from which they are split -/
theorem divide_any2 {va vb : Value} {m n K : Nat} {w : World} (ha : NatV w .u64 B64 va m) (hb : NatV w .u64 B64 vb n) (hK : K < 479) (hm : m < B64 ^ K) (hn : n < B64 ^ K) (hn0 : 0 < n) :
    Calls Tryz.prog 138 #[va, vb] w (RetNat2 w (m / n) (m % n)) := by
  rcases Nat.lt_or_ge m n with h | h
  · exact divide_less ha hb h
  · obtain ⟨v, hv0, hv⟩ : ∃ v : Int, 0 ≤ v ∧ cmpInt m n = v := by
      refine ⟨cmpInt m n, ?_, rfl⟩
      unfold cmpInt
      rw [if_neg (by omega)]
      split <;> decide
    have hc := compare_at ha hb hv
    obtain ⟨ao, capa, la, rfl, sa, wa, za, ea⟩ := ha
    obtain ⟨bo, capb, lb, rfl, sb, wb, zb, eb⟩ := hb
    rcases Nat.lt_or_ge lb.length 2 with h1 | h1
    · have h2 : lb.length = 1 := by
        rcases Nat.eq_zero_or_pos lb.length with h3 | h3
        · have : lb = [] := List.eq_nil_of_length_eq_zero h3
          subst this
          simp [val] at eb
          omega
        · omega
      exact divide_word ao bo capa capb la lb v sa sb wa wb zb ea eb h2 hv0 hc
    · exact divide_longer ao bo capa capb la lb v sa sb ⟨ao, capa, la, rfl, sa, wa, za, ea⟩ ⟨bo, capb, lb, rfl, sb, wb, zb, eb⟩ wb zb eb hK hm hn h1 hv0 hc
end Go.Proofs.YtekghemhccfhkaaGreatDoor
