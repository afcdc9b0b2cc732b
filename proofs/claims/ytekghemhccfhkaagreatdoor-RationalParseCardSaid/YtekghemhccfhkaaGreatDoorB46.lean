/-
  Walks of the program's functions: NDiv2, NDiv.
-/
import Derived.Test.YtekghemhccfhkaaGreatDoorB45
import Derived.BigRegion
namespace Go.Proofs.YtekghemhccfhkaaGreatDoor
open Go.RowKit Go.Big
/-- What holds behind the digits from k on: the rest in block gu, the quotient in block gq. -/
def NdRel (w2 : World) (N na : Nat) (lv : List Nat) (gu gq : Nat) (x : Value) (wr : World) : Prop :=
  ∃ (k : Nat) (R Q : List Nat), x = .int .i64 ((k : Int) - 1) ∧ k ≤ na - lv.length + 1 ∧ DdInv B32 (asList N na) lv k R Q ∧ isRow wr gu 73 .u32 R ∧ isRow wr gq 73 .u32 Q ∧ Below w2.heap.size w2 wr
set_option maxRecDepth 100000 in
set_option maxHeartbeats 4000000 in
theorem divMag_long (ao bo : Option Addr) (capa capb : Nat) (la lb : List Nat) {m n i : Nat} {w : World} (sa : SlA w .u32 ao capa la) (sb : SlA w .u32 bo capb lb) (wa : Wd B32 la) (wb : Wd B32 lb) (na : Nz la) (nb : Nz lb)
    (ea : val B32 la = m) (eb : val B32 lb = n) (hi : lb.length = i + 2) (hl : lb.length ≤ la.length) (hle : n ≤ m) (hK : la.length < 1000000000000) :
    Calls Tryz.prog 129 #[.slice ao la.length capa, .slice bo lb.length capb] w (RetMag2 w (m / n) (m % n)) := by
  have hc := cmpMag_any (⟨ao, capa, la, rfl, sa, wa, na, ea⟩ : NatV w .u32 B32 _ m) (⟨bo, capb, lb, rfl, sb, wb, nb, eb⟩ : NatV w .u32 B32 _ n)
  unfold RetCmp at hc
  have hcc : ¬ cmpInt (m : Int) (n : Int) < 0 := by unfold cmpInt; split <;> (try split) <;> omega
  obtain ⟨c, hcd⟩ : ∃ c, cmpInt (m : Int) (n : Int) = c := ⟨_, rfl⟩
  rw [hcd] at hc hcc
  have hcf : decide (c < 0) = false := decide_eq_false hcc
  obtain ⟨x, hx⟩ : ∃ x, nth lb (i + 1) = x := ⟨_, rfl⟩
  have hx0 : x ≠ 0 := by
    have := nth_of_Nz nb (by intro e; rw [e] at hi; simp at hi)
    rw [← hx]; rwa [show i + 1 = lb.length - 1 by omega]
  have hx1 : x < 4294967296 := by rw [← hx]; exact wb.nth (by omega)
  have hbl : ((lb.length : Int) == 1) = false := by rw [beq_eq_false_iff_ne]; omega
  have HC := Lib.hid hc
  have HN := Lib.hid (And.intro (And.intro na ea) (And.intro (And.intro nb eb) hle))
  have HX := Lib.hid hx
  have HI := Lib.hid hi
  have h2 : 2 ≤ lb.length := by omega
  clear hc hcd hcc na nb ea eb hi
  go_enter Tryz.func129, Tryz.ntmps129
  go_wp2_with fail
  refine HC.out.mono ?_
  rintro e w1 ⟨rfl, hb1⟩
  have sa1 := sa.below hb1
  obtain ⟨gb, offb, rfl, hgb, hcb⟩ := sb.at (i := i + 1) (by have := HI.out; omega)
  have cb := (hb1.cell (p := ⟨gb, offb + (i + 1), none⟩) hgb).trans (hcb (i + 1) (by have := HI.out; omega))
  rw [hx] at cb
  have sb1 := sb.below hb1
  have SA := Lib.hid sa1
  have SB := Lib.hid sb1
  have HB1 := Lib.hid hb1
  clear HC sa sb sa1 sb1 hcb hx
  have e1 : (lb.length : Int) - 1 = ((i + 1 : Nat) : Int) := by have := HI.out; omega
  go_wp2_with fail
  go_loopw [8] (fun y wr => w1 = wr ∧ ∃ s : Nat, y = .int .u64 s ∧ s ≤ 31 ∧ x * 2 ^ s < 4294967296) (fun y _ => 32 - (intOf y).toNat)
  case atStart => exact ⟨rfl, 0, rfl, by omega, by omega⟩
  case round =>
    obtain ⟨rfl, s, rfl, hs, hxs⟩ := hrel
    have es := shl32_nat hs hxs
    obtain ⟨y, hy⟩ : ∃ y, x * 2 ^ s = y := ⟨_, rfl⟩
    rw [hy] at es
    by_cases h31 : x * 2 ^ s < 2147483648
    · have hs1 : s + 1 ≤ 31 := by
        rcases Nat.lt_or_ge s 31 with h | h
        · omega
        · have : s = 31 := by omega
          subst this
          have : 1 * 2 ^ 31 ≤ x * 2 ^ 31 := Nat.mul_le_mul_right _ (by omega)
          omega
      have hxs2 : x * 2 ^ (s + 1) < 4294967296 := by rw [Nat.pow_succ, ← Nat.mul_assoc]; omega
      have hz : decide (((shl32 x s : Nat) : Int) < 2147483648) = true := decide_eq_true (by rw [es]; omega)
      have H2 := Lib.hid hxs2
      have ea := addW_lt' (x := s) (y := 1) (by omega)
      have HEA := Lib.hid ea
      clear es hxs h31 hxs2 hy ea
      go_wp2_with fail
      go_roundw
      case rel => exact ⟨by first | rfl | trivial, s + 1, by rw [HEA.out], hs1, H2.out⟩
      case measure => rw [HEA.out]; simp [intOf]; omega
    · have hz : decide (((shl32 x s : Nat) : Int) < 2147483648) = false := decide_eq_false (by rw [es]; omega)
      have H2 := Lib.hid (And.intro hxs (Nat.le_of_not_lt h31))
      clear es hxs h31 hy
      have HE1 := Lib.hid e1
      have HSH := Lib.hid (nshl_core (some ⟨gb, offb, none⟩) capb lb s w1 SB.out wb (by omega) (by omega))
      go_wp2_with fail
      clear e1 cb
      refine HSH.out.mono ?_
      rintro e w2o ⟨cv, rfl, hrv, hcl, hcw, hcv, hb2⟩
      have hsv := hrv.sl (cap := lb.length + 1) (by omega) (by omega)
      have htr := ntrim_at hsv hcl
      have HTR := Lib.hid htr
      have HV := Lib.hid (And.intro hsv (And.intro hcw hcv))
      have HB2 := Lib.hid hb2
      clear HSH htr hsv hcl hcw hcv hrv hb2
      go_wp2_with fail
      refine HTR.out.mono ?_
      rintro e w2 ⟨nv, hnv, rfl, rfl, hz1, hvv⟩
      obtain ⟨lv, hlv⟩ : ∃ lv, cv.take nv = lv := ⟨_, rfl⟩
      have hlvl : lv.length = nv := by rw [← hlv, List.length_take, Nat.min_eq_left hnv]
      have svv : SlA w2 .u32 (some ⟨w1.heap.size, 0, none⟩) (lb.length + 1) lv := by rw [← hlv]; exact HV.out.1.take nv
      have hvl : val B32 lv = 2 ^ s * val B32 lb := by rw [← hlv, hvv, HV.out.2.2]
      have hwl : Wd B32 lv := by rw [← hlv]; exact HV.out.2.1.take nv
      rw [hlv] at hz1
      obtain ⟨hl1, htop⟩ := shifted HI.out wb HX.out H2.out.1 H2.out.2 hz1 hwl hvl
      rw [show i + 1 + 1 = lb.length from HI.out.symm] at hl1
      rw [hl1] at hlvl
      subst hlvl
      have HLV := Lib.hid (And.intro hl1 (And.intro hwl (And.intro hvl htop)))
      have HSV := Lib.hid svv
      have HSH := Lib.hid (nshl_core ao capa la s w2 (SA.out.below HB2.out) wa (by omega) (by omega))
      clear HTR HV hnv hz hz1 hvv hlv hvl hwl hl1 htop svv
      go_wp2_with fail
      refine HSH.out.mono ?_
      rintro e w3 ⟨U, rfl, hru, hul, huw, huv, hb3⟩
      have HU := Lib.hid (And.intro hru (And.intro hul (And.intro huw huv)))
      have HB3 := Lib.hid hb3
      clear HSH hru hul huw huv hb3
      obtain ⟨mq, hq⟩ : ∃ mq, la.length - lb.length + 1 = mq := ⟨_, rfl⟩
      have eq1 : (la.length : Int) + 1 - (lb.length : Int) = (mq : Int) := by omega
      have eq2 : (mq : Int) - 1 + 1 = (mq : Int) := by omega
      have hmk := mk32 (mq : Int) mq rfl (by omega) w3
      obtain ⟨W3, hW3⟩ : ∃ W3, w3.alloc (.cells (cellsOf .u32 (zeros mq)) 73) = W3 := ⟨_, rfl⟩
      have hrq : isRow W3 w3.heap.size 73 .u32 (zeros mq) := by rw [← hW3]; exact isRow_alloc w3 73 .u32 (zeros mq)
      have hbq : Below w3.heap.size w3 W3 := by rw [← hW3]; exact (Below.refl _ _).alloc (Nat.le_refl _) _
      rw [hW3] at hmk
      have hgu := HU.out.1.lt
      have hst : NdRel w2 (2 ^ s * val B32 la) la.length lv w2.heap.size w3.heap.size (.int .i64 ((mq : Int) - 1)) W3 := by
        refine ⟨mq, U, _, rfl, by rw [HLV.out.1]; omega, ?_, HU.out.1.below hbq, hrq, HB3.out.trans (hbq.mono HB3.out.size)⟩
        rw [← hq, ← HLV.out.1]
        refine DdInv.start' (by decide) HU.out.2.1 HU.out.2.2.1 HU.out.2.2.2 (by rw [HLV.out.1]; omega) (by rw [HLV.out.1]; exact hl) ?_
        rw [HLV.out.2.2.1, HLV.out.1, Nat.mul_assoc]
        refine Nat.mul_lt_mul_of_pos_left ?_ (Nat.pow_pos (by decide))
        have h4 := val_ge (B := B32) HN.out.2.1.1 (by intro e; rw [e] at h2; simp at h2)
        have h5 := val_lt wa
        have h6 : B32 ^ la.length = B32 ^ (lb.length - 1) * B32 ^ (la.length - lb.length + 1) := by rw [← Nat.pow_add]; congr 1; omega
        rw [h6] at h5
        exact Nat.lt_of_lt_of_le h5 (Nat.mul_le_mul_right _ h4)
      have HST := Lib.hid hst
      have HQ := Lib.hid hq
      have HBQ := Lib.hid hbq
      obtain ⟨gu, hgud⟩ : ∃ gu, w2.heap.size = gu := ⟨_, rfl⟩
      obtain ⟨gq, hgqd⟩ : ∃ gq, w3.heap.size = gq := ⟨_, rfl⟩
      rw [hgud, hgqd] at hgu
      rw [hgqd] at hmk
      have HST : Hid (NdRel w2 (2 ^ s * val B32 la) la.length lv gu gq (.int .i64 ((mq : Int) - 1)) W3) := by rw [← hgud, ← hgqd]; exact HST
      have HGD := Lib.hid (And.intro hgud hgqd)
      clear hst hq hW3 hrq hbq
      go_wp2_with fail
      go_loopw [14] (fun y wr => NdRel w2 (2 ^ s * val B32 la) la.length lv gu gq y wr) (fun y _ => (intOf y + 1).toNat)
      case atStart => exact HST.out
      case round => as_aux_lemma =>
        clear HST hmk
        obtain ⟨k, R, Q, rfl, hk, hinv, hr1, hr2, hbel⟩ := hrel
        rcases Nat.eq_zero_or_pos k with hk0 | hpos
        · as_aux_lemma =>
          subst hk0
          have hd := hinv.done (by rw [asList_len (by omega), HLV.out.1]; exact hl)
          rw [asList_val, HLV.out.2.2.1, HN.out.1.2, HN.out.2.1.2] at hd
          have hps : 0 < 2 ^ s := Nat.pow_pos (by decide)
          rw [Nat.mul_div_mul_left _ _ hps, Nat.mul_mod_mul_left, HLV.out.1] at hd
          have hrl := hinv.rlen
          have hql := hinv.qlen
          rw [asList_len (by omega)] at hrl hql
          rw [HLV.out.1] at hql
          have hs1 : ∀ w', (Instr.slice 28 (.slice (some ⟨gu, 0, none⟩) (la.length + 1) (la.length + 1)) none (some (.int .i64 (lb.length : Int))) none).run Tryz.prog w' = .ok (.slice (some ⟨gu, 0, none⟩) lb.length (la.length + 1)) w' := fun w' =>
            run_slice_to 28 73 Tryz.underlying28 (by kernel_rfl) _ _ _ _ (by omega) w'
          have s1 := (hr1.sl (cap := la.length + 1) (by omega) (by omega)).take lb.length
          have H1 := Lib.hid (ntrim_at (n := lb.length) s1 (by rw [List.length_take]; omega))
          have HD := Lib.hid hd
          have HRL := Lib.hid (And.intro hrl hql)
          have HW1 := Lib.hid (And.intro hinv.rwd hinv.qwd)
          have HR1 := Lib.hid hr1
          have HR2 := Lib.hid hr2
          have HBL := Lib.hid hbel
          clear hd hrl hql s1 hinv hr1 hr2 hbel hk
          go_wp2_with fail
          refine H1.out.mono ?_
          rintro e w5 ⟨nr, hnr, rfl, rfl, hz5, hv5⟩
          clear H1
          have hnr2 : nr ≤ lb.length := by rw [List.length_take] at hnr; omega
          have eM : (R.take lb.length).take nr = R.take nr := by rw [List.take_take, Nat.min_eq_left hnr2]
          have hvM : val B32 (R.take nr) = 2 ^ s * (m % n) := by rw [← eM, hv5, HD.out.2]
          obtain ⟨M, hM⟩ : ∃ M, R.take nr = M := ⟨_, rfl⟩
          obtain ⟨tail, htail⟩ : ∃ l, R.drop nr = l := ⟨_, rfl⟩
          have hparts : R = [] ++ (M ++ tail) := by rw [← hM, ← htail, List.nil_append, List.take_append_drop]
          have hML : M.length = nr := by rw [← hM, List.length_take]; have := HRL.out.1; omega
          have hMw : Wd B32 M := by rw [← hM]; exact HW1.out.1.take nr
          rw [hM] at hvM
          have HM := Lib.hid (And.intro hML (And.intro hMw hvM))
          have HR1' : Hid (isRow w5 gu 73 .u32 ([] ++ (M ++ tail))) := by rw [← hparts]; exact HR1
          have hs32 : s + (32 - s) = 32 := by omega
          obtain ⟨t, ht⟩ : ∃ t, 32 - s = t := ⟨_, rfl⟩
          rw [ht] at hs32
          have es32 : subW 32 s = t := by rw [subW_le (by omega) (by decide), ht]
          clear hz5 hv5 eM hvM hparts hML hMw HR1 hnr hM htail
          go_wp2_with fail
          go_loopw [26] (fun y wx => ∃ (k : Nat) (cur : List Nat), k ≤ nr ∧ y = .int .i64 k ∧ NShr M s k cur ∧ (∀ t, k ≤ t → nth cur t = nth M t) ∧ isRow wx gu 73 .u32 ([] ++ (cur ++ tail)) ∧ isRow wx gq 73 .u32 Q ∧ Below w2.heap.size w2 wx) (fun y _ => nr - (intOf y).toNat)
          case atStart => exact ⟨0, M, Nat.zero_le _, rfl, NShr.start s rfl HM.out.2.1, fun _ _ => rfl, HR1'.out, HR2.out, HBL.out⟩
          case round => as_aux_lemma =>
            clear HR1' HR2 HBL
            obtain ⟨k, cur, hk, rfl, hinv, hsame, hr1, hr2, hbel⟩ := hrel
            have hcl : cur.length = nr := hinv.len.trans HM.out.1
            by_cases hlt : k < nr
            · have cu := cell_mid (k := k) (o := k) (j := 0) hr1 rfl (by omega) (by omega)
              have fu := hr1.frozen k
              have hx5 := hsame k (Nat.le_refl _)
              have hx6 := hsame (k + 1) (by omega)
              rw [hx5] at cu
              obtain ⟨xk, hxk⟩ : ∃ x, nth M k = x := ⟨_, rfl⟩
              rw [hxk] at cu
              have xkb : xk < 4294967296 := by rw [← hxk]; exact HM.out.2.1.nth (by rw [HM.out.1]; exact hlt)
              have esh : shr32 xk s = xk / 2 ^ s := by unfold shr32; rw [Nat.min_eq_left (by omega)]
              have hstep := hinv.step hs32 HM.out.2.1 (by rw [HM.out.1]; exact hlt)
              rw [hxk] at hstep
              have hrA := row_mid (x := xk / 2 ^ s) hr1 (j := 0) rfl (k := k) (o := k) (by omega) (by omega)
              have hrB : isRow (wr.setCell ⟨gu, k, none⟩ (.int .u32 ((xk / 2 ^ s : Nat) : Int))) gq 73 .u32 Q := hr2.otherCell (by show gq ≠ gu; omega) _
              have hbA : Below w2.heap.size w2 (wr.setCell ⟨gu, k, none⟩ (.int .u32 ((xk / 2 ^ s : Nat) : Int))) := hbel.setCell (by show w2.heap.size ≤ gu; have := HGD.out.1; omega) _
              obtain ⟨z, hz⟩ : ∃ z, xk / 2 ^ s = z := ⟨_, rfl⟩
              rw [hz] at esh hrA hrB hbA
              obtain ⟨W7, hW7⟩ : ∃ W7, wr.setCell ⟨gu, k, none⟩ (.int .u32 (z : Int)) = W7 := ⟨_, rfl⟩
              rw [hW7] at hrA hrB hbA
              have cuA := cell_mid (k := k) (o := k) (j := 0) hrA rfl (by rw [List.length_set]; omega) (by omega)
              rw [nth_set_self (by omega)] at cuA
              have fuA := hrA.frozen k
              by_cases hlt2 : k + 1 < nr
              · have cuB := cell_mid (k := k + 1) (o := k + 1) (j := 0) hrA rfl (by rw [List.length_set]; omega) (by omega)
                rw [nth_set_ne (by omega), hx6] at cuB
                obtain ⟨yk, hyk⟩ : ∃ x, nth M (k + 1) = x := ⟨_, rfl⟩
                rw [hyk] at cuB hstep
                have ykb : yk < 4294967296 := by rw [← hyk]; exact HM.out.2.1.nth (by rw [HM.out.1]; exact hlt2)
                have e2t : ((2 : Int) ^ t) = ((2 ^ t : Nat) : Int) := by simp
                have hb64 : yk * 2 ^ t < 18446744073709551616 := by
                  have h1 : 2 ^ t ≤ 2 ^ 32 := Nat.pow_le_pow_right (by decide) (by omega)
                  exact Nat.lt_of_le_of_lt (Nat.mul_le_mul (Nat.le_of_lt_succ ykb) h1) (by decide)
                have ewr : IntKind.u64.wrap ((yk : Int) * 2 ^ t) = ((yk * 2 ^ t : Nat) : Int) := wrapN hb64 (by rw [e2t, Int.natCast_mul])
                have eor : or32 z (yk * 2 ^ t % 4294967296) = shrD s t xk yk := by
                  unfold or32
                  have hz2 : z < 4294967296 := by rw [← hz]; exact Nat.lt_of_le_of_lt (Nat.div_le_self _ _) xkb
                  rw [Nat.mod_mod, Nat.mod_eq_of_lt hz2, ← hz]
                  exact shr_or hs32 xkb
                have eor2 : bits BinOp.or IntKind.u32 (z : Int) (IntKind.u64.wrap ((yk : Int) * 2 ^ t) % 4294967296) = ((shrD s t xk yk : Nat) : Int) := by
                  rw [ewr, show (((yk * 2 ^ t : Nat) : Int) % 4294967296) = ((yk * 2 ^ t % 4294967296 : Nat) : Int) from rfl, bits_or32, eor]
                have hrC := row_mid (x := shrD s t xk yk) hrA (j := 0) rfl (k := k) (o := k) (by rw [List.length_set]; omega) (by omega)
                rw [List.set_set] at hrC
                have HRC := Lib.hid hrC
                have hsm : ∀ t', k + 1 ≤ t' → nth (cur.set k (shrD s t xk yk)) t' = nth M t' := fun t' h' => by rw [nth_set_ne (by omega)]; exact hsame t' (by omega)
                have HSM := Lib.hid hsm
                have hi1 : (k : Int) + 1 < (nr : Int) := by omega
                have hi0 : (k : Int) < (nr : Int) := by omega
                have HS := Lib.hid hstep
                have HRB := Lib.hid hrB
                have HBA := Lib.hid hbA
                clear hstep hrA hrB hbA eor hr1 hr2 hbel hsame hinv hx5 hx6 hxk hyk hz hcl ewr hb64 e2t hrC hsm
                go_wp2_with fail
                go_region
                go_wp2_with fail
                go_roundw
                case rel => exact ⟨k + 1, _, by omega, by first | rfl | go_num, HS.out, HSM.out, HRC.out, HRB.out.otherCell (by show gq ≠ gu; omega) _, (HBA.out.setCell (by show w2.heap.size ≤ gu; have := HGD.out.1; omega) _).drew⟩
                case measure => simp [intOf]; omega
              · have hx7 : nth M (k + 1) = 0 := nth_ge (by rw [HM.out.1]; omega)
                have esd : shrD s t xk (nth M (k + 1)) = z := by rw [hx7, shrD, Nat.zero_mod, Nat.zero_mul, Nat.add_zero, hz]
                rw [esd] at hstep
                have hsm : ∀ t', k + 1 ≤ t' → nth (cur.set k z) t' = nth M t' := fun t' h' => by rw [nth_set_ne (by omega)]; exact hsame t' (by omega)
                have HSM := Lib.hid hsm
                have HS := Lib.hid hstep
                have HRA := Lib.hid hrA
                have HRB := Lib.hid hrB
                have HBA := Lib.hid hbA
                have hi1 : decide ((k : Int) + 1 < (nr : Int)) = false := decide_eq_false (by omega)
                have hi0 : (k : Int) < (nr : Int) := by omega
                clear hstep hrA hrB hbA hr1 hr2 hbel hsame hinv hx5 hx6 hxk hz hcl hsm esd hx7
                go_wp2_with fail
                go_roundw
                case rel => exact ⟨k + 1, _, by omega, by first | rfl | go_num, HS.out, HSM.out, HRA.out, HRB.out, HBA.out⟩
                case measure => simp [intOf]; omega
            · have hkn : k = nr := by omega
              subst hkn
              have hinv' : NShr M s M.length cur := by rw [HM.out.1]; exact hinv
              have hv := hinv'.done
              rw [HM.out.2.2, Nat.mul_div_cancel_left _ hps] at hv
              have hw5 := hinv.wd
              have sc := (hr1.seg (pre := []) (seg := cur) (post := tail) (cap := la.length + 1) (by omega) (by omega))
              have sq := hr2.sl (cap := mq) (by have := HRL.out.2; have := HQ.out; omega) (by have := HRL.out.2; have := HQ.out; omega)
              have HT1 := Lib.hid (ntrim_at (n := mq) sq (by have := HRL.out.2; have := HQ.out; omega))
              have HT2 := Lib.hid (ntrim_at (n := k) sc hcl)
              have HV := Lib.hid (And.intro hv (And.intro hw5 (And.intro sc sq)))
              have HBL := Lib.hid hbel
              clear hinv hinv' hv hw5 sc sq hr1 hr2 hbel hcl hsame
              go_wp2_with fail
              refine HT1.out.mono ?_
              intro e w8 ht8
              have hret := ntrim_ret (n := m / n) HV.out.2.2.2 HW1.out.2 HD.out.1 (Below.refl wr.heap.size wr) ht8
              obtain ⟨n8, _, _, hw8, _⟩ := ht8
              subst hw8
              obtain ⟨vq, rfl, hvq, _⟩ := hret
              have HVQ := Lib.hid hvq
              clear HT1 hvq
              go_wp2_with fail
              refine HT2.out.mono ?_
              intro e w9 ht9
              have hret := ntrim_ret (n := m % n) HV.out.2.2.1 HV.out.2.1 HV.out.1 (Below.refl w8.heap.size w8) ht9
              obtain ⟨n9, _, _, hw9, _⟩ := ht9
              subst hw9
              obtain ⟨vr, rfl, hvr, _⟩ := hret
              clear HT2
              go_wp2_with fail
              exact bodyPost_ret (v := .tuple #[vq, vr]) (by simp [results, Tryz.results129, go_sem]) rfl ⟨vq, vr, rfl, HVQ.out, hvr, below_trans HB1.out (below_trans HB2.out HBL.out)⟩
        · obtain ⟨j, rfl⟩ : ∃ j, k = j + 1 := ⟨k - 1, by omega⟩
          rw [HLV.out.1] at hk
          have hal : (asList (2 ^ s * val B32 la) la.length).length = la.length := asList_len (by omega)
          obtain ⟨wl, ww, wv, wlt⟩ := hinv.window (by rw [hal, HLV.out.1]; omega) (by rw [hal, HLV.out.1]; exact hl)
          have hrl := hinv.rlen
          have hql := hinv.qlen
          rw [hal] at hrl hql
          rw [HLV.out.1] at wl hql
          obtain ⟨t2, ht2⟩ : ∃ t, j + i + 2 = t := ⟨_, rfl⟩
          obtain ⟨t1, ht1⟩ : ∃ t, j + i + 1 = t := ⟨_, rfl⟩
          obtain ⟨t0, ht0⟩ : ∃ t, j + i = t := ⟨_, rfl⟩
          obtain ⟨p1, hp1⟩ : ∃ t, i + 1 = t := ⟨_, rfl⟩
          have hii := HI.out
          have q0 : (j : Int) + (lb.length : Int) = (t2 : Int) := by omega
          have q1 : (t2 : Int) - 1 = (t1 : Int) := by omega
          have q2 : (t2 : Int) - 2 = (t0 : Int) := by omega
          have q3 : (lb.length : Int) - 1 = (p1 : Int) := by omega
          have q4 : (lb.length : Int) - 2 = (i : Int) := by omega
          have b2 : t2 < la.length + 1 := by omega
          have b1 : t1 < la.length + 1 := by omega
          have b0 : t0 < la.length + 1 := by omega
          have bp1 : p1 < lb.length := by omega
          have bp0 : i < lb.length := by omega
          obtain ⟨x2, hx2⟩ : ∃ x, nth R t2 = x := ⟨_, rfl⟩
          obtain ⟨x1, hx1'⟩ : ∃ x, nth R t1 = x := ⟨_, rfl⟩
          obtain ⟨x0, hx0'⟩ : ∃ x, nth R t0 = x := ⟨_, rfl⟩
          obtain ⟨v1, hv1⟩ : ∃ x, nth lv p1 = x := ⟨_, rfl⟩
          obtain ⟨v0, hv0⟩ : ∃ x, nth lv i = x := ⟨_, rfl⟩
          have cu2 := hr1.cell (i := t2) (by omega)
          have cu1 := hr1.cell (i := t1) (by omega)
          have cu0 := hr1.cell (i := t0) (by omega)
          obtain ⟨gv', ov', ev, hgv, hcv⟩ := (HSV.out.below hbel).at (i := i) (by rw [HLV.out.1]; omega)
          simp only [Option.some.injEq, Addr.mk.injEq] at ev
          obtain ⟨rfl, rfl, _⟩ := ev
          have cv1 := hcv p1 (by rw [HLV.out.1]; omega)
          have cv0 := hcv i (by rw [HLV.out.1]; omega)
          rw [hx2] at cu2
          rw [hx1'] at cu1
          rw [hx0'] at cu0
          rw [hv1, Nat.zero_add] at cv1
          rw [hv0, Nat.zero_add] at cv0
          have x2b : x2 < 4294967296 := by rw [← hx2]; exact hinv.rwd.nth (by omega)
          have x1b : x1 < 4294967296 := by rw [← hx1']; exact hinv.rwd.nth (by omega)
          have x0b : x0 < 4294967296 := by rw [← hx0']; exact hinv.rwd.nth (by omega)
          have v1b : v1 < 4294967296 := by rw [← hv1]; exact HLV.out.2.1.nth (by rw [HLV.out.1]; omega)
          have v0b : v0 < 4294967296 := by rw [← hv0]; exact HLV.out.2.1.nth (by rw [HLV.out.1]; omega)
          have etop := topW x2b x1b
          have hv1n : ¬ v1 = 0 := by have := HLV.out.2.2.2; rw [hp1, hv1] at this; omega
          have hv1z : ((v1 : Int) == 0) = false := by rw [beq_eq_false_iff_ne]; have := HLV.out.2.2.2; rw [hp1, hv1] at this; omega
          obtain ⟨top, htop⟩ : ∃ t, x2 * 4294967296 + x1 = t := ⟨_, rfl⟩
          rw [htop] at etop
          have HTOP := Lib.hid htop
          have HBD := Lib.hid (And.intro x2b (And.intro x1b (And.intro x0b (And.intro v1b v0b))))
          have hvp : 0 < v1 := by have := HLV.out.2.2.2; rw [hp1, hv1] at this; omega
          have HT := Lib.hid (And.intro ht2 (And.intro ht1 (And.intro ht0 hp1)))
          have HXX := Lib.hid (And.intro hx2 (And.intro hx1' (And.intro hx0' (And.intro hv1 hv0))))
          have HW := Lib.hid (And.intro wl (And.intro ww (And.intro wv wlt)))
          have HR1 := Lib.hid hr1
          have HR2 := Lib.hid hr2
          have HINV := Lib.hid hinv
          have HRL := Lib.hid (And.intro hrl hql)
          have HK : Hid (j + 1 ≤ mq) := (by have := HQ.out; omega : j + 1 ≤ mq)
          have HHV := Lib.hid hcv
          have HHGV := Lib.hid hgv
          have e1 : (((j + 1 : Nat) : Int) - 1) = j := by omega
          rw [e1]
          clear wl ww wv wlt hr1 hr2 hinv hrl hql hk hcv hgv ht2 ht1 ht0 hp1 hx2 hx1' hx0' hv1 hv0 hii hal e1 hpos htop x2b x1b
          go_wp2_with fail
          go_quiet (fail)
          go_upto_block 4 with fail
          obtain ⟨win, hwin⟩ : ∃ win, (R.drop j).take (lb.length + 1) = win := ⟨_, rfl⟩
          have hnw : ∀ t, t < lb.length + 1 → nth win t = nth R (j + t) := fun t ht => by rw [← hwin, nth_take ht, nth_drop']
          have HWN : Hid (win.length = i + 3 ∧ nth win (i + 2) = x2 ∧ nth win (i + 1) = x1 ∧ nth win i = x0 ∧ lv.length = i + 2 ∧ nth lv (i + 1) = v1 ∧ nth lv i = v0) := by
            have hh := HI.out
            refine ⟨by rw [← hwin, HW.out.1, hh], ?_, ?_, ?_, by rw [HLV.out.1, hh], by rw [HT.out.2.2.2]; exact HXX.out.2.2.2.1, HXX.out.2.2.2.2⟩
            · rw [hnw _ (by omega), ← HXX.out.1, ← HT.out.1, Nat.add_assoc]
            · rw [hnw _ (by omega), ← HXX.out.2.1, ← HT.out.2.1, Nat.add_assoc]
            · rw [hnw _ (by omega), ← HXX.out.2.2.1, ← HT.out.2.2.1]
          have HWW : Hid (Wd B32 win ∧ val B32 win = val B32 (R.drop j) ∧ val B32 win < B32 * val B32 lv) := by have h9 := HW.out.2; rw [HLV.out.1] at h9; rw [← hwin]; exact h9
          have HEX : Hid (x2 ≤ v1) := by
            have := ntop_le HLV.out.2.1 HWN.out.1 HWN.out.2.2.2.2.1 HWW.out.2.2
            rwa [HWN.out.2.1, HWN.out.2.2.2.2.2.1] at this
          have HHW := Lib.hid hwin
          have hst := NGs.start (B := 4294967296) (W := val B32 win) (V := val B32 lv) (x0 := x0) (v0 := v0) rfl rfl HWW.out.1 HWN.out.1 HWN.out.2.2.2.2.1 HWN.out.2.1 HWN.out.2.2.1 HWN.out.2.2.2.1 HWN.out.2.2.2.2.2.1 HWN.out.2.2.2.2.2.2 (by have := HLV.out.2.2.2; rw [HWN.out.2.2.2.2.2.1] at this; exact this) v1b (by decide) HEX.out
          rw [HTOP.out] at hst
          have hqw : quoW top v1 = top / v1 := by
            rw [quoW, Nat.mod_eq_of_lt]
            exact Nat.lt_of_le_of_lt (Nat.div_le_self _ _) (by have := HTOP.out; have := HBD.out; omega)
          have HST2 := Lib.hid hst
          have HQW := Lib.hid hqw
          clear hwin hnw hst hqw HW
          go_cut [16, 17] from 78 to 255 (fun a _ wx => ∃ h : Nat, a = .int .u64 h ∧ NGd 4294967296 (val B32 win) (val B32 lv) h ∧ isRow wx gu 73 .u32 R ∧ isRow wx gq 73 .u32 Q ∧ Below w2.heap.size w2 wx)
          case first => as_aux_lemma =>
            go_wp2_with fail
            go_loopw [16, 17] (fun a b wx => ∃ h r : Nat, a = .int .u64 h ∧ b = .int .u64 r ∧ NGs 4294967296 (val B32 win) (val B32 lv) x2 x1 v1 h r ∧ isRow wx gu 73 .u32 R ∧ isRow wx gq 73 .u32 Q ∧ Below w2.heap.size w2 wx) (fun a _ _ => (intOf a).toNat)
            case atStart => exact ⟨_, _, rfl, rfl, by rw [HQW.out]; exact HST2.out, HR1.out.drewN _, HR2.out.drewN _, below_drewN hbel _⟩
            case round =>
              clear HST2 HQW
              obtain ⟨h, r, rfl, rfl, hgs, hr1, hr2, hbel2⟩ := hrel
              have cu0 := hr1.cell (i := t0) (by have := HRL.out.1; omega)
              rw [HXX.out.2.2.1] at cu0
              obtain ⟨gv', ov', ev, hgv, hcv⟩ := (HSV.out.below hbel2).at (i := i) (by rw [HLV.out.1]; omega)
              simp only [Option.some.injEq, Addr.mk.injEq] at ev
              obtain ⟨rfl, rfl, _⟩ := ev
              have cv1 := hcv p1 (by rw [HLV.out.1]; omega)
              have cv0 := hcv i (by rw [HLV.out.1]; omega)
              rw [HXX.out.2.2.2.1, Nat.zero_add] at cv1
              rw [HXX.out.2.2.2.2, Nat.zero_add] at cv0
              have HG := Lib.hid hgs
              have HR1 := Lib.hid hr1
              have HR2 := Lib.hid hr2
              have HBL := Lib.hid hbel2
              have hrb : r < 4294967296 := hgs.rlt
              have hhb : h ≤ 4294967297 := hgs.hle
              have eo := or_shl32 (r := r) (x := x0) hrb x0b
              have em : mulW h v0 = h * v0 := by
                refine mulW_lt' ?_
                have : h * v0 ≤ 4294967297 * 4294967295 := Nat.mul_le_mul hhb (by omega)
                exact Nat.lt_of_le_of_lt this (by decide)
              have hx1b : x1 < 4294967296 := HBD.out.2.1
              clear hr1 hr2 hbel2 hcv hgv
              by_cases h1 : 4294967296 ≤ h ∨ r * 4294967296 + x0 < h * v0
              · obtain ⟨hq0, heq, hle2, hup⟩ := hgs.step (x0 := x0) (v0 := v0) rfl rfl HWW.out.1 HWN.out.1 HWN.out.2.2.2.2.1 HWN.out.2.1 HWN.out.2.2.1 HWN.out.2.2.2.1 HWN.out.2.2.2.2.2.1 HWN.out.2.2.2.2.2.2 (by decide) HWW.out.2.2 h1
                obtain ⟨p, hp⟩ : ∃ p, h = p + 1 := ⟨h - 1, by omega⟩
                have hsb : subW h 1 = p := by rw [subW_le (by omega) (by omega)]; omega
                have had : addW r v1 = r + v1 := addW_lt' (by omega)
                rw [hp, Nat.add_sub_cancel] at heq hup
                have HE := Lib.hid heq
                have HUp := Lib.hid hup
                have hgt : decide ((4294967296 : Int) ≤ (h : Int)) = true ∨ decide ((4294967296 : Int) ≤ (h : Int)) = false ∧ decide (orW (shlW r 32) x0 < mulW h v0) = true := by
                  by_cases hq : 4294967296 ≤ h
                  · left; simp; omega
                  · right; exact ⟨by simp; omega, by rw [eo, em]; exact decide_eq_true (h1.resolve_left hq)⟩
                have HM : Hid (p < h) := (by omega : p < h)
                have HLE : Hid (p ≤ 4294967297) := (by omega : p ≤ 4294967297)
                clear heq hup hgs HG h1 hp hq0 hle2 eo em hx1b
                by_cases hb : 4294967296 ≤ r + v1
                · have HD := Lib.hid (NGs.exit (x0 := x0) (v0 := v0) rfl rfl HLV.out.2.1 HWN.out.1 HWN.out.2.2.2.2.1 HWN.out.2.1 HWN.out.2.2.1 HWN.out.2.2.2.1 HWN.out.2.2.2.2.2.1 HWN.out.2.2.2.2.2.2 hvp HE.out HUp.out hb HEX.out HBD.out.2.1 v0b)
                  have hb' : decide ((4294967296 : Int) ≤ (r : Int) + (v1 : Int)) = true := by simp; omega
                  clear hb
                  rcases hgt with hq | ⟨hq, ht⟩
                  · go_wp2_with fail
                    go_quiet (fail)
                    go_wp2_with (go_meet; exact ⟨p, rfl, HD.out, HR1.out.drewN _, HR2.out.drewN _, below_drewN HBL.out _⟩)
                  · go_wp2_with fail
                    go_quiet (fail)
                    go_wp2_with (go_meet; exact ⟨p, rfl, HD.out, HR1.out.drewN _, HR2.out.drewN _, below_drewN HBL.out _⟩)
                · have HB := Lib.hid hb
                  have hb' : decide ((4294967296 : Int) ≤ (r : Int) + (v1 : Int)) = false := by simp; omega
                  clear hb
                  rcases hgt with hq | ⟨hq, ht⟩
                  · go_wp2_with fail
                    go_quiet (fail)
                    go_wp2_with fail
                    go_roundw
                    case rel => exact ⟨p, r + v1, rfl, by go_num, ⟨HE.out, Nat.lt_of_not_le HB.out, HLE.out, HUp.out⟩, HR1.out.drewN _, HR2.out.drewN _, below_drewN HBL.out _⟩
                    case measure => have := HM.out; simp [intOf]; omega
                  · go_wp2_with fail
                    go_quiet (fail)
                    go_wp2_with fail
                    go_roundw
                    case rel => exact ⟨p, r + v1, rfl, by go_num, ⟨HE.out, Nat.lt_of_not_le HB.out, HLE.out, HUp.out⟩, HR1.out.drewN _, HR2.out.drewN _, below_drewN HBL.out _⟩
                    case measure => have := HM.out; simp [intOf]; omega
              · have hq1 : ¬ 4294967296 ≤ h := fun hh => h1 (.inl hh)
                have ht1 : h * v0 ≤ r * 4294967296 + x0 := Nat.le_of_not_lt (fun hh => h1 (.inr hh))
                have HD := Lib.hid (NGs.low (x0 := x0) (v0 := v0) rfl rfl HLV.out.2.1 HWN.out.1 HWN.out.2.2.2.2.1 HWN.out.2.1 HWN.out.2.2.1 HWN.out.2.2.2.1 HWN.out.2.2.2.2.2.1 HWN.out.2.2.2.2.2.2 hvp hgs.eq (Nat.lt_of_not_le hq1) hgs.up ht1)
                have hq : decide ((4294967296 : Int) ≤ (h : Int)) = false := by simp; omega
                have ht : decide (orW (shlW r 32) x0 < mulW h v0) = false := by rw [eo, em]; exact decide_eq_false (Nat.not_lt.2 ht1)
                clear hgs HG h1 hq1 ht1 eo em hx1b
                go_wp2_with fail
                go_quiet (fail)
                go_wp2_with (go_meet; exact ⟨h, rfl, HD.out, HR1.out.drewN _, HR2.out.drewN _, below_drewN HBL.out _⟩)
          case rest =>
            obtain ⟨h, rfl, hgd, hr1, hr2, hbel3⟩ := hcut
            clear HST2 HQW HR1 HR2 etop cu2 cu1 cu0 cv1 cv0
            obtain ⟨pre, hpre⟩ : ∃ l, R.take j = l := ⟨_, rfl⟩
            obtain ⟨post, hpost⟩ : ∃ l, R.drop (j + (lb.length + 1)) = l := ⟨_, rfl⟩
            have hparts : R = pre ++ (win ++ post) := by rw [← hpre, ← hpost, ← HHW.out]; exact parts3' R j (lb.length + 1)
            have hpl : pre.length = j := by rw [← hpre, List.length_take]; have := HRL.out.1; have := HK.out; have := HQ.out; omega
            have HPP := Lib.hid (And.intro hpre (And.intro hpost hparts))
            have HPL := Lib.hid hpl
            have hwl : win.length = lb.length + 1 := by have := HWN.out.1; have := HI.out; omega
            have HWL := Lib.hid hwl
            have hhb : h < 4294967296 := hgd.lt
            have HGD2 := Lib.hid hgd
            have hr1' : isRow wc gu 73 .u32 (pre ++ (win ++ post)) := by rw [← hparts]; exact hr1
            have HR1 := Lib.hid hr1'
            have HR2 := Lib.hid hr2
            have HBL := Lib.hid hbel3
            clear hgd hr1 hr1' hr2 hbel3 hpre hpost hparts hpl hwl hbel
            go_wp2_with fail
            go_loopw [18, 19, 20] (fun a b y wx => ∃ (k cn bw : Nat) (cur : List Nat), k ≤ lb.length ∧ y = .int .i64 k ∧ a = .int .u64 cn ∧ b = .int .u64 bw ∧ NMs B32 (val B32 win) h lv win k cur cn bw ∧ isRow wx gu 73 .u32 (pre ++ (cur ++ post)) ∧ isRow wx gq 73 .u32 Q ∧ Below w2.heap.size w2 wx) (fun _ _ y _ => lb.length - (intOf y).toNat)
            case atStart => exact ⟨0, 0, 0, win, Nat.zero_le _, rfl, rfl, rfl, NMs.start (by decide) lv HWW.out.1 rfl, HR1.out, HR2.out, HBL.out⟩
            case round => as_aux_lemma =>
              clear HR1 HR2 HBL
              obtain ⟨k, cn, bw, cur, hk, rfl, rfl, rfl, hms, hr1, hr2, hbel⟩ := hrel
              have hcl : cur.length = lb.length + 1 := by rw [hms.len, HWL.out]
              have hcn : cn < 4294967296 := hms.carry
              have hbw := hms.bor
              by_cases hlt : k < lb.length
              · have cu := cell_mid (k := k) (o := k + j) hr1 HPL.out (by omega) (by omega)
                have fu := hr1.frozen (k + j)
                obtain ⟨gv', ov', ev, hgv, hcv⟩ := (HSV.out.below hbel).at (i := k) (by rw [HLV.out.1]; omega)
                simp only [Option.some.injEq, Addr.mk.injEq] at ev
                obtain ⟨rfl, rfl, _⟩ := ev
                have cv := hcv k (by rw [HLV.out.1]; omega)
                rw [Nat.zero_add] at cv
                have ub : nth cur k < 4294967296 := hms.wd.nth (by omega)
                have vb : nth lv k < 4294967296 := HLV.out.2.1.nth (by rw [HLV.out.1]; omega)
                obtain ⟨ep, hpb⟩ := mulc32 hhb vb hcn
                have hsub := ms32 ub (Nat.mod_lt (h * nth lv k + cn) (by decide : 0 < 4294967296)) hbw
                have ea := andW_mask hpb
                have hstep := hms.step (by decide) HLV.out.2.1 hhb (by rw [HWL.out]; omega) (Nat.mod_lt _ (by decide)) hsub.2 (by rw [← hms.keep k (Nat.le_refl _)]; exact hsub.1)
                have hidx : (k : Int) + (j : Int) < (la.length : Int) + 1 := by have := HK.out; have := HQ.out; omega
                have HS := Lib.hid hstep
                have HE := Lib.hid (And.intro ep ea)
                have HR1 := Lib.hid hr1
                have HR2 := Lib.hid hr2
                have HBL := Lib.hid hbel
                have HCL := Lib.hid hcl
                clear hcv hgv hsub hstep ep ea hpb hms hr1 hr2 hbel hcl
                go_wp2_with fail
                go_roundw
                case rel =>
                  rw [HE.out.1, HE.out.2]
                  exact ⟨k + 1, _, _, _, by omega, by go_num, rfl, rfl, HS.out, row_mid HR1.out HPL.out (by have := HCL.out; omega) (by omega), HR2.out.otherCell (by show gq ≠ gu; omega) _, HBL.out.setCell (by show w2.heap.size ≤ gu; have := HGD.out.1; omega) _⟩
                case measure => simp [intOf]; omega
              · have hkl : k = lb.length := by omega
                subst hkl
                have cu := cell_mid (k := lb.length) (o := t2) hr1 HPL.out (by omega) (by omega)
                have fu := hr1.frozen t2
                have ub : nth cur lb.length < 4294967296 := hms.wd.nth (by omega)
                have hkeep := hms.keep lb.length (Nat.le_refl _)
                obtain ⟨bb, ebb, hbb, hlast⟩ := last32 ub hcn hbw
                have ebi : ((subW (subW (nth cur lb.length) cn) bw : Nat) : Int) / 9223372036854775808 = (bb : Int) := by
                  have h9 : shrW (subW (subW (nth cur lb.length) cn) bw) 63 = subW (subW (nth cur lb.length) cn) bw / 9223372036854775808 := rfl
                  omega
                obtain ⟨xx, hxx⟩ : ∃ xx, subW (subW (nth cur lb.length) cn) bw % 4294967296 = xx := ⟨_, rfl⟩
                have hxb : xx < 4294967296 := by rw [← hxx]; exact Nat.mod_lt _ (by decide)
                have hms' : NMs B32 (val B32 win) h lv win lv.length cur cn bw := by rw [HLV.out.1]; exact hms
                have hl3 := hms'.last (by rw [HWL.out, HLV.out.1]) hxb (by rw [HLV.out.1, ← hkeep, ← hxx]; exact hlast)
                rw [HLV.out.1] at hl3
                have hr3 := row_mid (x := xx) hr1 HPL.out (k := lb.length) (o := t2) (by omega) (by omega)
                have hr4 : isRow (wr.setCell ⟨gu, t2, none⟩ (.int .u32 (xx : Int))) gq 73 .u32 Q := hr2.otherCell (by show gq ≠ gu; omega) _
                have hb4 : Below w2.heap.size w2 (wr.setCell ⟨gu, t2, none⟩ (.int .u32 (xx : Int))) := hbel.setCell (by show w2.heap.size ≤ gu; have := HGD.out.1; omega) _
                have exx : ((subW (subW (nth cur lb.length) cn) bw : Nat) : Int) % 4294967296 = (xx : Int) := by rw [← hxx]; omega
                obtain ⟨W5, hW5⟩ : ∃ W5, wr.setCell ⟨gu, t2, none⟩ (.int .u32 (xx : Int)) = W5 := ⟨_, rfl⟩
                rw [hW5] at hr3 hr4 hb4
                have HR3 := Lib.hid hr3
                have HR4 := Lib.hid hr4
                have HB4 := Lib.hid hb4
                have HL3 := Lib.hid hl3
                have hjq : (j : Int) < (mq : Int) := by have := HK.out; omega
                have cq := hr4.cell (i := j) (by have := HRL.out.2; have := HQ.out; have := HK.out; omega)
                have fq := hr4.frozen j
                clear hms hms' hr1 hr2 hbel hcl hl3 hr3 hr4 hb4 hkeep hlast hxx ebb
                rcases (by omega : bb = 0 ∨ bb = 1) with h0 | h0
                · as_aux_lemma =>
                  subst h0
                  have he5 : val B32 (cur.set lb.length xx) + h * val B32 lv = val B32 win := by have h9 := HL3.out.2.2; rw [Nat.mul_zero, Nat.add_zero] at h9; exact h9
                  have hlt5 := HGD2.out.right he5
                  have hst5 := HINV.out.step (i := j) (cur := cur.set lb.length xx) (d := h) (by rw [asList_len (by omega), HLV.out.1]; have := HK.out; have := HQ.out; omega) (by rw [asList_len (by omega), HLV.out.1]; exact hl) HLV.out.2.1 (by rw [HLV.out.1]; exact HL3.out.1) HL3.out.2.1 hhb hlt5 (by rw [HLV.out.1, HHW.out]; exact he5)
                  rw [HLV.out.1, HPP.out.1, HPP.out.2.1] at hst5
                  have HST5 := Lib.hid hst5
                  have ehh : (h : Int) % 4294967296 = (h : Int) := by omega
                  have HJ : Hid (j ≤ la.length - lv.length + 1) := by rw [HLV.out.1]; have := HK.out; have := HQ.out; exact (by omega : j ≤ la.length - lb.length + 1)
                  clear hst5 he5 hlt5
                  go_wp2_with fail
                  go_roundw
                  case rel => exact ⟨j, _, _, rfl, HJ.out, HST5.out, HR3.out.otherCell (by show gu ≠ gq; omega) _, HR4.out.storeRow j h, HB4.out.setCell (by show w2.heap.size ≤ gq; have := HGD.out.1; omega) _⟩
                  case measure => simp [intOf]
                · subst h0
                  have hs5 := HL3.out.2.2
                  have hhp : 0 < h := by
                    rcases Nat.eq_zero_or_pos h with h9 | h9
                    · subst h9
                      have h8 := val_lt HL3.out.2.1
                      rw [HL3.out.1] at h8
                      rw [Nat.zero_mul, Nat.mul_one, Nat.add_zero] at hs5
                      omega
                    · exact h9
                  obtain ⟨p, hp⟩ : ∃ p, h = p + 1 := ⟨h - 1, by omega⟩
                  have esub : subW h 1 = p := by rw [subW_le (by omega) (by omega)]; omega
                  have hpb : p < 4294967296 := by omega
                  have HP := Lib.hid hp
                  obtain ⟨cur2, hcur2⟩ : ∃ l, cur.set lb.length xx = l := ⟨_, rfl⟩
                  have HL3 := HL3
                  rw [hcur2] at HL3 HR3 hs5
                  have HS5 := Lib.hid hs5
                  clear hs5 hcur2 hhp hp cq fq
                  go_wp2_with fail
                  go_loopw [18, 24] (fun a y wy => ∃ (k cn : Nat) (cur : List Nat), k ≤ lb.length ∧ y = .int .i64 k ∧ a = .int .u64 cn ∧ NAb B32 lv cur2 k cur cn ∧ isRow wy gu 73 .u32 (pre ++ (cur ++ post)) ∧ isRow wy gq 73 .u32 Q ∧ Below w2.heap.size w2 wy) (fun _ y _ => lb.length - (intOf y).toNat)
                  case atStart => exact ⟨0, 0, cur2, Nat.zero_le _, rfl, rfl, NAb.start lv HL3.out.2.1, HR3.out, HR4.out, HB4.out⟩
                  case round => as_aux_lemma =>
                    clear HR3 HR4 HB4
                    obtain ⟨k, c5, cur5, hk5, rfl, rfl, hab, hr1, hr2, hbel⟩ := hrel
                    have hcl : cur5.length = lb.length + 1 := by rw [hab.len]; exact HL3.out.1
                    have hc5 := hab.carry
                    by_cases hlt : k < lb.length
                    · have cu5 := cell_mid (k := k) (o := k + j) hr1 HPL.out (by omega) (by omega)
                      have fu5 := hr1.frozen (k + j)
                      obtain ⟨gv', ov', ev, hgv, hcv⟩ := (HSV.out.below hbel).at (i := k) (by rw [HLV.out.1]; omega)
                      simp only [Option.some.injEq, Addr.mk.injEq] at ev
                      obtain ⟨rfl, rfl, _⟩ := ev
                      have cv5 := hcv k (by rw [HLV.out.1]; omega)
                      rw [Nat.zero_add] at cv5
                      have ub5 : nth cur5 k < 4294967296 := hab.wd.nth (by omega)
                      have vb5 : nth lv k < 4294967296 := HLV.out.2.1.nth (by rw [HLV.out.1]; omega)
                      have ea1 := addW_lt' (x := nth cur5 k) (y := nth lv k) (by omega)
                      have ea2 := addW_lt' (x := c5) (y := nth cur5 k + nth lv k) (by omega)
                      have hstep := hab.step (by decide) HLV.out.2.1 (by rw [HL3.out.1]; omega)
                      have hidx : (k : Int) + (j : Int) < (la.length : Int) + 1 := by have := HK.out; have := HQ.out; omega
                      have hk6 : (k : Int) < (lb.length : Int) := by omega
                      have HS := Lib.hid hstep
                      have HE := Lib.hid (And.intro ea1 ea2)
                      have HR1 := Lib.hid hr1
                      have HR2 := Lib.hid hr2
                      have HBL := Lib.hid hbel
                      have HCL := Lib.hid hcl
                      clear hcv hgv hstep ea1 ea2 hab hr1 hr2 hbel hcl
                      go_wp2_with fail
                      go_quiet (fail)
                      go_wp2_with fail
                      go_roundw
                      case rel =>
                        rw [HE.out.1, HE.out.2, shrW32]
                        exact ⟨k + 1, _, _, by omega, by go_num, rfl, HS.out, row_mid (HR1.out.drewN _) HPL.out (by have := HCL.out; omega) (by omega), (HR2.out.drewN _).otherCell (by show gq ≠ gu; omega) _, (below_drewN HBL.out _).setCell (by show w2.heap.size ≤ gu; have := HGD.out.1; omega) _⟩
                      case measure => simp [intOf]; omega
                    · have hkl : k = lb.length := by omega
                      subst hkl
                      have cu5 := cell_mid (k := lb.length) (o := t2) hr1 HPL.out (by omega) (by omega)
                      have fu5 := hr1.frozen t2
                      obtain ⟨dd, hdd⟩ : ∃ dd, (nth cur5 lb.length + c5) % 4294967296 = dd := ⟨_, rfl⟩
                      have eu : ((nth cur5 lb.length : Nat) : Int) % 4294967296 = ((nth cur5 lb.length : Nat) : Int) := by have : nth cur5 lb.length < 4294967296 := hab.wd.nth (by omega); omega
                      have eu : (((nth cur5 lb.length : Nat) : Int) + (c5 : Int)) % 4294967296 = (dd : Int) := by rw [← hdd]; omega
                      have hab' : NAb B32 lv cur2 lv.length cur5 c5 := by rw [HLV.out.1]; exact hab
                      have hback := HGD2.out.back (b := lv) (s0 := cur2) (cur := cur5) (c := c5) (d := dd) rfl (by rw [HLV.out.1]; exact HL3.out.1) (by rw [HLV.out.1, ← HWL.out]; exact val_lt HWW.out.1) (by rw [HLV.out.1]; exact HS5.out) HL3.out.2.1 hab' (by decide) (by rw [HLV.out.1]; exact hdd.symm)
                      rw [HLV.out.1] at hback
                      obtain ⟨_, hbl5, hbw5, hbe5, hblt5⟩ := hback
                      have hst5 := HINV.out.step (i := j) (cur := cur5.set lb.length dd) (d := p) (by rw [asList_len (by omega), HLV.out.1]; have := HK.out; have := HQ.out; omega) (by rw [asList_len (by omega), HLV.out.1]; exact hl) HLV.out.2.1 (by rw [HLV.out.1]; exact hbl5) hbw5 hpb hblt5 (by rw [HLV.out.1, HHW.out]; rw [HP.out, Nat.add_sub_cancel] at hbe5; exact hbe5)
                      rw [HLV.out.1, HPP.out.1, HPP.out.2.1] at hst5
                      have hr3 := row_mid (x := dd) hr1 HPL.out (k := lb.length) (o := t2) (by omega) (by omega)
                      have hr4 : isRow (wr.setCell ⟨gu, t2, none⟩ (.int .u32 (dd : Int))) gq 73 .u32 Q := hr2.otherCell (by show gq ≠ gu; omega) _
                      have hb4 : Below w2.heap.size w2 (wr.setCell ⟨gu, t2, none⟩ (.int .u32 (dd : Int))) := hbel.setCell (by show w2.heap.size ≤ gu; have := HGD.out.1; omega) _
                      obtain ⟨W6, hW6⟩ : ∃ W6, wr.setCell ⟨gu, t2, none⟩ (.int .u32 (dd : Int)) = W6 := ⟨_, rfl⟩
                      rw [hW6] at hr3 hr4 hb4
                      have cq := hr4.cell (i := j) (by have := HRL.out.2; have := HQ.out; have := HK.out; omega)
                      have fq := hr4.frozen j
                      have HR3 := Lib.hid hr3
                      have HR4 := Lib.hid hr4
                      have HB4 := Lib.hid hb4
                      have HST5 := Lib.hid hst5
                      have ehh : (p : Int) % 4294967296 = (p : Int) := by omega
                      clear hst5 hbl5 hbw5 hbe5 hblt5 hab hab' hr1 hr2 hbel hcl hr3 hr4 hb4 hdd
                      go_wp2_with fail
                      go_roundw
                      case rel => exact ⟨j, _, _, rfl, by rw [HLV.out.1]; have := HK.out; have := HQ.out; omega, HST5.out, HR3.out.otherCell (by show gu ≠ gq; omega) _, HR4.out.storeRow j p, HB4.out.setCell (by show w2.heap.size ≤ gq; have := HGD.out.1; omega) _⟩
                      case measure => simp [intOf]
end Go.Proofs.YtekghemhccfhkaaGreatDoor
namespace Go.Proofs.YtekghemhccfhkaaGreatDoor
open Go.RowKit Go.Big
/-- divMag -/
theorem divMag_any {va vb : Value} {m n K : Nat} {w : World} (ha : NatV w .u32 B32 va m) (hb : NatV w .u32 B32 vb n) (hn : 0 < n) (hK : K < 1000000000000) (hm : m < B32 ^ K) :
    Calls Tryz.prog 129 #[va, vb] w (RetMag2 w (m / n) (m % n)) := by
  rcases Nat.lt_or_ge m n with h | h
  · exact divMag_less ha hb h
  · rcases Nat.lt_or_ge n 4294967296 with h2 | h2
    · exact divMag_word ha hb h hn h2
    · obtain ⟨ao, capa, la, rfl, sa, wa, za, ea, la'⟩ := nmag_len ha hm
      obtain ⟨bo, capb, lb, rfl, sb, wb, zb, eb, _⟩ := nmag_len hb (Nat.lt_of_le_of_lt h hm)
      have hge : lb.length ≤ la.length := by
        rcases Nat.lt_or_ge la.length lb.length with h3 | h3
        · have := val_lt_of_len (B := B32) (by decide) wa zb h3; omega
        · exact h3
      have h3 : 2 ≤ lb.length := by
        rcases Nat.lt_or_ge lb.length 2 with h4 | h4
        · have h5 := val_lt wb
          have h6 : B32 ^ lb.length ≤ B32 ^ 1 := Nat.pow_le_pow_right (by decide) (by omega)
          have h7 : B32 ^ 1 = 4294967296 := by decide
          omega
        · exact h4
      exact divMag_long ao bo capa capb la lb (i := lb.length - 2) sa sb wa wb za zb ea eb (by omega) hge h (by omega)
end Go.Proofs.YtekghemhccfhkaaGreatDoor
