/-
  Walks of the program's functions: NPD, NPE, LawParse.
-/
import Derived.Test.YtekghemhccfhkaaGreatDoorB51
import Derived.Deep.LoopGhost
import Derived.Deep.RegionWith
import Derived.Test.YtekghemhccfhkaaGreatDoorB34
namespace Go.Proofs.YtekghemhccfhkaaGreatDoor
open Go.RowKit Go.Big
/-- The loop over the places behind the point. -/
def DotRel (w1 : World) (g7 g9 g11 : Nat) (b3 : Bool) (s3 : Value) (A B j : Nat) (g : Nat) (x : Value) (wr : World) : Prop :=
  ∃ i : Nat, i + g = j ∧ x = .int .i64 (i : Int) ∧ Below w1.heap.size w1 wr ∧ ∃ bA aA lA cA bD aD lD cD, N2 g7 bA (.slice aA lA cA) wr ∧ N2 g9 bD (.slice aD lD cD) wr ∧ N2 g11 b3 s3 wr ∧
    NumV wr (.agg #[.bool bA, .slice aA lA cA]) ((A * 10 ^ i : Nat) : Int) ∧ NumV wr (.agg #[.bool bD, .slice aD lD cD]) ((10 ^ i : Nat) : Int) ∧ NumV wr (.agg #[.bool b3, s3]) ((B : Nat) : Int)
theorem b124 {a i : Nat} (ha : a < B64 ^ 31) (hi : i ≤ 400) : a * 10 ^ i < B32 ^ 124 ∧ 10 ^ i < B32 ^ 124 ∧ 10 < B32 ^ 124 := by
  have e := b64_32 31
  have h1 := p31 hi
  rw [e] at ha h1
  have h2 : a * 10 ^ i < B32 ^ (2 * 31) * B32 ^ (2 * 31) := Nat.mul_lt_mul'' ha h1
  rw [← Nat.pow_add] at h2
  have h3 : B32 ^ (2 * 31) ≤ B32 ^ 124 := Nat.pow_le_pow_right (by decide) (by decide)
  exact ⟨h2, Nat.lt_of_lt_of_le h1 h3, Nat.lt_of_lt_of_le (by decide : 10 < B32 ^ 1) (Nat.pow_le_pow_right (by decide) (by decide))⟩
set_option maxRecDepth 100000 in
set_option maxHeartbeats 8000000 in
/-- A point. -/
theorem nparse_dot {s m S : ByteArray} {q : Rat} {neg : Bool} {k j : Nat} (hs : Beg s m neg) (hk : DgN m.data.toList k) (h0 : 0 < k) (hkm : k < m.size) (hfk : FdOk (m.data.toList.take k)) (hj : DgN (m.data.toList.drop (k + 1)) j) (hj0 : 0 < j) (hjl : k + 1 + j = m.size) (hfd : FdOk (m.data.toList.drop (k + 1))) (hc6 : ((m[k].toNat : Nat) : Int) = 46) (hf : Fin neg m S (dec (m.data.toList.take k ++ m.data.toList.drop (k + 1))) (10 ^ j) q) (w : World) : Calls Tryz.prog 22 #[.string s] w (PaE neg m w) := by
  have HF := Lib.hid hf
  clear hf
  have HFK := Lib.hid hfk
  have HJ := Lib.hid hj
  have hjm : j ≤ m.size - (k + 1) := by
    have := hj.1
    rw [List.length_drop, ← Lib.size_eq] at this
    exact this
  clear hfk hj
  have HFD := Lib.hid hfd
  clear hfd
  obtain ⟨he, hp, hle, hsg⟩ := hs
  rcases hsg with ⟨rfl, rfl, hc⟩ | ⟨rfl, hm, hc⟩
  · obtain ⟨c, hcc⟩ : ∃ c : Int, ((m[0]'hp).toNat : Int) = c := ⟨_, rfl⟩
    rw [hcc] at hc
    have hcb : (c == 45) = false := by rw [beq_eq_false_iff_ne]; exact hc
    have hml : m.size ≤ 400 := hle
    obtain ⟨tb, htb⟩ : ∃ t, m.extract (k + 1) m.size = t := ⟨_, rfl⟩
    have htbl : tb.data.toList = m.data.toList.drop (k + 1) := by
      rw [← htb]; simp
      rw [List.take_of_length_le (by rw [List.length_drop, ← Lib.size_eq]; omega)]
    have htbs : tb.size ≤ 1000000 := by rw [← htb, ByteArray.size_extract]; omega
    have HDJ := Lib.hid (fun w => digits_at htbs (by rw [htbl]; exact HJ.out) w)
    have hk4 : (k : Int) < (m.size : Int) := by omega
    have hk5 : (k : Int) + 1 ≤ (m.size : Int) := by omega
    have hk6 : (0 : Int) ≤ (k : Int) + 1 := by omega
    have e2 : ((k : Int) + 1).toNat = k + 1 := by omega
    have hj3 : j ≤ 400 := by omega
    have hjn : ¬ (j : Int) = 0 := by omega
    have hjz : ((j : Int) == 0) = false := by rw [beq_eq_false_iff_ne]; exact hjn
    have hjl2 : ¬ (k : Int) + 1 + (j : Int) < (m.size : Int) := by omega
    have HFB := Lib.hid (fun w => nfd_at htbs htbl HFD.out w)
    clear htbl htbs
    have HD := Lib.hid (fun w => digits_at (show m.size ≤ 1000000 by omega) hk w)
    obtain ⟨ta, hta⟩ : ∃ t, m.extract 0 k = t := ⟨_, rfl⟩
    have hkl : k ≤ m.size := by have := hk.1; rw [← Lib.size_eq] at this; exact this
    have htl : ta.data.toList = m.data.toList.take k := by rw [← hta]; simp
    have hts : ta.size ≤ 1000000 := by rw [← hta, ByteArray.size_extract]; omega
    have HFA := Lib.hid (fun w => nfd_at hts htl HFK.out w)
    have hk1 : (0 : Int) ≤ (k : Int) := by omega
    have hk2 : (k : Int) ≤ (m.size : Int) := by omega
    have hk3 : k ≤ 400 := by omega
    have HI1 : Hid (IsS 1) := Lib.hid ⟨by decide, by decide⟩
    clear hk htl hts
    go_enter Tryz.func22, Tryz.ntmps22
    go_wp2_with fail
    refine (HD.out _).mono ?_
    rintro e w1 ⟨rfl, rfl⟩
    clear HD
    go_wp2_with fail
    refine (HFA.out _).mono ?_
    rintro e w2 ⟨v2, rfl, hv2, hb2⟩
    obtain ⟨b1, a1, l1, c1, rfl, e1, h1⟩ := hv2.op
    obtain ⟨w3, hw3, hb3, k7, hz3⟩ := nbox1 w2 #[.bool b1, .slice a1 l1 c1] 30 (cb2 b1 h1.cb)
    have k7 : N2 w2.heap.size b1 (.slice a1 l1 c1) w3 := k7
    have HA := Lib.hid (hv2.below hb3)
    have HC1 : Hid (Cb (.slice a1 l1 c1)) := Lib.hid h1.cb
    have HB := Lib.hid (below_trans hb2 hb3)
    have hg7 : w1.heap.size ≤ w2.heap.size := hb2.size
    have hg37 : w2.heap.size < w3.heap.size := by omega
    clear e1 h1 hv2 hb2 hb3 HFA hz3
    go_wp2_with fail
    refine (nfromInt_any HI1.out _).mono ?_
    rintro e w4 ⟨v4, rfl, hv4, hb4⟩
    obtain ⟨b2, a2, l2, c2, rfl, e2, h2⟩ := hv4.op
    obtain ⟨w5, hw5, hb5, k9, hz5⟩ := nbox1 w4 #[.bool b2, .slice a2 l2 c2] 30 (cb2 b2 h2.cb)
    have k9 : N2 w4.heap.size b2 (.slice a2 l2 c2) w5 := k9
    have hb45 := below_trans hb4 hb5
    have k7 := k7.below hb45
    have HA := Lib.hid (HA.out.below hb45)
    have HN9 := Lib.hid (hv4.below hb5)
    have HB := Lib.hid (below_trans HB.out hb45)
    have hg4 := hb4.size
    have hg9 : w1.heap.size ≤ w4.heap.size := by omega
    have h79 : w2.heap.size ≠ w4.heap.size := by omega
    have y0 := k7.c0
    have y1 := k7.c1
    have y2 := k9.c0
    have y3 := k9.c1
    have f0 := k7.f 0
    have f1 := k7.f 1
    have HK := Lib.hid (And.intro k7 k9)
    clear e2 h2 hv4 hb4 hb5 hb45 hz5 k7 k9
    have HC2 : Hid (Cb (.slice a2 l2 c2)) := Lib.hid (Cb.sl _ _ _)
    go_wp2_with fail
    refine (HDJ.out _).mono ?_
    rintro e w6 ⟨rfl, rfl⟩
    clear HDJ
    go_wp2_with fail
    refine (HFB.out _).mono ?_
    rintro e w7 ⟨v7, rfl, hv7, hb7⟩
    obtain ⟨b3, a3, l3, c3, rfl, e3, h3⟩ := hv7.op
    obtain ⟨w8, hw8, hb8, k11, hz8⟩ := nbox1 w7 #[.bool b3, .slice a3 l3 c3] 30 (cb2 b3 h3.cb)
    have k11 : N2 w7.heap.size b3 (.slice a3 l3 c3) w8 := k11
    have hb78 := below_trans hb7 hb8
    have k7 := HK.out.1.below hb78
    have k9 := HK.out.2.below hb78
    have HA := Lib.hid (HA.out.below hb78)
    have HN9 := Lib.hid (HN9.out.below hb78)
    have HNB := Lib.hid (hv7.below hb8)
    have HB := Lib.hid (below_trans HB.out hb78)
    have hlt9 : w4.heap.size < w7.heap.size := Nat.lt_of_lt_of_le (World.block_lt_of_cell? _ _ y2) hb7.size
    have h911 : w4.heap.size ≠ w7.heap.size := by omega
    have h711 : w2.heap.size ≠ w7.heap.size := by omega
    have hg11 : w1.heap.size ≤ w7.heap.size := by omega
    clear y0 y1 y2 y3 f0 f1 HK
    have y0 := k7.c0
    have y1 := k7.c1
    have y2 := k9.c0
    have y3 := k9.c1
    have y4 := k11.c0
    have y5 := k11.c1
    have f0 := k7.f 0
    have f1 := k7.f 1
    have f2 := k9.f 0
    have f3 := k9.f 1
    have HK := Lib.hid (And.intro k7 (And.intro k9 k11))
    clear hb7 e3 h3 hv7 hb8 hb78 hz8 k7 k9 k11 HFB
    have HBK := Lib.hid (b124 (i := j) (show dec (m.data.toList.take k) < B64 ^ 31 from Nat.lt_trans (dec_lt HFK.out.1) (p31 (by rw [List.length_take]; omega))) hj3)
    have HA31 := Lib.hid (show dec (m.data.toList.take k) < B64 ^ 31 from Nat.lt_trans (dec_lt HFK.out.1) (p31 (by rw [List.length_take]; omega)))
    have HB31 := Lib.hid (show dec (m.data.toList.drop (k + 1)) < B64 ^ 31 from Nat.lt_trans (dec_lt HFD.out.1) (p31 (by rw [List.length_drop, ← Lib.size_eq]; omega)))
    have HDL := Lib.hid (show (m.data.toList.drop (k + 1)).length = j by rw [List.length_drop, ← Lib.size_eq]; omega)
    obtain ⟨A, hA⟩ : ∃ A, dec (m.data.toList.take k) = A := ⟨_, rfl⟩
    obtain ⟨B, hB⟩ : ∃ B, dec (m.data.toList.drop (k + 1)) = B := ⟨_, rfl⟩
    have HAB := Lib.hid (And.intro hA hB)
    have HST := Lib.hid (show DotRel w1 w2.heap.size w4.heap.size w7.heap.size b3 (.slice a3 l3 c3) A B j j (.int .i64 0) w8 from
      ⟨0, by omega, rfl, HB.out, b1, a1, l1, c1, b2, a2, l2, c2, HK.out.1, HK.out.2.1, HK.out.2.2, by rw [Nat.pow_zero, Nat.mul_one, ← hA]; exact HA.out, by rw [Nat.pow_zero]; exact HN9.out, by rw [← hB]; exact HNB.out⟩)
    have HI10 : Hid (IsS 10) := Lib.hid ⟨by decide, by decide⟩
    clear hA hB y0 y1 y2 y3 y4 y5 f0 f1 f2 f3 HK HA HN9 HNB HB
    go_wp2_with fail
    go_loopg [13] j (fun g x wr => DotRel w1 w2.heap.size w4.heap.size w7.heap.size b3 (.slice a3 l3 c3) A B j g x wr)
    case atStart => exact HST.out
    case round =>
      clear HST
      obtain ⟨i, hij, rfl, hbw, bA, aA, lA, cA, bD, aD, lD, cD, k7, k9, k11, hA, hD, hB3⟩ := hrel
      have HB := Lib.hid hbw
      have HA := Lib.hid hA
      have HDD := Lib.hid hD
      have HB3 := Lib.hid hB3
      clear hbw hA hD hB3
      have hi400 : i ≤ 400 := by omega
      rcases Nat.lt_or_ge i j with hlt | hge
      · have y0 := k7.c0
        have y1 := k7.c1
        have y2 := k9.c0
        have y3 := k9.c1
        have k7 : N2 w2.heap.size bA (.slice aA lA cA) wr.drew := k7
        have k9 : N2 w4.heap.size bD (.slice aD lD cD) wr.drew := k9
        have k11 : N2 w7.heap.size b3 (.slice a3 l3 c3) wr.drew := k11
        have hc : Below wr.heap.size wr wr.drew := (Below.refl _ _).drew
        have hb := b124 (i := i) (a := A) (by have := HA31.out; rw [HAB.out.1] at this; exact this) hi400
        have HBD : Hid (((A * 10 ^ i : Nat) : Int).natAbs < B32 ^ 124 ∧ ((10 ^ i : Nat) : Int).natAbs < B32 ^ 124 ∧ (10 : Int).natAbs < B32 ^ 124) := Lib.hid ⟨by rw [Int.natAbs_natCast]; exact hb.1, by rw [Int.natAbs_natCast]; exact hb.2.1, hb.2.2⟩
        clear hb
        go_wp2_with fail
        have z0 := k7.c0
        have z1 := k7.c1
        have z2 := k9.c0
        have z3 := k9.c1
        go_region_with (first | (go_at_call 62; (with_reducible refine (nfromInt_any HI10.out _).mono ?_); rintro e wx ⟨vx, rfl, hvx, hbx⟩; have k7 := k7.below hbx; have k9 := k9.below hbx; have k11 := k11.below hbx; have hc := hc.trans (hbx.mono hc.size); have u0 := k7.c0; have u1 := k7.c1; have u2 := k9.c0; have u3 := k9.c1; (try have hP := hP.below hbx)) | (go_at_call 72; (with_reducible refine (nmul_any (HA.out.below hc) hvx (by decide) HBD.out.1 HBD.out.2.2).mono ?_); rintro e wp ⟨vp, rfl, hP, hbp⟩; have k7 := k7.below hbp; have k9 := k9.below hbp; have k11 := k11.below hbp; have hc := hc.trans (hbp.mono hc.size); have u0 := k7.c0; have u1 := k7.c1; have u2 := k9.c0; have u3 := k9.c1) | (go_at_call 72; (with_reducible refine (nmul_any (HDD.out.below hc) hvx (by decide) HBD.out.2.1 HBD.out.2.2).mono ?_); rintro e wq ⟨vq, rfl, hQ, hbq⟩; have k7 := k7.below hbq; have k9 := k9.below hbq; have k11 := k11.below hbq; have hc := hc.trans (hbq.mono hc.size); have u0 := k7.c0; have u1 := k7.c1; have u2 := k9.c0; have u3 := k9.c1; have hP := hP.below hbq; obtain ⟨pb, pa, pl, pc, rfl, ep, hpn⟩ := hP.op; obtain ⟨qb, qa, ql, qc, rfl, eq, hqn⟩ := hQ.op; clear ep hpn eq hqn; have d0 := k7.f 0; have d1 := k7.f 1; have d2 := k9.f 0; have d3 := k9.f 1) | fail)
        all_goals
          obtain ⟨WW, hWW⟩ : ∃ WW, (((wq.setCell ⟨w2.heap.size, 0, none⟩ (.bool pb)).setCell ⟨w2.heap.size, 1, none⟩ (.slice pa pl pc)).setCell ⟨w4.heap.size, 0, none⟩ (.bool qb)).setCell ⟨w4.heap.size, 1, none⟩ (.slice qa ql qc) = WW := ⟨_, rfl⟩
          rw [hWW]
          have cbp : Cb (.slice pa pl pc) := Cb.sl _ _ _
          have cbq : Cb (.slice qa ql qc) := Cb.sl _ _ _
          have HREL := Lib.hid (show DotRel w1 w2.heap.size w4.heap.size w7.heap.size b3 (.slice a3 l3 c3) A B j (gk - 1) (.int .i64 ((i + 1 : Nat) : Int)) WW from by
            refine ⟨i + 1, by omega, rfl, ?_, pb, pa, pl, pc, qb, qa, ql, qc, ?_, ?_, ?_, ?_, ?_, ?_⟩
            · rw [← hWW]; exact Below.sn2 (Below.sn2 (HB.out.trans (hc.mono HB.out.size)) hg7 pb (.slice pa pl pc)) hg9 qb (.slice qa ql qc)
            · rw [← hWW]; exact (k7.st pb cbp).o2 h79 qb (.slice qa ql qc)
            · rw [← hWW]; exact (k9.o2 h79.symm pb (.slice pa pl pc)).st qb cbq
            · rw [← hWW]; exact (k11.o2 h711.symm pb (.slice pa pl pc)).o2 h911.symm qb (.slice qa ql qc)
            · rw [← hWW, Nat.pow_succ, ← Nat.mul_assoc, Int.natCast_mul]; exact NumV.sn2 (k9.o2 h79.symm pb (.slice pa pl pc)) cbq (NumV.sn2 k7 cbp hP)
            · rw [← hWW, Nat.pow_succ, Int.natCast_mul]; exact NumV.sn2 (k9.o2 h79.symm pb (.slice pa pl pc)) cbq (NumV.sn2 k7 cbp hQ)
            · rw [← hWW]; exact NumV.sn2 (k9.o2 h79.symm pb (.slice pa pl pc)) cbq (NumV.sn2 k7 cbp (HB3.out.below hc)))
          clear k7 k9 k11 hc hP hQ hvx hbx hbp hbq cbp cbq hWW
          go_wp2_with fail
          go_roundg (gk - 1)
          case rel => exact HREL.out
          case measure => omega
      · have hij2 : i = j := by omega
        subst hij2
        have y0 := k7.c0
        have y1 := k7.c1
        have y2 := k9.c0
        have y3 := k9.c1
        have y4 := k11.c0
        have y5 := k11.c1
        have f0 := k7.f 0
        have f1 := k7.f 1
        have HK := Lib.hid (And.intro k7 (And.intro k9 k11))
        have HBB : Hid (((A * 10 ^ i : Nat) : Int).natAbs < B32 ^ 124 ∧ ((B : Nat) : Int).natAbs < B32 ^ 124) := Lib.hid ⟨by rw [Int.natAbs_natCast, ← HAB.out.1]; exact HBK.out.1, by
          rw [Int.natAbs_natCast, ← HAB.out.2]
          have := HB31.out
          rw [b64_32 31] at this
          exact Nat.lt_of_lt_of_le this (Nat.pow_le_pow_right (by decide) (by decide))⟩
        clear k7 k9 k11
        go_wp2_with fail
        refine (nadd_any HA.out HB3.out (by decide) HBB.out.1 HBB.out.2).mono ?_
        rintro e ws ⟨vs, rfl, hvs, hbs⟩
        obtain ⟨bs, asu, ls, cs, rfl, es, hsn⟩ := hvs.op
        have k7 := HK.out.1.below hbs
        have k9 := HK.out.2.1.below hbs
        have k11 := HK.out.2.2.below hbs
        obtain ⟨WS, hWS⟩ : ∃ WS, (ws.setCell ⟨w2.heap.size, 0, none⟩ (.bool bs)).setCell ⟨w2.heap.size, 1, none⟩ (.slice asu ls cs) = WS := ⟨_, rfl⟩
        have cbs : Cb (.slice asu ls cs) := Cb.sl _ _ _
        have j7 : N2 w2.heap.size bs (.slice asu ls cs) WS := by rw [← hWS]; exact k7.st bs cbs
        have j9 : N2 w4.heap.size bD (.slice aD lD cD) WS := by rw [← hWS]; exact k9.o2 h79.symm bs (.slice asu ls cs)
        have HSUM : Hid (((A * 10 ^ i : Nat) : Int) + ((B : Nat) : Int) = ((dec (m.data.toList.take k ++ m.data.toList.drop (k + 1)) : Nat) : Int)) := Lib.hid (by
          rw [dec_append, HDL.out, HAB.out.1, HAB.out.2, Int.natCast_add])
        have HA := Lib.hid (show NumV WS (.agg #[.bool bs, .slice asu ls cs]) ((dec (m.data.toList.take k ++ m.data.toList.drop (k + 1)) : Nat) : Int) from by rw [← HSUM.out, ← hWS]; exact NumV.sn2 k7 cbs hvs)
        have HND := Lib.hid (show NumV WS (.agg #[.bool bD, .slice aD lD cD]) ((10 ^ i : Nat) : Int) from by rw [← hWS]; exact NumV.sn2 k7 cbs (HDD.out.below hbs))
        have HB := Lib.hid (show Below w1.heap.size w1 WS from by rw [← hWS]; exact Below.sn2 (below_trans HB.out hbs) hg7 bs (.slice asu ls cs))
        have z4 := k7.f 0
        have z5 := k7.f 1
        have z6 := k7.c0
        have z7 := k7.c1
        clear hbs y0 y1 y2 y3 y4 y5 f0 f1 HK k7 k9 k11 es hsn hvs
        have y0 := j7.c0
        have y1 := j7.c1
        have y2 := j9.c0
        have y3 := j9.c1
        have f0 := j7.f 0
        have f1 := j7.f 1
        have HK := Lib.hid (And.intro j7 j9)
        clear j7 j9
        go_wp2_with fail
        refine (frac_pos (K := 62) HA.out HND.out (by have := HF.out.dpos; omega) (by decide) (by rw [Int.natAbs_natCast]; exact HF.out.n62) (by first | (rw [Int.natAbs_natCast]; exact HF.out.d62) | exact HF.out.d62) (by have := HF.out.eq; exact this)).mono ?_
        rintro e wf ⟨vf, rfl, hvf, hbf⟩
        have HV := Lib.hid hvf
        have HB := Lib.hid (below_trans HB.out hbf)
        clear hvf hbf
        go_wp2_with fail
        refine (textC (K := 62) HV.out (by decide) HF.out.q62 HF.out.S).mono ?_
        rintro e wt ⟨rfl, hbt⟩
        have HB := Lib.hid (below_trans HB.out hbt)
        clear hbt
        go_wp2_with fail
        exact bodyPost_ret (v := .tuple #[.string S, .int .i64 0]) (by simp [results, Tryz.results22, go_sem]) rfl (paE_ok HB.out HF.out.u HF.out.dpos HF.out.eq HF.out.S)
  · have hml : m.size ≤ 400 := by rw [← hm, ByteArray.size_extract]; omega
    have hi1 : (1 : Int) ≤ (s.size : Int) := by omega
    obtain ⟨tb, htb⟩ : ∃ t, m.extract (k + 1) m.size = t := ⟨_, rfl⟩
    have htbl : tb.data.toList = m.data.toList.drop (k + 1) := by
      rw [← htb]; simp
      rw [List.take_of_length_le (by rw [List.length_drop, ← Lib.size_eq]; omega)]
    have htbs : tb.size ≤ 1000000 := by rw [← htb, ByteArray.size_extract]; omega
    have HDJ := Lib.hid (fun w => digits_at htbs (by rw [htbl]; exact HJ.out) w)
    have hk4 : (k : Int) < (m.size : Int) := by omega
    have hk5 : (k : Int) + 1 ≤ (m.size : Int) := by omega
    have hk6 : (0 : Int) ≤ (k : Int) + 1 := by omega
    have e2 : ((k : Int) + 1).toNat = k + 1 := by omega
    have hj3 : j ≤ 400 := by omega
    have hjn : ¬ (j : Int) = 0 := by omega
    have hjz : ((j : Int) == 0) = false := by rw [beq_eq_false_iff_ne]; exact hjn
    have hjl2 : ¬ (k : Int) + 1 + (j : Int) < (m.size : Int) := by omega
    have HFB := Lib.hid (fun w => nfd_at htbs htbl HFD.out w)
    clear htbl htbs
    have HD := Lib.hid (fun w => digits_at (show m.size ≤ 1000000 by omega) hk w)
    obtain ⟨ta, hta⟩ : ∃ t, m.extract 0 k = t := ⟨_, rfl⟩
    have hkl : k ≤ m.size := by have := hk.1; rw [← Lib.size_eq] at this; exact this
    have htl : ta.data.toList = m.data.toList.take k := by rw [← hta]; simp
    have hts : ta.size ≤ 1000000 := by rw [← hta, ByteArray.size_extract]; omega
    have HFA := Lib.hid (fun w => nfd_at hts htl HFK.out w)
    have hk1 : (0 : Int) ≤ (k : Int) := by omega
    have hk2 : (k : Int) ≤ (m.size : Int) := by omega
    have hk3 : k ≤ 400 := by omega
    have HI1 : Hid (IsS 1) := Lib.hid ⟨by decide, by decide⟩
    clear hk htl hts
    go_enter Tryz.func22, Tryz.ntmps22
    go_wp2_with fail
    refine (HD.out _).mono ?_
    rintro e w1 ⟨rfl, rfl⟩
    clear HD
    go_wp2_with fail
    refine (HFA.out _).mono ?_
    rintro e w2 ⟨v2, rfl, hv2, hb2⟩
    obtain ⟨b1, a1, l1, c1, rfl, e1, h1⟩ := hv2.op
    obtain ⟨w3, hw3, hb3, k7, hz3⟩ := nbox1 w2 #[.bool b1, .slice a1 l1 c1] 30 (cb2 b1 h1.cb)
    have k7 : N2 w2.heap.size b1 (.slice a1 l1 c1) w3 := k7
    have HA := Lib.hid (hv2.below hb3)
    have HC1 : Hid (Cb (.slice a1 l1 c1)) := Lib.hid h1.cb
    have HB := Lib.hid (below_trans hb2 hb3)
    have hg7 : w1.heap.size ≤ w2.heap.size := hb2.size
    have hg37 : w2.heap.size < w3.heap.size := by omega
    clear e1 h1 hv2 hb2 hb3 HFA hz3
    go_wp2_with fail
    refine (nfromInt_any HI1.out _).mono ?_
    rintro e w4 ⟨v4, rfl, hv4, hb4⟩
    obtain ⟨b2, a2, l2, c2, rfl, e2, h2⟩ := hv4.op
    obtain ⟨w5, hw5, hb5, k9, hz5⟩ := nbox1 w4 #[.bool b2, .slice a2 l2 c2] 30 (cb2 b2 h2.cb)
    have k9 : N2 w4.heap.size b2 (.slice a2 l2 c2) w5 := k9
    have hb45 := below_trans hb4 hb5
    have k7 := k7.below hb45
    have HA := Lib.hid (HA.out.below hb45)
    have HN9 := Lib.hid (hv4.below hb5)
    have HB := Lib.hid (below_trans HB.out hb45)
    have hg4 := hb4.size
    have hg9 : w1.heap.size ≤ w4.heap.size := by omega
    have h79 : w2.heap.size ≠ w4.heap.size := by omega
    have y0 := k7.c0
    have y1 := k7.c1
    have y2 := k9.c0
    have y3 := k9.c1
    have f0 := k7.f 0
    have f1 := k7.f 1
    have HK := Lib.hid (And.intro k7 k9)
    clear e2 h2 hv4 hb4 hb5 hb45 hz5 k7 k9
    have HC2 : Hid (Cb (.slice a2 l2 c2)) := Lib.hid (Cb.sl _ _ _)
    go_wp2_with fail
    refine (HDJ.out _).mono ?_
    rintro e w6 ⟨rfl, rfl⟩
    clear HDJ
    go_wp2_with fail
    refine (HFB.out _).mono ?_
    rintro e w7 ⟨v7, rfl, hv7, hb7⟩
    obtain ⟨b3, a3, l3, c3, rfl, e3, h3⟩ := hv7.op
    obtain ⟨w8, hw8, hb8, k11, hz8⟩ := nbox1 w7 #[.bool b3, .slice a3 l3 c3] 30 (cb2 b3 h3.cb)
    have k11 : N2 w7.heap.size b3 (.slice a3 l3 c3) w8 := k11
    have hb78 := below_trans hb7 hb8
    have k7 := HK.out.1.below hb78
    have k9 := HK.out.2.below hb78
    have HA := Lib.hid (HA.out.below hb78)
    have HN9 := Lib.hid (HN9.out.below hb78)
    have HNB := Lib.hid (hv7.below hb8)
    have HB := Lib.hid (below_trans HB.out hb78)
    have hlt9 : w4.heap.size < w7.heap.size := Nat.lt_of_lt_of_le (World.block_lt_of_cell? _ _ y2) hb7.size
    have h911 : w4.heap.size ≠ w7.heap.size := by omega
    have h711 : w2.heap.size ≠ w7.heap.size := by omega
    have hg11 : w1.heap.size ≤ w7.heap.size := by omega
    clear y0 y1 y2 y3 f0 f1 HK
    have y0 := k7.c0
    have y1 := k7.c1
    have y2 := k9.c0
    have y3 := k9.c1
    have y4 := k11.c0
    have y5 := k11.c1
    have f0 := k7.f 0
    have f1 := k7.f 1
    have f2 := k9.f 0
    have f3 := k9.f 1
    have HK := Lib.hid (And.intro k7 (And.intro k9 k11))
    clear hb7 e3 h3 hv7 hb8 hb78 hz8 k7 k9 k11 HFB
    have HBK := Lib.hid (b124 (i := j) (show dec (m.data.toList.take k) < B64 ^ 31 from Nat.lt_trans (dec_lt HFK.out.1) (p31 (by rw [List.length_take]; omega))) hj3)
    have HA31 := Lib.hid (show dec (m.data.toList.take k) < B64 ^ 31 from Nat.lt_trans (dec_lt HFK.out.1) (p31 (by rw [List.length_take]; omega)))
    have HB31 := Lib.hid (show dec (m.data.toList.drop (k + 1)) < B64 ^ 31 from Nat.lt_trans (dec_lt HFD.out.1) (p31 (by rw [List.length_drop, ← Lib.size_eq]; omega)))
    have HDL := Lib.hid (show (m.data.toList.drop (k + 1)).length = j by rw [List.length_drop, ← Lib.size_eq]; omega)
    obtain ⟨A, hA⟩ : ∃ A, dec (m.data.toList.take k) = A := ⟨_, rfl⟩
    obtain ⟨B, hB⟩ : ∃ B, dec (m.data.toList.drop (k + 1)) = B := ⟨_, rfl⟩
    have HAB := Lib.hid (And.intro hA hB)
    have HST := Lib.hid (show DotRel w1 w2.heap.size w4.heap.size w7.heap.size b3 (.slice a3 l3 c3) A B j j (.int .i64 0) w8 from
      ⟨0, by omega, rfl, HB.out, b1, a1, l1, c1, b2, a2, l2, c2, HK.out.1, HK.out.2.1, HK.out.2.2, by rw [Nat.pow_zero, Nat.mul_one, ← hA]; exact HA.out, by rw [Nat.pow_zero]; exact HN9.out, by rw [← hB]; exact HNB.out⟩)
    have HI10 : Hid (IsS 10) := Lib.hid ⟨by decide, by decide⟩
    clear hA hB y0 y1 y2 y3 y4 y5 f0 f1 f2 f3 HK HA HN9 HNB HB
    go_wp2_with fail
    go_loopg [13] j (fun g x wr => DotRel w1 w2.heap.size w4.heap.size w7.heap.size b3 (.slice a3 l3 c3) A B j g x wr)
    case atStart => exact HST.out
    case round =>
      clear HST
      obtain ⟨i, hij, rfl, hbw, bA, aA, lA, cA, bD, aD, lD, cD, k7, k9, k11, hA, hD, hB3⟩ := hrel
      have HB := Lib.hid hbw
      have HA := Lib.hid hA
      have HDD := Lib.hid hD
      have HB3 := Lib.hid hB3
      clear hbw hA hD hB3
      have hi400 : i ≤ 400 := by omega
      rcases Nat.lt_or_ge i j with hlt | hge
      · have y0 := k7.c0
        have y1 := k7.c1
        have y2 := k9.c0
        have y3 := k9.c1
        have k7 : N2 w2.heap.size bA (.slice aA lA cA) wr.drew := k7
        have k9 : N2 w4.heap.size bD (.slice aD lD cD) wr.drew := k9
        have k11 : N2 w7.heap.size b3 (.slice a3 l3 c3) wr.drew := k11
        have hc : Below wr.heap.size wr wr.drew := (Below.refl _ _).drew
        have hb := b124 (i := i) (a := A) (by have := HA31.out; rw [HAB.out.1] at this; exact this) hi400
        have HBD : Hid (((A * 10 ^ i : Nat) : Int).natAbs < B32 ^ 124 ∧ ((10 ^ i : Nat) : Int).natAbs < B32 ^ 124 ∧ (10 : Int).natAbs < B32 ^ 124) := Lib.hid ⟨by rw [Int.natAbs_natCast]; exact hb.1, by rw [Int.natAbs_natCast]; exact hb.2.1, hb.2.2⟩
        clear hb
        go_wp2_with fail
        have z0 := k7.c0
        have z1 := k7.c1
        have z2 := k9.c0
        have z3 := k9.c1
        go_region_with (first | (go_at_call 62; (with_reducible refine (nfromInt_any HI10.out _).mono ?_); rintro e wx ⟨vx, rfl, hvx, hbx⟩; have k7 := k7.below hbx; have k9 := k9.below hbx; have k11 := k11.below hbx; have hc := hc.trans (hbx.mono hc.size); have u0 := k7.c0; have u1 := k7.c1; have u2 := k9.c0; have u3 := k9.c1; (try have hP := hP.below hbx)) | (go_at_call 72; (with_reducible refine (nmul_any (HA.out.below hc) hvx (by decide) HBD.out.1 HBD.out.2.2).mono ?_); rintro e wp ⟨vp, rfl, hP, hbp⟩; have k7 := k7.below hbp; have k9 := k9.below hbp; have k11 := k11.below hbp; have hc := hc.trans (hbp.mono hc.size); have u0 := k7.c0; have u1 := k7.c1; have u2 := k9.c0; have u3 := k9.c1) | (go_at_call 72; (with_reducible refine (nmul_any (HDD.out.below hc) hvx (by decide) HBD.out.2.1 HBD.out.2.2).mono ?_); rintro e wq ⟨vq, rfl, hQ, hbq⟩; have k7 := k7.below hbq; have k9 := k9.below hbq; have k11 := k11.below hbq; have hc := hc.trans (hbq.mono hc.size); have u0 := k7.c0; have u1 := k7.c1; have u2 := k9.c0; have u3 := k9.c1; have hP := hP.below hbq; obtain ⟨pb, pa, pl, pc, rfl, ep, hpn⟩ := hP.op; obtain ⟨qb, qa, ql, qc, rfl, eq, hqn⟩ := hQ.op; clear ep hpn eq hqn; have d0 := k7.f 0; have d1 := k7.f 1; have d2 := k9.f 0; have d3 := k9.f 1) | fail)
        all_goals
          obtain ⟨WW, hWW⟩ : ∃ WW, (((wq.setCell ⟨w2.heap.size, 0, none⟩ (.bool pb)).setCell ⟨w2.heap.size, 1, none⟩ (.slice pa pl pc)).setCell ⟨w4.heap.size, 0, none⟩ (.bool qb)).setCell ⟨w4.heap.size, 1, none⟩ (.slice qa ql qc) = WW := ⟨_, rfl⟩
          rw [hWW]
          have cbp : Cb (.slice pa pl pc) := Cb.sl _ _ _
          have cbq : Cb (.slice qa ql qc) := Cb.sl _ _ _
          have HREL := Lib.hid (show DotRel w1 w2.heap.size w4.heap.size w7.heap.size b3 (.slice a3 l3 c3) A B j (gk - 1) (.int .i64 ((i + 1 : Nat) : Int)) WW from by
            refine ⟨i + 1, by omega, rfl, ?_, pb, pa, pl, pc, qb, qa, ql, qc, ?_, ?_, ?_, ?_, ?_, ?_⟩
            · rw [← hWW]; exact Below.sn2 (Below.sn2 (HB.out.trans (hc.mono HB.out.size)) hg7 pb (.slice pa pl pc)) hg9 qb (.slice qa ql qc)
            · rw [← hWW]; exact (k7.st pb cbp).o2 h79 qb (.slice qa ql qc)
            · rw [← hWW]; exact (k9.o2 h79.symm pb (.slice pa pl pc)).st qb cbq
            · rw [← hWW]; exact (k11.o2 h711.symm pb (.slice pa pl pc)).o2 h911.symm qb (.slice qa ql qc)
            · rw [← hWW, Nat.pow_succ, ← Nat.mul_assoc, Int.natCast_mul]; exact NumV.sn2 (k9.o2 h79.symm pb (.slice pa pl pc)) cbq (NumV.sn2 k7 cbp hP)
            · rw [← hWW, Nat.pow_succ, Int.natCast_mul]; exact NumV.sn2 (k9.o2 h79.symm pb (.slice pa pl pc)) cbq (NumV.sn2 k7 cbp hQ)
            · rw [← hWW]; exact NumV.sn2 (k9.o2 h79.symm pb (.slice pa pl pc)) cbq (NumV.sn2 k7 cbp (HB3.out.below hc)))
          clear k7 k9 k11 hc hP hQ hvx hbx hbp hbq cbp cbq hWW
          go_wp2_with fail
          go_roundg (gk - 1)
          case rel => exact HREL.out
          case measure => omega
      · have hij2 : i = j := by omega
        subst hij2
        have y0 := k7.c0
        have y1 := k7.c1
        have y2 := k9.c0
        have y3 := k9.c1
        have y4 := k11.c0
        have y5 := k11.c1
        have f0 := k7.f 0
        have f1 := k7.f 1
        have HK := Lib.hid (And.intro k7 (And.intro k9 k11))
        have HBB : Hid (((A * 10 ^ i : Nat) : Int).natAbs < B32 ^ 124 ∧ ((B : Nat) : Int).natAbs < B32 ^ 124) := Lib.hid ⟨by rw [Int.natAbs_natCast, ← HAB.out.1]; exact HBK.out.1, by
          rw [Int.natAbs_natCast, ← HAB.out.2]
          have := HB31.out
          rw [b64_32 31] at this
          exact Nat.lt_of_lt_of_le this (Nat.pow_le_pow_right (by decide) (by decide))⟩
        clear k7 k9 k11
        go_wp2_with fail
        refine (nadd_any HA.out HB3.out (by decide) HBB.out.1 HBB.out.2).mono ?_
        rintro e ws ⟨vs, rfl, hvs, hbs⟩
        obtain ⟨bs, asu, ls, cs, rfl, es, hsn⟩ := hvs.op
        have k7 := HK.out.1.below hbs
        have k9 := HK.out.2.1.below hbs
        have k11 := HK.out.2.2.below hbs
        obtain ⟨WS, hWS⟩ : ∃ WS, (ws.setCell ⟨w2.heap.size, 0, none⟩ (.bool bs)).setCell ⟨w2.heap.size, 1, none⟩ (.slice asu ls cs) = WS := ⟨_, rfl⟩
        have cbs : Cb (.slice asu ls cs) := Cb.sl _ _ _
        have j7 : N2 w2.heap.size bs (.slice asu ls cs) WS := by rw [← hWS]; exact k7.st bs cbs
        have j9 : N2 w4.heap.size bD (.slice aD lD cD) WS := by rw [← hWS]; exact k9.o2 h79.symm bs (.slice asu ls cs)
        have HSUM : Hid (((A * 10 ^ i : Nat) : Int) + ((B : Nat) : Int) = ((dec (m.data.toList.take k ++ m.data.toList.drop (k + 1)) : Nat) : Int)) := Lib.hid (by
          rw [dec_append, HDL.out, HAB.out.1, HAB.out.2, Int.natCast_add])
        have HA := Lib.hid (show NumV WS (.agg #[.bool bs, .slice asu ls cs]) ((dec (m.data.toList.take k ++ m.data.toList.drop (k + 1)) : Nat) : Int) from by rw [← HSUM.out, ← hWS]; exact NumV.sn2 k7 cbs hvs)
        have HND := Lib.hid (show NumV WS (.agg #[.bool bD, .slice aD lD cD]) ((10 ^ i : Nat) : Int) from by rw [← hWS]; exact NumV.sn2 k7 cbs (HDD.out.below hbs))
        have HB := Lib.hid (show Below w1.heap.size w1 WS from by rw [← hWS]; exact Below.sn2 (below_trans HB.out hbs) hg7 bs (.slice asu ls cs))
        have z4 := k7.f 0
        have z5 := k7.f 1
        have z6 := k7.c0
        have z7 := k7.c1
        clear hbs y0 y1 y2 y3 y4 y5 f0 f1 HK k7 k9 k11 es hsn hvs
        have y0 := j7.c0
        have y1 := j7.c1
        have y2 := j9.c0
        have y3 := j9.c1
        have f0 := j7.f 0
        have f1 := j7.f 1
        have HK := Lib.hid (And.intro j7 j9)
        clear j7 j9
        go_wp2_with fail
        refine (nneg_any HA.out).mono ?_
        rintro e wn ⟨vn, rfl, hvn, hbn⟩
        obtain ⟨bn, an, ln, cn, rfl, en, hn⟩ := hvn.op
        have k7 := HK.out.1.below hbn
        have k9 := HK.out.2.below hbn
        have z0 := k7.c0
        have z1 := k7.c1
        have z2 := k9.c0
        have z3 := k9.c1
        have g0 := k7.f 0
        have g1 := k7.f 1
        obtain ⟨WN, hWN⟩ : ∃ WN, (wn.setCell ⟨w2.heap.size, 0, none⟩ (.bool bn)).setCell ⟨w2.heap.size, 1, none⟩ (.slice an ln cn) = WN := ⟨_, rfl⟩
        have j7 : N2 w2.heap.size bn (.slice an ln cn) WN := by rw [← hWN]; exact k7.st bn hn.cb
        have j9 : N2 w4.heap.size bD (.slice aD lD cD) WN := by rw [← hWN]; exact k9.o2 h79.symm bn (.slice an ln cn)
        have x0 := j7.c0
        have x1 := j7.c1
        have x2 := j9.c0
        have x3 := j9.c1
        have HAN := Lib.hid (show NumV WN (.agg #[.bool bn, .slice an ln cn]) (-(dec (m.data.toList.take k ++ m.data.toList.drop (k + 1)) : Nat)) from by rw [← hWN]; exact NumV.sn2 k7 hn.cb hvn)
        have HND := Lib.hid (show NumV WN (.agg #[.bool bD, (.slice aD lD cD)]) ((10 ^ i : Nat) : Int) from by rw [← hWN]; exact NumV.sn2 k7 hn.cb (HND.out.below hbn))
        have HB := Lib.hid (show Below w1.heap.size w1 WN from by rw [← hWN]; exact Below.sn2 (below_trans HB.out hbn) hg7 bn (.slice an ln cn))
        clear en hn hvn hbn k7 k9 j7 j9 y0 y1 y2 y3 f0 f1 HK
        go_wp2_with fail
        refine (frac_pos (K := 62) HAN.out HND.out (by have := HF.out.dpos; omega) (by decide) (by rw [Int.natAbs_neg, Int.natAbs_natCast]; exact HF.out.n62) (by first | (rw [Int.natAbs_natCast]; exact HF.out.d62) | exact HF.out.d62) (by have := HF.out.eq; exact this)).mono ?_
        rintro e wf ⟨vf, rfl, hvf, hbf⟩
        have HV := Lib.hid hvf
        have HB := Lib.hid (below_trans HB.out hbf)
        clear hvf hbf
        go_wp2_with fail
        refine (textC (K := 62) HV.out (by decide) HF.out.q62 HF.out.S).mono ?_
        rintro e wt ⟨rfl, hbt⟩
        have HB := Lib.hid (below_trans HB.out hbt)
        clear hbt
        go_wp2_with fail
        exact bodyPost_ret (v := .tuple #[.string S, .int .i64 0]) (by simp [results, Tryz.results22, go_sem]) rfl (paE_ok HB.out HF.out.u HF.out.dpos HF.out.eq HF.out.S)
end Go.Proofs.YtekghemhccfhkaaGreatDoor
namespace Go.Proofs.YtekghemhccfhkaaGreatDoor
open Go.RowKit Go.Big
/-- Parse of the reference, for a text that is not empty. -/
theorem nparse_any {s m : ByteArray} {neg : Bool} (hs : Beg s m neg) (w : World) : Calls Tryz.prog 22 #[.string s] w (PaE neg m w) := by
  have hml : m.size ≤ 400 := by
    rcases hs.sign with ⟨_, rfl, _⟩ | ⟨_, hm, _⟩
    · exact hs.le
    · rw [← hm, ByteArray.size_extract]; have := hs.le; omega
  have hsz : m.data.toList.length = m.size := (Lib.size_eq m).symm
  obtain ⟨k, hk⟩ := dg_ex m.data.toList
  rcases Nat.eq_zero_or_pos k with rfl | h0
  · exact nparse_zero hs hk w
  · have hfk : FdOk (m.data.toList.take k) := ⟨hk.2.1, fun e => by have := congrArg List.length e; rw [List.length_take, List.length_nil] at this; have := hk.1; omega⟩
    rcases Nat.lt_or_ge k m.size with hkm | hkm
    · have hkl : k < m.data.toList.length := by omega
      obtain ⟨j, hj⟩ := dg_ex (m.data.toList.drop (k + 1))
      obtain ⟨hbad, hgood⟩ := u_sep hk h0 hkl hj
      have hjl := hj.1
      rw [List.length_drop, hsz] at hjl
      have hmk : m.data.toList[k] = m[k] := by
        have h4 := Lib.data_getElem? m k hkm
        rw [List.getElem?_eq_getElem hkl] at h4
        exact Option.some.inj h4
      by_cases hj0 : j = 0
      · exact nparse_bad1 hs hk h0 hkm hfk hj hj0 (hbad (.inl hj0)) w
      · by_cases hjn : k + 1 + j < m.size
        · exact nparse_bad2 hs hk h0 hkm hfk hj (by omega) hjn (hbad (.inr (by omega))) w
        · obtain ⟨fa, fb, h47, h46⟩ := hgood (by omega) (by omega)
          rw [hmk] at h47 h46
          have toI : ∀ {x : UInt8} {c : Nat}, c < 256 → (((x.toNat : Nat) : Int) = (c : Int) ↔ x = UInt8.ofNat c) := fun {x c} hc => by
            constructor
            · intro h
              have : x.toNat = c := by omega
              rw [← this]; simp
            · rintro rfl
              rw [UInt8.toNat_ofNat', Nat.mod_eq_of_lt hc]
          by_cases c7 : m[k] = 47
          · have hc7 : ((m[k].toNat : Nat) : Int) = 47 := (toI (c := 47) (by decide)).2 c7
            have hu := h47 c7
            rcases Nat.eq_zero_or_pos (dec (m.data.toList.drop (k + 1))) with hz | hz
            · rw [hz] at hu
              exact nparse_slash0 hs hk h0 hkm hfk hj (by omega) (by omega) fb hc7 hz hu w
            · obtain ⟨S, q, hf⟩ := fin_ex (neg := neg) hml hu hz
              exact nparse_slash hs hk h0 hkm hfk hj (by omega) (by omega) fb hc7 hf w
          · by_cases c6 : m[k] = 46
            · have hc6 : ((m[k].toNat : Nat) : Int) = 46 := (toI (c := 46) (by decide)).2 c6
              obtain ⟨S, q, hf⟩ := fin_ex (neg := neg) hml (h46 c6) (Nat.pow_pos (by decide))
              exact nparse_dot hs hk h0 hkm hfk hj (by omega) (by omega) fb hc6 hf w
            · exact nparse_other hs hk h0 hkm hfk hj (by omega) (by omega) fb (fun e => c7 ((toI (c := 47) (by decide)).1 e)) (fun e => c6 ((toI (c := 46) (by decide)).1 e)) (u_other hk hkl (by rw [hmk]; exact c7) (by rw [hmk]; exact c6)) w
    · have hkm2 : m.size = k := by have := hk.1; omega
      have htk : m.data.toList.take k = m.data.toList := List.take_of_length_le (by omega)
      have hu : UForm m.data.toList (dec (m.data.toList.take k)) 1 := .inl ⟨by rw [← htk]; exact hfk, by rw [htk], rfl⟩
      obtain ⟨S, q, hf⟩ := fin_ex (neg := neg) hml hu (by decide)
      exact nparse_whole hs hk h0 hkm2 hfk hf w
set_option maxRecDepth 100000 in
set_option maxHeartbeats 4000000 in
/-- The empty text. -/
theorem nparse_empty (w : World) : Calls Tryz.prog 22 #[.string ⟨#[]⟩] w (PaE false ⟨#[]⟩ w) := by
  have hk : DgN (⟨#[]⟩ : ByteArray).data.toList 0 := ⟨Nat.zero_le _, fun _ h => by simp at h, fun h => by simp at h⟩
  have HD := Lib.hid (fun w => digits_at (s := ⟨#[]⟩) (by decide) hk w)
  have HU := Lib.hid (u_zero hk)
  clear hk
  go_enter Tryz.func22, Tryz.ntmps22
  go_wp2_with fail
  refine (HD.out _).mono ?_
  rintro e w1 ⟨rfl, rfl⟩
  go_wp2_with fail
  exact bodyPost_ret (v := .tuple #[.string ⟨#[]⟩, .int .i64 6]) (by simp [results, Tryz.results22, go_sem]) rfl (paE_none (Below.refl _ _) HU.out)
/-- What both functions return. -/
theorem paE_det (neg : Bool) (m : ByteArray) : ∃ (S : ByteArray) (c : Int), ∀ {w w' : World} {e : Ending}, PaE neg m w e w' → e = .returned (.tuple #[.string S, .int .i64 c]) ∧ Below w.heap.size w w' := by
  by_cases h : ∃ n d, UForm m.data.toList n d
  · obtain ⟨n, d, hu⟩ := h
    rcases Nat.eq_zero_or_pos d with rfl | hd
    · refine ⟨⟨#[]⟩, 5, fun {w w' e} hp => ⟨?_, hp.1⟩⟩
      rcases hp.2 with ⟨n', d', q', hu', hd', _⟩ | ⟨n', _, he⟩ | ⟨hno, _⟩
      · have := (u_uniq hu hu').2; omega
      · exact he
      · exact absurd hu (hno _ _)
    · obtain ⟨q, hq⟩ := exists_rat (signed neg n) hd
      refine ⟨rs q, 0, fun {w w' e} hp => ⟨?_, hp.1⟩⟩
      rcases hp.2 with ⟨n', d', q', hu', hd', hq', he⟩ | ⟨n', hu', _⟩ | ⟨hno, _⟩
      · obtain ⟨rfl, rfl⟩ := u_uniq hu hu'
        obtain ⟨a1, a2⟩ := rat_reduce hd hq
        obtain ⟨b1, b2⟩ := rat_reduce hd hq'
        have : q = q' := Rat.ext (a1.trans b1.symm) (a2.trans b2.symm)
        rw [this]; exact he
      · have := (u_uniq hu hu').2; omega
      · exact absurd hu (hno _ _)
  · refine ⟨⟨#[]⟩, 6, fun {w w' e} hp => ⟨?_, hp.1⟩⟩
    rcases hp.2 with ⟨n', d', q', hu', _⟩ | ⟨n', hu', _⟩ | ⟨_, he⟩
    · exact absurd ⟨_, _, hu'⟩ h
    · exact absurd ⟨_, _, hu'⟩ h
    · exact he
end Go.Proofs.YtekghemhccfhkaaGreatDoor
namespace Go.Proofs.YtekghemhccfhkaaGreatDoor
open Go.RowKit Go.Big
theorem beg_ex {s : ByteArray} (hl : s.size ≤ 400) (hne : s ≠ ⟨#[]⟩) : ∃ m neg, Beg s m neg ∧ (unsign s.data.toList).1 = m.data.toList ∧ (unsign s.data.toList).2 = neg := by
  obtain ⟨he, hn⟩ := ne_nil hne
  cases hs : s.data.toList with
  | nil => exact absurd hs hn
  | cons x l =>
    have hsz : s.size = l.length + 1 := by have := Lib.size_eq s; rw [hs] at this; simpa using this
    have hp : 0 < s.size := by omega
    have hx : s[0]'hp = x := by
      have h4 := Lib.data_getElem? s 0 hp
      rw [hs] at h4
      exact (Option.some.inj h4).symm
    by_cases h45 : x = 45
    · subst h45
      refine ⟨s.extract 1 s.size, true, ⟨he, hp, hl, .inr ⟨rfl, rfl, by rw [hx]; rfl⟩⟩, ?_, rfl⟩
      show l = _
      simp [hs]
      rw [List.take_of_length_le (by omega)]
    · refine ⟨s, false, ⟨he, hp, hl, .inl ⟨rfl, rfl, ?_⟩⟩, ?_, ?_⟩
      · rw [hx]
        intro h
        apply h45
        have : x.toNat = 45 := by omega
        exact UInt8.toNat_inj.1 this
      · rw [hs]
        unfold unsign
        split
        · next e => simp at e; exact absurd e.1 h45
        · rfl
      · unfold unsign
        split
        · next e => simp at e; exact absurd e.1 h45
        · rfl
def RetTE (w : World) (S : ByteArray) (c : Int) (e : Ending) (w' : World) : Prop := e = .returned (.tuple #[.string S, .int .i64 c]) ∧ Below w.heap.size w w'
theorem parse_pair {s : ByteArray} (hl : s.size ≤ 400) : ∃ S c, (∀ w, TabsA w → Calls Tryz.prog 21 #[.string s] w (RetTE w S c)) ∧ ∀ w, Calls Tryz.prog 22 #[.string s] w (RetTE w S c) := by
  have key : ∀ {m : ByteArray} {neg : Bool}, (unsign s.data.toList).1 = m.data.toList → (unsign s.data.toList).2 = neg → m.size ≤ 400 → (∀ w, Calls Tryz.prog 22 #[.string s] w (PaE neg m w)) →
      ∃ S c, (∀ w, TabsA w → Calls Tryz.prog 21 #[.string s] w (RetTE w S c)) ∧ ∀ w, Calls Tryz.prog 22 #[.string s] w (RetTE w S c) := fun {m neg} h1 h2 hml h3 => by
    obtain ⟨S, c, hd⟩ := paE_det neg m
    refine ⟨S, c, fun w hT => ?_, fun w => (h3 w).mono fun _ _ hp => hd hp⟩
    refine (parse_any (R := UForm m.data.toList) (K := 31) (by omega) h1 h2 (fun w => parseUnsigned_any m (by omega) w) (fun n d hu => u_bound (by rw [← Lib.size_eq]; exact hml) hu) (by decide) hT).mono fun _ _ hp => hd hp
  by_cases hne : s = ⟨#[]⟩
  · subst hne
    exact key (m := ⟨#[]⟩) (neg := false) rfl rfl (by decide) nparse_empty
  · obtain ⟨m, neg, hb, h1, h2⟩ := beg_ex hl hne
    refine key h1 h2 ?_ (fun w => nparse_any hb w)
    rcases hb.sign with ⟨_, rfl, _⟩ | ⟨_, hm, _⟩
    · exact hl
    · rw [← hm, ByteArray.size_extract]; omega
set_option maxRecDepth 100000 in
set_option maxHeartbeats 4000000 in
theorem rationalParse_walk (s : ByteArray) {w : World} (hT : TabsA w) : Calls Tryz.prog 4 #[.string s] w (RetBool w true) := by
  have HT := Lib.hid hT
  clear hT
  rcases Nat.lt_or_ge 400 s.size with hs | hs
  · go_enter Tryz.func4, Tryz.ntmps4
    go_wp2_with fail
    refine (awake_any HT.out).mono ?_
    rintro e w2 ⟨rfl, hb2⟩
    have HB := Lib.hid hb2
    clear hb2
    go_wp2_with fail
    go_ret
    exact ⟨rfl, HB.out⟩
  · obtain ⟨S, c, hp⟩ := parse_pair hs
    have HP := Lib.hid hp
    clear hp
    go_enter Tryz.func4, Tryz.ntmps4
    go_wp2_with fail
    refine (HP.out.1 _ HT.out).mono ?_
    rintro e w3 ⟨rfl, hb3⟩
    have HT := Lib.hid (HT.out.below hb3)
    have HB := Lib.hid hb3
    clear hb3
    go_wp2_with fail
    refine (HP.out.2 _).mono ?_
    rintro e w4 ⟨rfl, hb4⟩
    have HT := Lib.hid (HT.out.below hb4)
    have HB := Lib.hid (below_trans HB.out hb4)
    clear hb4
    go_wp2_with fail
    refine (awake_any HT.out).mono ?_
    rintro e w5 ⟨rfl, hb5⟩
    have HB := Lib.hid (below_trans HB.out hb5)
    clear hb5
    go_wp2_with fail
    go_ret
    exact ⟨rfl, HB.out⟩
end Go.Proofs.YtekghemhccfhkaaGreatDoor
