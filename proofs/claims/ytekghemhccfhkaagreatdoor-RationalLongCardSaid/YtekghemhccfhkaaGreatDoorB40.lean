/-
  Walks of the program's functions: Kara.
-/
import Derived.Test.YtekghemhccfhkaaGreatDoorB13
import Derived.Test.YtekghemhccfhkaaGreatDoorB09
import Derived.Deep.RegionHeld3
namespace Go.Big
open Go Go.RowKit
theorem kara {a0 a1 b0 b1 H : Nat} : a0 * b0 + H * H * (a1 * b1) + H * ((a0 + a1) * (b0 + b1) - a0 * b0 - a1 * b1) = (a0 + H * a1) * (b0 + H * b1) := by
  have h1 : (a0 + a1) * (b0 + b1) = a0 * b0 + a1 * b1 + (a0 * b1 + a1 * b0) := by grind
  have h2 : (a0 + a1) * (b0 + b1) - a0 * b0 - a1 * b1 = a0 * b1 + a1 * b0 := by omega
  rw [h2]; grind
theorem low_high (a H : Nat) : a % H + H * (a / H) = a := by rw [Nat.add_comm]; exact Nat.div_add_mod a H
/-- Products of shorter numbers. -/
def TIH (N : Nat) : Prop := ∀ {va vb : Value} {m n p q : Nat} {w : World}, NatV w .u64 B64 va m → NatV w .u64 B64 vb n → m < B64 ^ p → n < B64 ^ q → p + q < N →
  Calls Go.Proofs.Tryz.prog 139 #[va, vb] w (RetNatN w (m * n))
end Go.Big
namespace Go.Proofs.YtekghemhccfhkaaGreatDoor
open Go.RowKit Go.Big
/-- A number comes back in a block of its own. -/
def RetNatF (w : World) (n : Nat) (e : Ending) (w' : World) : Prop := ∃ v, e = .returned v ∧ NatV w' .u64 B64 v n ∧ (∃ k cap, v = .slice (some ⟨w.heap.size, 0, none⟩) k cap) ∧ Below w.heap.size w w'
set_option maxRecDepth 100000 in
set_option maxHeartbeats 400000 in
theorem minus_fresh_core (ao bo : Option Addr) (capa capb : Nat) (la lb : List Nat) (w : World) (m n : Nat) (sa : SlA w .u64 ao capa la) (sb : SlA w .u64 bo capb lb)
    (wa : Wd B64 la) (wb : Wd B64 lb) (va : val B64 la = m) (vb : val B64 lb = n) (hge : lb.length ≤ la.length) (hle : n ≤ m) :
    Calls Tryz.prog 193 #[.slice ao la.length capa, .slice bo lb.length capb] w (RetNatF w (m - n)) := by
  have hK := sa.len_le
  have hmk := mk64 la.length la.length rfl hK w
  have hr0 : isRow (w.alloc (.cells (cellsOf .u64 (zeros la.length)) 71)) w.heap.size 71 .u64 (zeros la.length) := isRow_alloc _ _ _ _
  have hb0 : Below w.heap.size w (w.alloc (.cells (cellsOf .u64 (zeros la.length)) 71)) := (Below.refl _ _).alloc (Nat.le_refl _) _
  generalize hW : w.alloc (.cells (cellsOf .u64 (zeros la.length)) 71) = W at *
  clear hW
  have hcp := copy64 (off := 0) (dLen := la.length) (dCap := la.length) (cap := capa) hr0 (sa.below hb0) (by omega) (by rw [zeros_len]; omega) 3
  rw [zeros_fill, Nat.sub_self, show zeros 0 = [] from rfl, List.append_nil] at hcp
  have hr1 : isRow (wput W w.heap.size .u64 la) w.heap.size 71 .u64 la := hr0.put _
  have hb1 : Below w.heap.size w (wput W w.heap.size .u64 la) := hb0.put (Nat.le_refl _) _ _
  generalize hW1 : wput W w.heap.size .u64 la = W1 at *
  clear hW1
  have hblk : lb ≠ [] → ∀ p, bo = some p → p.block ≠ w.heap.size := fun h p hp => by have := SlA.blk sb h p hp; omega
  have hcall := subFrom_at (n := la.length) (off := 0) (capa := la.length) (capb := capb) (pre := []) (post := []) (a := la) (b := lb) (by simpa using hr1) wa wb (sb.below hb1) hblk hge hK rfl rfl rfl
  have H := Lib.hid hcall
  clear hcall hblk
  go_enter Tryz.func193, Tryz.ntmps193
  go_wp2_with fail
  refine H.out.mono ?_
  rintro e w2 ⟨cur, c, rfl, rfl, had⟩
  clear H
  simp only [List.nil_append, List.append_nil]
  have hlen : cur.length = la.length := had.len
  have hr2 := hr1.put cur
  have hb2 := hb1.put (Nat.le_refl _) .u64 cur
  have hv := minus_val wa had va vb hle
  have hwd := had.wd
  have hs2 := hr2.sl (cap := la.length) (by omega) (by omega)
  have htr := trim_at hs2 hlen
  have H := Lib.hid htr
  have HL := Lib.hid hlen
  clear htr had hlen
  go_wp2_with fail
  refine H.out.mono ?_
  rintro e w3 ⟨n', hn', rfl, rfl, hz, hvv⟩
  have HV := Lib.hid hvv
  have Hv := Lib.hid hv
  clear hvv hv H
  go_wp2_with fail
  go_ret
  refine ⟨_, rfl, ?_, ⟨_, _, rfl⟩, hb2⟩
  have := NatV.mk hs2 hwd hn' hz
  rwa [HV.out, Hv.out] at this

theorem minus_fresh {va vb : Value} {m n : Nat} {w : World} (ha : NatV w .u64 B64 va m) (hb : NatV w .u64 B64 vb n) (hle : n ≤ m) :
    Calls Tryz.prog 193 #[va, vb] w (RetNatF w (m - n)) := by
  obtain ⟨ao, capa, la, rfl, sa, wa, na, ea⟩ := ha
  obtain ⟨bo, capb, lb, rfl, sb, wb, nb, eb⟩ := hb
  refine minus_fresh_core ao bo capa capb la lb w m n sa sb wa wb ea eb ?_ hle
  rcases Nat.lt_or_ge la.length lb.length with h | h
  · have := val_lt_of_len (B := B64) (by decide) wa nb h; omega
  · exact h
set_option maxRecDepth 100000 in
set_option maxHeartbeats 1000000 in
theorem halves_core {ao bo : Option Addr} {capa capb : Nat} {la lb : List Nat} {w : World} (sa : SlA w .u64 ao capa la) (sb : SlA w .u64 bo capb lb)
    (wa : Wd B64 la) (wb : Wd B64 lb) (na : Nz la) (nb : Nz lb) (hge : lb.length ≤ la.length) (h100 : 100 ≤ lb.length) (h2 : la.length < 2 * lb.length) (hmax : la.length ≤ 1000000000) (ih : TIH (la.length + lb.length)) :
    Calls Tryz.prog 181 #[.slice ao la.length capa, .slice bo lb.length capb] w (RetNatN w (val B64 la * val B64 lb)) := by
  obtain ⟨p, hp⟩ : ∃ p, la.length = p := ⟨_, rfl⟩
  obtain ⟨q, hq⟩ : ∃ q, lb.length = q := ⟨_, rfl⟩
  obtain ⟨h, hh⟩ : ∃ h, (p + 1) / 2 = h := ⟨_, rfl⟩
  have hhi : ((p : Int) + 1) / 2 = (h : Int) := by omega
  obtain ⟨A, hA⟩ : ∃ A, val B64 la = A := ⟨_, rfl⟩
  obtain ⟨B, hB⟩ : ∃ B, val B64 lb = B := ⟨_, rfl⟩
  have ha : NatV w .u64 B64 (.slice ao p capa) A := ⟨ao, capa, la, by rw [hp], sa, wa, na, hA⟩
  have hb : NatV w .u64 B64 (.slice bo q capb) B := ⟨bo, capb, lb, by rw [hq], sb, wb, nb, hB⟩
  have hAl : A < B64 ^ p := by rw [← hA, ← hp]; exact val_lt wa
  have hBl : B < B64 ^ q := by rw [← hB, ← hq]; exact val_lt wb
  rw [hp, hq, hA, hB]
  rw [hp, hq] at ih
  have hH : 0 < B64 ^ h := Nat.pow_pos (by decide)
  have b1 : A % B64 ^ h < B64 ^ h := Nat.mod_lt _ hH
  have b2 : B % B64 ^ h < B64 ^ h := Nat.mod_lt _ hH
  have b3 : A / B64 ^ h < B64 ^ h := by
    rw [Nat.div_lt_iff_lt_mul hH, ← Nat.pow_add]
    exact Nat.lt_of_lt_of_le hAl (Nat.pow_le_pow_right (by decide) (by omega))
  have b4 : B / B64 ^ h < B64 ^ h := by
    rw [Nat.div_lt_iff_lt_mul hH, ← Nat.pow_add]
    exact Nat.lt_of_lt_of_le hBl (Nat.pow_le_pow_right (by decide) (by omega))
  have two : ∀ {x y : Nat}, x < B64 ^ h → y < B64 ^ h → x + y < B64 ^ (h + 1) := fun {x y} hx hy => by
    rw [Nat.pow_succ]
    exact Nat.lt_of_lt_of_le (show x + y < B64 ^ h * 2 by omega) (Nat.mul_le_mul_left _ (by decide))
  have HS := Lib.hid (And.intro b1 (And.intro b2 (And.intro b3 (And.intro b4 (And.intro (two b1 b3) (two b2 b4))))))
  have HA := Lib.hid ha
  have HB := Lib.hid hb
  have hhm : h ≤ 1099511627776 := by omega
  have hpm : p ≤ 1000000000 := by omega
  have hqm : q ≤ 1000000000 := by omega
  have HL := Lib.hid (And.intro hge (And.intro h100 (And.intro h2 (And.intro hp (And.intro hq hh)))))
  have HAB := Lib.hid (And.intro hAl hBl)
  have i1 : h + h < p + q := by omega
  have i2 : (h + 1) + (h + 1) < p + q := by omega
  clear sa sb wa wb na nb hA hB ha hb hAl hBl b1 b2 b3 b4 two hge h100 h2 hmax hp hq hh hH
  go_enter Tryz.func181, Tryz.ntmps181
  go_wp2_with fail
  refine (low_any (k := h) HA.out hhm).mono ?_
  rintro e w1 ⟨v1, rfl, hv1, hb1⟩
  have HBl := Lib.hid hb1
  have HX := Lib.hid hv1
  clear hb1 hv1
  go_wp2_with fail
  refine (low_any (k := h) (HB.out.below HBl.out) hhm).mono ?_
  rintro e w2 ⟨v2, rfl, hv2, hb2⟩
  have HY := Lib.hid hv2
  have HX := Lib.hid (HX.out.below hb2)
  have HBl := Lib.hid (HBl.out.trans (hb2.mono HBl.out.size))
  clear hb2 hv2
  go_wp2_with fail
  refine (ih HX.out HY.out HS.out.1 HS.out.2.1 i1).mono ?_
  rintro e w3 ⟨vL, rfl, hvL, -, hb3⟩
  have HLow := Lib.hid hvL
  have HBl := Lib.hid (HBl.out.trans (hb3.mono HBl.out.size))
  clear hb3 hvL HX HY
  go_wp2_with fail
  refine (high_any (k := h) (HA.out.below HBl.out) hhm).mono ?_
  rintro e w4 ⟨v4, rfl, hv4, hb4⟩
  have HX := Lib.hid hv4
  have HLow := Lib.hid (HLow.out.below hb4)
  have HBl := Lib.hid (HBl.out.trans (hb4.mono HBl.out.size))
  clear hb4 hv4
  go_wp2_with fail
  refine (high_any (k := h) (HB.out.below HBl.out) hhm).mono ?_
  rintro e w5 ⟨v5, rfl, hv5, hb5⟩
  have HY := Lib.hid hv5
  have HX := Lib.hid (HX.out.below hb5)
  have HLow := Lib.hid (HLow.out.below hb5)
  have HBl := Lib.hid (HBl.out.trans (hb5.mono HBl.out.size))
  clear hb5 hv5
  go_wp2_with fail
  refine (ih HX.out HY.out HS.out.2.2.1 HS.out.2.2.2.1 i1).mono ?_
  rintro e w6 ⟨vH, rfl, hvH, -, hb6⟩
  have HHigh := Lib.hid hvH
  have HLow := Lib.hid (HLow.out.below hb6)
  have HBl := Lib.hid (HBl.out.trans (hb6.mono HBl.out.size))
  clear hb6 hvH HX HY
  go_wp2_with fail
  refine (low_any (k := h) (HA.out.below HBl.out) hhm).mono ?_
  rintro e w7 ⟨v7, rfl, hv7, hb7⟩
  have HLow := Lib.hid (HLow.out.below hb7)
  have HHigh := Lib.hid (HHigh.out.below hb7)
  have HBl := Lib.hid (HBl.out.trans (hb7.mono HBl.out.size))
  have HX := Lib.hid hv7
  clear hb7 hv7
  go_wp2_with fail
  refine (high_any (k := h) (HA.out.below HBl.out) hhm).mono ?_
  rintro e w8 ⟨v8, rfl, hv8, hb8⟩
  have HLow := Lib.hid (HLow.out.below hb8)
  have HHigh := Lib.hid (HHigh.out.below hb8)
  have HX := Lib.hid (HX.out.below hb8)
  have HBl := Lib.hid (HBl.out.trans (hb8.mono HBl.out.size))
  have HY := Lib.hid hv8
  clear hb8 hv8
  go_wp2_with fail
  refine (plus_any HX.out HY.out (show h < 1099511627776 by omega) HS.out.1 HS.out.2.2.1).mono ?_
  rintro e w9 ⟨v9, rfl, hv9, hb9⟩
  have HLow := Lib.hid (HLow.out.below hb9)
  have HHigh := Lib.hid (HHigh.out.below hb9)
  have HBl := Lib.hid (HBl.out.trans (hb9.mono HBl.out.size))
  have HX := Lib.hid hv9
  clear hb9 hv9 HY
  go_wp2_with fail
  refine (low_any (k := h) (HB.out.below HBl.out) hhm).mono ?_
  rintro e w10 ⟨v10, rfl, hv10, hb10⟩
  have HLow := Lib.hid (HLow.out.below hb10)
  have HHigh := Lib.hid (HHigh.out.below hb10)
  have HX := Lib.hid (HX.out.below hb10)
  have HBl := Lib.hid (HBl.out.trans (hb10.mono HBl.out.size))
  have HY := Lib.hid hv10
  clear hb10 hv10
  go_wp2_with fail
  refine (high_any (k := h) (HB.out.below HBl.out) hhm).mono ?_
  rintro e w11 ⟨v11, rfl, hv11, hb11⟩
  have HLow := Lib.hid (HLow.out.below hb11)
  have HHigh := Lib.hid (HHigh.out.below hb11)
  have HX := Lib.hid (HX.out.below hb11)
  have HY := Lib.hid (HY.out.below hb11)
  have HBl := Lib.hid (HBl.out.trans (hb11.mono HBl.out.size))
  have HZ := Lib.hid hv11
  clear hb11 hv11
  go_wp2_with fail
  refine (plus_any HY.out HZ.out (show h < 1099511627776 by omega) HS.out.2.1 HS.out.2.2.2.1).mono ?_
  rintro e w12 ⟨v12, rfl, hv12, hb12⟩
  have HLow := Lib.hid (HLow.out.below hb12)
  have HHigh := Lib.hid (HHigh.out.below hb12)
  have HX := Lib.hid (HX.out.below hb12)
  have HBl := Lib.hid (HBl.out.trans (hb12.mono HBl.out.size))
  have HY := Lib.hid hv12
  clear hb12 hv12 HZ
  go_wp2_with fail
  refine (ih HX.out HY.out HS.out.2.2.2.2.1 HS.out.2.2.2.2.2 i2).mono ?_
  rintro e w13 ⟨vM, rfl, hvM, -, hb13⟩
  have HLow := Lib.hid (HLow.out.below hb13)
  have HHigh := Lib.hid (HHigh.out.below hb13)
  have HBl := Lib.hid (HBl.out.trans (hb13.mono HBl.out.size))
  have HMix := Lib.hid hvM
  clear hb13 hvM HX HY
  obtain ⟨lo, clo, ll, rfl, sl, wl, nl, el, lenl⟩ := natv_len HLow.out (show A % B64 ^ h * (B % B64 ^ h) < B64 ^ (h + h) by rw [Nat.pow_add]; exact Nat.mul_lt_mul'' HS.out.1 HS.out.2.1)
  obtain ⟨ho, cho, lh, rfl, sh, wh, nh, eh, lenh⟩ := natv_len HHigh.out (show A / B64 ^ h * (B / B64 ^ h) < B64 ^ ((p - h) + (q - h)) by
    have hH : 0 < B64 ^ h := Nat.pow_pos (by decide)
    have hp1 : h ≤ p := by have := HL.out; omega
    have hq1 : h ≤ q := by have := HL.out; omega
    rw [Nat.pow_add]
    refine Nat.mul_lt_mul'' ?_ ?_
    · rw [Nat.div_lt_iff_lt_mul hH, ← Nat.pow_add, Nat.sub_add_cancel hp1]; exact HAB.out.1
    · rw [Nat.div_lt_iff_lt_mul hH, ← Nat.pow_add, Nat.sub_add_cancel hq1]; exact HAB.out.2)
  have HLM := Lib.hid (And.intro el eh)
  obtain ⟨W, hvb, hbb, hrw⟩ : ∃ W, w13.alloc (.cells (cellsOf .u64 (zeros (p + q))) 71) = W ∧ Below w13.heap.size w13 W ∧ isRow W w13.heap.size 71 .u64 (zeros (p + q)) := ⟨_, rfl, (Below.refl _ _).alloc (Nat.le_refl _) _, isRow_alloc _ _ _ _⟩
  have hmk := mk64 ((p : Int) + (q : Int)) (p + q) (by omega) (by omega) w13
  rw [hvb] at hmk
  obtain ⟨n, hn⟩ : ∃ n, p + q = n := ⟨_, rfl⟩
  have hni : (p : Int) + (q : Int) = (n : Int) := by omega
  rw [hn] at hmk hrw
  rw [hni] at hmk
  have hll : ll.length ≤ n := by have := HL.out; omega
  have hlh : lh.length ≤ n - 2 * h := by have := HL.out; omega
  have h2n : 2 * h < n := by have := HL.out; omega
  have sl1 := sl.below hbb
  have sh1 := sh.below hbb
  have hcp1 := fun ty => copy64 (ty := ty) (off := 0) (dLen := n) (dCap := n) hrw sl1 hll (by rw [zeros_len]; omega)
  have e1 : (zeros n).take 0 ++ (ll ++ (zeros n).drop (0 + ll.length)) = ll ++ zeros (n - ll.length) := by simp [zeros]
  rw [e1] at hcp1
  have hr1 := hrw.put (ll ++ zeros (n - ll.length))
  have sh2 := sh.below (hbb.put (Nat.le_refl w13.heap.size) .u64 (ll ++ zeros (n - ll.length)))
  have hsl2 : ∀ w, (Instr.slice 108 (.slice (some ⟨w13.heap.size, 0, none⟩) n n) (some (.int .i64 (2 * (h : Int)))) none none).run Tryz.prog w = .ok (.slice (some ⟨w13.heap.size, 2 * h, none⟩) (n - 2 * h) (n - 2 * h)) w := by
    intro w
    have := from64 (some ⟨w13.heap.size, 0, none⟩) n n (2 * h) (by omega) w
    rw [show ((2 * h : Nat) : Int) = 2 * (h : Int) by omega] at this
    rw [this]; unfold dropA
    rw [if_neg (by omega)]
    have h0 : ¬ 2 * h = 0 := by have := HL.out; omega
    unfold Addr.add
    simp [h0]
  have hcp2 := fun ty => copy64 (ty := ty) (off := 2 * h) (dLen := n - 2 * h) (dCap := n - 2 * h) hr1 sh2 hlh (by rw [List.length_append, zeros_len]; omega)
  have hl2h : ll.length ≤ 2 * h := by omega
  obtain ⟨R, hR⟩ : ∃ R, (ll ++ zeros (2 * h - ll.length)) ++ (lh ++ zeros (n - 2 * h - lh.length)) = R := ⟨_, rfl⟩
  have e2 : (ll ++ zeros (n - ll.length)).take (2 * h) ++ (lh ++ (ll ++ zeros (n - ll.length)).drop (2 * h + lh.length)) = R := by
    rw [← hR, List.take_append, List.take_of_length_le hl2h, List.drop_append, List.drop_eq_nil_of_le (by omega)]
    simp only [zeros, List.take_replicate, List.drop_replicate, List.nil_append, List.append_assoc]
    rw [show min (2 * h - ll.length) (n - ll.length) = 2 * h - ll.length by omega, show n - ll.length - (2 * h + lh.length - ll.length) = n - 2 * h - lh.length by omega]
  rw [e2] at hcp2
  have hr2 := hr1.put R
  have hRl : R.length = n := by rw [← hR]; simp [zeros]; omega
  have hRw : Wd B64 R := by rw [← hR]; exact (wl.append (zeros_wd (by decide) _)).append (wh.append (zeros_wd (by decide) _))
  have hRv : val B64 R = val B64 ll + B64 ^ (2 * h) * val B64 lh := by
    rw [← hR, val_append, val_append, val_append, zeros_val, zeros_val, List.length_append, zeros_len]
    simp only [Nat.mul_zero, Nat.add_zero]
    congr 3; omega
  obtain ⟨W3, hW3⟩ : ∃ W3, wput (wput W w13.heap.size .u64 (ll ++ zeros (n - ll.length))) w13.heap.size .u64 R = W3 := ⟨_, rfl⟩
  rw [hW3] at hcp2 hr2
  have hb3w : Below w13.heap.size w13 W3 := by rw [← hW3]; exact (hbb.put (Nat.le_refl _) _ _).put (Nat.le_refl _) _ _
  obtain ⟨W2, hW2⟩ : ∃ W2, wput W w13.heap.size .u64 (ll ++ zeros (n - ll.length)) = W2 := ⟨_, rfl⟩
  rw [hW2] at hcp1 hcp2
  have hg3 : w13.heap.size < W3.heap.size := hr2.lt
  have HR := Lib.hid (And.intro hRl (And.intro hRw hRv))
  have HROW := Lib.hid (show isRow W3.drew w13.heap.size 71 .u64 (R.take h ++ (R.drop h ++ [])) from by rw [List.append_nil, List.take_append_drop]; exact hr2)
  have hsl3 : ∀ w, (Instr.slice 108 (.slice (some ⟨w13.heap.size, 0, none⟩) n n) (some (.int .i64 (h : Int))) none none).run Tryz.prog w = .ok (.slice (some ⟨w13.heap.size, h, none⟩) (n - h) (n - h)) w := by
    intro w
    rw [from64 (some ⟨w13.heap.size, 0, none⟩) n n h (by omega) w]; unfold dropA
    rw [if_neg (by omega)]
    have h0 : ¬ h = 0 := by have := HL.out; omega
    unfold Addr.add
    simp [h0]
  have hbd : Below w13.heap.size w13 W3.drew := hb3w.drew
  have HM3 := Lib.hid (HMix.out.below hbd)
  have HL3 := Lib.hid (HLow.out.below hbd)
  have HH3 := Lib.hid (HHigh.out.below hbd)
  have HB3 := Lib.hid (HBl.out.trans (hb3w.mono HBl.out.size))
  have hkara := kara (a0 := A % B64 ^ h) (a1 := A / B64 ^ h) (b0 := B % B64 ^ h) (b1 := B / B64 ^ h) (H := B64 ^ h)
  rw [low_high, low_high] at hkara
  obtain ⟨M, hM⟩ : ∃ M, (A % B64 ^ h + A / B64 ^ h) * (B % B64 ^ h + B / B64 ^ h) = M := ⟨_, rfl⟩
  obtain ⟨X, hX⟩ : ∃ X, A % B64 ^ h * (B % B64 ^ h) = X := ⟨_, rfl⟩
  obtain ⟨Y, hY⟩ : ∃ Y, A / B64 ^ h * (B / B64 ^ h) = Y := ⟨_, rfl⟩
  have hle1 : X + Y ≤ M := by
    rw [← hM, ← hX, ← hY]
    have h1 : (A % B64 ^ h + A / B64 ^ h) * (B % B64 ^ h + B / B64 ^ h) = A % B64 ^ h * (B % B64 ^ h) + A / B64 ^ h * (B / B64 ^ h) + (A % B64 ^ h * (B / B64 ^ h) + A / B64 ^ h * (B % B64 ^ h)) := by grind
    omega
  rw [hM, hX, hY] at hkara
  rw [hM] at HM3
  rw [hX] at HL3
  rw [hY] at HH3
  have hx1 : X ≤ M := by omega
  have hy1 : Y ≤ M - X := by omega
  have hABn : A * B < B64 ^ n := by rw [← hn, Nat.pow_add]; exact Nat.mul_lt_mul'' HAB.out.1 HAB.out.2
  have hmid : M - X - Y < B64 ^ (n - h) := by
    have hH : 0 < B64 ^ h := Nat.pow_pos (by decide)
    refine Nat.lt_of_mul_lt_mul_left (a := B64 ^ h) ?_
    rw [← Nat.pow_add, show h + (n - h) = n by omega]
    omega
  have HKA := Lib.hid (And.intro hkara hABn)
  have HXY := Lib.hid (And.intro hX hY)
  clear hkara hABn hM hX hY hle1 hRl hRw hRv hrw hr1 hr2 sl sh sl1 sh1 sh2 e1 e2 hR hb3w hbb hbd wl wh nl nh el eh HMix HLow HHigh
  have hRh : (R.take h).length = h := by have := HR.out.1; rw [List.length_take]; omega
  have hRd : (R.drop h).length = n - h := by have := HR.out.1; rw [List.length_drop]; omega
  have hRdw : Wd B64 (R.drop h) := HR.out.2.1.drop h
  have hnh : n - h ≤ 1099511627776 := by omega
  have hgd : w13.heap.size < W3.drew.heap.size := hg3
  have hc : Below W3.heap.size W3 W3.drew := (Below.refl _ _).drew
  go_wp2_with fail
  go_region_held3 (fun w' => True) (exact trivial) (first
    | (go_at_call 193; (with_reducible refine (minus_fresh HM3.out HL3.out hx1).mono ?_); rintro e wa ⟨va, rfl, hva, -, hba⟩; have hrow := HROW.out.below hba; have hHa := HH3.out.below hba; have hga := Nat.lt_of_lt_of_le hgd hba.size; have hc := hc.trans (hba.mono hc.size))
    | (go_at_call 193; (with_reducible refine (minus_fresh hva hHa hy1).mono ?_); rintro e wb ⟨vb, rfl, hvb, hfr, hbb⟩; have hrow := hrow.below hbb; have hc := hc.trans (hbb.mono hc.size); obtain ⟨mo, cm, lm, rfl, sm, wm, nm, em, lenm⟩ := natv_len hvb hmid; have hne : lm ≠ [] → ∀ p, mo = some p → p.block ≠ w13.heap.size := fun _ p hp => (by obtain ⟨k, cap, hk⟩ := hfr; simp only [Value.slice.injEq] at hk; rw [hk.1] at hp; simp at hp; rw [← hp]; exact Ne.symm (Nat.ne_of_lt hga)))
    | (go_at_call 213; (with_reducible refine (addTo_at hrow hRdw wm sm hne (by omega) (by omega) hRd hRh rfl).mono ?_); rintro e wc ⟨cur, c, rfl, hwc, hadd⟩) | fail)
  rw [List.append_nil] at hwc
  subst hwc
  have hF : val B64 (R.take h ++ cur) = A * B := by
    have e1 := hadd.eq
    rw [hRd, em] at e1
    have e2 := take_drop_val B64 R h (by have := HR.out.1; omega)
    have e3 := HR.out.2.2
    rw [HLM.out.1, HLM.out.2, HXY.out.1, HXY.out.2, Nat.two_mul, Nat.pow_add] at e3
    have e4 := HKA.out.1
    have e5 := HKA.out.2
    have hpw : B64 ^ h * B64 ^ (n - h) = B64 ^ n := by rw [← Nat.pow_add, show h + (n - h) = n by omega]
    have hcar := hadd.carry
    rw [val_append, hRh]
    rw [e2] at e3
    have e6 : B64 ^ h * (val B64 cur + c * B64 ^ (n - h)) = B64 ^ h * (val B64 (R.drop h) + (M - X - Y)) := by rw [e1]
    rw [Nat.mul_add, Nat.mul_add] at e6
    have e7 : B64 ^ h * (c * B64 ^ (n - h)) = c * B64 ^ n := by rw [← hpw]; grind
    rw [e7] at e6
    have hc01 : c = 0 ∨ c = 1 := by omega
    rcases hc01 with rfl | rfl
    · omega
    · omega
  have hrF : isRow (wput wb w13.heap.size .u64 (R.take h ++ cur)) w13.heap.size 71 .u64 (R.take h ++ cur) := by
    exact hrow.put _
  have hlF : (R.take h ++ cur).length = n := by rw [List.length_append, hRh, hadd.len, hRd]; omega
  have hwF : Wd B64 (R.take h ++ cur) := (HR.out.2.1.take h).append hadd.wd
  have hsF := hrF.sl (cap := n) (by omega) (by omega)
  have HTR := Lib.hid (trim_det_at hsF hlF)
  have hbF : Below w.heap.size w (wput wb w13.heap.size .u64 (R.take h ++ cur)) := by
    exact ((HB3.out.trans (hc.mono HB3.out.size))).put HBl.out.size _ _
  have HFIN := Lib.hid (show RetNatN w (A * B) (.returned (.slice (some ⟨w13.heap.size, 0, none⟩) (tl (R.take h ++ cur) n) n)) (wput wb w13.heap.size .u64 (R.take h ++ cur)) from ⟨_, rfl, natv_trim hsF hwF hlF hF, frs_at HBl.out.size _ _ _, hbF⟩)
  clear hF hrF hlF hwF hsF hbF hadd hrow hc sm
  go_wp2_with fail
  refine HTR.out.mono ?_
  rintro e wz ⟨rfl, rfl⟩
  go_wp2_with fail
  go_ret
  exact HFIN.out
end Go.Proofs.YtekghemhccfhkaaGreatDoor
