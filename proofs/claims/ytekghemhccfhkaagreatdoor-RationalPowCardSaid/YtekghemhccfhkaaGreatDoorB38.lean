/-
  Walks of the program's functions: TextBig.
-/
import Derived.Test.YtekghemhccfhkaaGreatDoorB32
import Derived.Test.YtekghemhccfhkaaGreatDoorB37
namespace Go.Proofs.YtekghemhccfhkaaGreatDoor
open Go.RowKit Go.Big
theorem string_at62 {v : Value} {n : Int} {l : List UInt8} {w : World} (h : IntV w v n) (hT : TabsA w) (hn : n.natAbs < B64 ^ 62) (hl : itext n = l) : Calls Tryz.prog 60 #[v] w (RetStr w l) := by rw [← hl]; exact string_any62 h hT hn
theorem b62 : B64 ^ 62 ≤ 10 ^ 1195 := Nat.le_of_ble_eq_true (by kernel_rfl)
theorem itext_len62 {n : Int} (h : n.natAbs < B64 ^ 62) : (itext n).length ≤ 1300 := by
  have := dd_len (k := 1195) (by decide) (Nat.lt_of_lt_of_le h b62)
  unfold itext
  split
  · rw [List.length_cons]; omega
  · omega
set_option maxRecDepth 100000 in
set_option maxHeartbeats 4000000 in
theorem textF_any62 {v : Value} {q : Rat} {w : World} (h : FracV w v q) (hT : TabsA w) (sq : Sz 62 q) : Calls Tryz.prog 68 #[v] w (RetStr w (rtext q)) := by
  obtain ⟨a, p, b, r, rfl, ha, hb⟩ := h
  obtain ⟨w0, hw0, hs, k0, hz⟩ := box1 w #[.int .i64 a, .pointer p, .int .i64 b, .pointer r] 65 (ip4 _ _ _ _)
  have k0 : K4 (w.heap.size) a p b r w0 := k0
  have HA := Lib.hid ha
  have HB := Lib.hid hb
  have HS := Lib.hid (And.intro (show q.num.natAbs < B64 ^ 62 ∧ q.den < B64 ^ 62 from sq) hT)
  clear ha hb hz sq hT
  have ek00 := k0.c0
  have ek01 := k0.c1
  have ek02 := k0.c2
  have ek03 := k0.c3
  by_cases hd : q.den = 1
  · have HD := Lib.hid hd
    clear hd
    go_enter Tryz.func68, Tryz.ntmps68
    go_wp2_with fail
    refine (isOne_at (HB.out.below hs) (b := true) (by rw [one_den]; exact decide_eq_true HD.out)).mono ?_
    rintro e w1 ⟨rfl, hb1⟩
    have k0 := k0.below hb1
    have hs := hs.trans (hb1.mono hs.size)
    clear ek00 ek01 ek02 ek03
    have ek00 := k0.c0
    have ek01 := k0.c1
    have ek02 := k0.c2
    have ek03 := k0.c3
    go_wp2_with fail
    refine (string_any62 (HA.out.below hs) (HS.out.2.below hs) HS.out.1.1).mono ?_
    rintro e w2 ⟨rfl, hb2⟩
    have k0 := k0.below hb2
    have hs := hs.trans (hb2.mono hs.size)
    have HF := Lib.hid hs
    clear k0 hs hb1 hb2 ek00 ek01 ek02 ek03
    go_wp2_with fail
    go_ret
    exact ⟨by unfold rtext; rw [if_pos HD.out, List.append_nil]; rfl, HF.out⟩
  · have HD := Lib.hid hd
    clear hd
    go_enter Tryz.func68, Tryz.ntmps68
    go_wp2_with fail
    refine (isOne_at (HB.out.below hs) (b := false) (by rw [one_den]; exact decide_eq_false HD.out)).mono ?_
    rintro e w1 ⟨rfl, hb1⟩
    have k0 := k0.below hb1
    have hs := hs.trans (hb1.mono hs.size)
    clear ek00 ek01 ek02 ek03
    have ek00 := k0.c0
    have ek01 := k0.c1
    have ek02 := k0.c2
    have ek03 := k0.c3
    go_wp2_with fail
    have k0 : K4 (w.heap.size) a p b r w1.drew := k0
    have hs : Below w.heap.size w w1.drew := hs.drew
    obtain ⟨tn, htn⟩ : ∃ tn, itext q.num = tn := ⟨_, rfl⟩
    obtain ⟨td, htd⟩ : ∃ td, itext (q.den : Int) = td := ⟨_, rfl⟩
    have HTN := Lib.hid htn
    have HTD := Lib.hid htd
    have hln : tn.length ≤ 1300 := by rw [← htn]; exact itext_len62 HS.out.1.1
    have hld : td.length ≤ 1300 := by rw [← htd]; exact itext_len62 (by rw [Int.natAbs_natCast]; exact HS.out.1.2)
    have hc1 : ¬ (9223372036854775807 < tn.length + 1) := by omega
    have hc2 : ¬ (9223372036854775807 < tn.length + 1 + td.length) := by omega
    clear htn htd
    go_region_held3 (fun w' => w'.cell? ⟨w.heap.size, 0, none⟩ = some (.int .i64 a) ∧ w'.cell? ⟨w.heap.size, 1, none⟩ = some (.pointer p) ∧ w'.cell? ⟨w.heap.size, 2, none⟩ = some (.int .i64 b) ∧ w'.cell? ⟨w.heap.size, 3, none⟩ = some (.pointer r) ∧ Below w.heap.size w w') (first | (with_reducible exact ⟨k0.c0, k0.c1, k0.c2, k0.c3, hs⟩) | fail) (first | (go_at_call 60; (with_reducible refine (string_at62 (HA.out.below hs) (HS.out.2.below hs) HS.out.1.1 HTN.out).mono ?_); rintro e w2 ⟨rfl, hb2⟩; have k0 := k0.below hb2; have hs := hs.trans (hb2.mono hs.size)) | (go_at_call 60; (with_reducible refine (string_at62 (HB.out.below hs) (HS.out.2.below hs) (by rw [Int.natAbs_natCast]; exact HS.out.1.2) HTD.out).mono ?_); rintro e w3 ⟨rfl, hb3⟩; have k0 := k0.below hb3; have hs := hs.trans (hb3.mono hs.size)) | fail)
    have HF := Lib.hid hs
    clear k0 hs hb1 hb2 hb3 ek00 ek01 ek02 ek03
    go_wp2_with fail
    go_ret
    refine ⟨?_, HF.out⟩
    have e : rtext q = tn ++ 47 :: td := by unfold rtext; rw [if_neg HD.out, HTN.out, ← HTD.out]; congr 1
    rw [e]
    exact congrArg (fun t => Ending.returned (.string t)) (ByteArray.ext (by simp))
end Go.Proofs.YtekghemhccfhkaaGreatDoor
