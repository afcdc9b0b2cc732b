/-
  Walks of the program's functions: Chunk, RcMath, IsDig.
-/
import Derived.Test.YtekghemhccfhkaaGreatDoorB05
import Derived.Test.YtekghemhccfhkaaGreatDoorB06
import Derived.Lib.Strings
import Derived.Lib.Walk
import Derived.Test.YtekghemhccfhkaaGreatDoorB04
import Derived.Test.YtekghemhccfhkaaGreatDoorB03
namespace Go.Big
open Go
theorem run_mul10 (x : Nat) : Op.intArith .mul .u64 (x : Int) 10 = pure (.int .u64 (mulW x 10 : Nat)) := run_mulW x 10
attribute [go_sem ↓] run_mul10
end Go.Big
namespace Go.Proofs.YtekghemhccfhkaaGreatDoor
open Go.RowKit Go.Big
set_option maxRecDepth 100000 in
set_option maxHeartbeats 1000000 in
/-- readChunk, of at most 19 digits -/
theorem readChunk_any (s : ByteArray) (hd : Dig s.data.toList) (hl : s.size ≤ 19) (w : World) :
    Calls Tryz.prog 149 #[.string s] w fun e w' => e = .returned (.int .u64 (dec s.data.toList)) ∧ w' = w := by
  have hsz : s.data.toList.length = s.size := (Lib.size_eq s).symm
  have HD := Lib.hid hd
  have HS := Lib.hid hsz
  clear hd hsz
  go_enter Tryz.func149, Tryz.ntmps149
  go_wp2_with fail
  go_loopw [3, 7] (fun x y wr => wr = w ∧ ∃ i : Nat, i ≤ s.size ∧ y = .int .i64 i ∧ x = .int .u64 (dec (s.data.toList.take i))) (fun _ y _ => s.size - (intOf y).toNat)
  case atStart => exact ⟨rfl, 0, by omega, rfl, rfl⟩
  case round =>
    obtain ⟨rfl, i, hi, rfl, rfl⟩ := hrel
    by_cases h : i < s.size
    · have hb : s[i] = s.data.toList[i]'(by have := HS.out; omega) := by simp [ByteArray.getElem_eq_getElem_data]
      have hdg := HD.out (s.data.toList[i]'(by have := HS.out; omega)) (List.getElem_mem _)
      have hdt := dec_take s.data.toList i (by have := HS.out; omega)
      have hlt : dec (s.data.toList.take (i + 1)) < 10 ^ 19 := by
        have h1 := dec_lt (l := s.data.toList.take (i + 1)) (fun b hb => HD.out b (List.mem_of_mem_take hb))
        have h2 : 10 ^ (s.data.toList.take (i + 1)).length ≤ 10 ^ 19 := Nat.pow_le_pow_right (by decide) (by rw [List.length_take]; omega)
        omega
      rw [← hb] at hdg hdt
      obtain ⟨d, hde⟩ : ∃ d, s[i].toNat = d + 48 := ⟨s[i].toNat - 48, by omega⟩
      have hdi : ((s[i].toNat : Nat) : Int) = (d : Int) + 48 := by omega
      rw [hde, Nat.add_sub_cancel] at hdt
      rw [hde] at hdg
      obtain ⟨v, hv⟩ : ∃ v, dec (s.data.toList.take i) = v := ⟨_, rfl⟩
      rw [hv] at hdt ⊢
      have e1 : mulW v 10 = v * 10 := mulW_lt' (by omega)
      have e2 : IntKind.u64.wrap ((v : Int) * 10 + (d : Int)) = ((v * 10 + d : Nat) : Int) := by
        rw [show (v : Int) * 10 + (d : Int) = ((v * 10 + d : Nat) : Int) by push_cast; rfl, wrap_nat, Nat.mod_eq_of_lt (by omega)]
      have E2 := Lib.hid e2
      clear e2
      have HDT := Lib.hid hdt
      clear hdt hv hde hb hlt
      go_wp2_with fail
      go_roundw
      case rel => exact ⟨by first | rfl | trivial, i + 1, by omega, rfl, by rw [HDT.out, E2.out]⟩
      case measure => simp [intOf]; omega
    · have he : i = s.size := by omega
      have hf : s.data.toList.take i = s.data.toList := List.take_of_length_le (by have := HS.out; omega)
      rw [hf]
      clear hf
      subst he
      go_wp2_with fail
      go_ret
      exact ⟨rfl, rfl⟩
end Go.Proofs.YtekghemhccfhkaaGreatDoor
namespace Go.Big
open Go
structure RcInv (l p q : List UInt8) (A post : List Nat) (c : Nat) : Prop where
  app : l = p ++ q
  wd : Wd B64 A
  eq : val B64 A = dec p
  lenp : p.length ≤ 19 * A.length
  tot : A.length + post.length = c
  lenq : q.length ≤ 19 * post.length
  dv : p = [] ∨ q.length % 19 = 0
theorem RcInv.start (l : List UInt8) {c : Nat} (hc : l.length ≤ 19 * c) : RcInv l [] l [] (zeros c) c :=
  ⟨rfl, fun _ h => by simp at h, rfl, by simp, by simp [zeros], by simpa [zeros] using hc, .inl rfl⟩
theorem RcInv.step {l p q : List UInt8} {A cur cur2 post : List Nat} {c cc c2 x z : Nat} (h : RcInv l p q A (x :: post) c) (hd : Dig l) (hz : (q.length - 1) % 19 + 1 = z) (hq : q ≠ [])
    (hs : ScInv A 10000000000000000000 A.length cur cc) (ha : Added (cur ++ [cc]) [dec (q.take z)] cur2 c2) : RcInv l (p ++ q.take z) (q.drop z) cur2 post c := by
  have hql : 0 < q.length := List.length_pos_iff.2 hq
  have hl1 := hs.len
  have hl2 := ha.len
  rw [List.length_append, List.length_singleton] at hl2
  have htot := h.tot
  have hlenq := h.lenq
  have hlenp := h.lenp
  rw [List.length_cons] at htot hlenq
  have hzl : z ≤ q.length := by omega
  have htl : (q.take z).length = z := by rw [List.length_take]; omega
  have e1 := hs.eq
  rw [List.take_of_length_le (by omega), List.take_of_length_le (by omega)] at e1
  have e2 := ha.eq
  rw [val_append, List.length_append, List.length_singleton, hl1] at e2
  simp only [val, Nat.mul_zero, Nat.add_zero] at e2
  have hdec : dec (p ++ q.take z) = 10000000000000000000 * dec p + dec (q.take z) := by
    rw [dec_append, htl]
    rcases h.dv with h1 | h1
    · rw [h1, dec_nil]; simp
    · have : z = 19 := by omega
      rw [this, Nat.mul_comm]
  have hlt : dec (p ++ q.take z) < B64 ^ (A.length + 1) := by
    have h1 := dec_lt (l := p ++ q.take z) (fun b hb => hd b (by
      rw [h.app]
      rcases List.mem_append.1 hb with h2 | h2
      · exact List.mem_append_left _ h2
      · exact List.mem_append_right _ (List.mem_of_mem_take h2)))
    rw [List.length_append, htl] at h1
    have h2 : 10 ^ (p.length + z) ≤ 10 ^ (19 * (A.length + 1)) := Nat.pow_le_pow_right (by decide) (by omega)
    have h3 : (10 ^ 19) ^ (A.length + 1) ≤ B64 ^ (A.length + 1) := Nat.pow_le_pow_left (by decide) _
    rw [← Nat.pow_mul] at h3
    omega
  have hval : val B64 cur2 + c2 * B64 ^ (A.length + 1) = dec (p ++ q.take z) := by
    rw [hdec, ← h.eq, e2, ← e1]
    grind
  have hc2 : c2 = 0 := by
    rcases Nat.eq_zero_or_pos c2 with h1 | h1
    · exact h1
    · have := Nat.le_mul_of_pos_left (B64 ^ (A.length + 1)) h1
      omega
  rw [hc2, Nat.zero_mul, Nat.add_zero] at hval
  refine ⟨by rw [List.append_assoc, List.take_append_drop]; exact h.app, ha.wd, hval, by rw [List.length_append, htl, hl2]; omega, by omega, by rw [List.length_drop]; omega, .inr (by rw [List.length_drop]; omega)⟩
end Go.Big
namespace Go.Proofs.YtekghemhccfhkaaGreatDoor
open Go.RowKit Go.Big
def IsDigPost (s : ByteArray) (w : World) (e : Ending) (w' : World) : Prop := ∃ b : Bool, e = .returned (.bool b) ∧ (b = true ↔ Dig s.data.toList ∧ 0 < s.size) ∧ w' = w
set_option maxRecDepth 100000 in
set_option maxHeartbeats 1000000 in
/-- isDigits -/
theorem isDigits_any (s : ByteArray) (hl : s.size ≤ 1099511627776) (w : World) :
    Calls Tryz.prog 148 #[.string s] w (IsDigPost s w) := by
  have hsz : s.data.toList.length = s.size := (Lib.size_eq s).symm
  have HS := Lib.hid hsz
  clear hsz
  go_enter Tryz.func148, Tryz.ntmps148
  go_wp2_with fail
  go_loopw [6] (fun y wr => w = wr ∧ ∃ i : Nat, i ≤ s.size ∧ y = .int .i64 i ∧ Hid (Dig (s.data.toList.take i))) (fun y _ => s.size - (intOf y).toNat)
  case atStart => exact ⟨rfl, 0, by omega, rfl, fun b hb => by simp at hb⟩
  case round =>
    obtain ⟨rfl, i, hi, rfl, hdig⟩ := hrel
    by_cases h : i < s.size
    · have hb : s[i] = s.data.toList[i]'(by have := HS.out; omega) := by simp [ByteArray.getElem_eq_getElem_data]
      have hmem : s[i] ∈ s.data.toList := by rw [hb]; exact List.getElem_mem _
      have hnext : 48 ≤ s[i].toNat ∧ s[i].toNat ≤ 57 → Hid (Dig (s.data.toList.take (i + 1))) := by
        intro hc b hbm
        rw [List.take_succ_eq_append_getElem (by have := HS.out; omega), ← hb] at hbm
        rcases List.mem_append.1 hbm with h1 | h1
        · exact hdig.out b h1
        · rw [List.mem_singleton.1 h1]; exact hc
      have HN := Lib.hid hnext
      have HM := Lib.hid hmem
      obtain ⟨c, hc⟩ : ∃ c, s[i].toNat = c := ⟨_, rfl⟩
      have hci : ((s[i].toNat : Nat) : Int) = (c : Int) := by rw [hc]
      have HC := Lib.hid hc
      clear hnext hmem hb hc
      by_cases c1 : c < 48
      · go_wp2_with fail
        go_ret
        refine ⟨false, rfl, ⟨fun h => (by cases h), fun h => ?_⟩, rfl⟩
        have h1 := h.1 _ HM.out
        rw [HC.out] at h1
        omega
      · by_cases c2 : 57 < c
        · go_wp2_with fail
          go_ret
          refine ⟨false, rfl, ⟨fun h => (by cases h), fun h => ?_⟩, rfl⟩
          have h1 := h.1 _ HM.out
          rw [HC.out] at h1
          omega
        · go_wp2_with fail
          go_roundw
          case rel => exact ⟨by first | rfl | trivial, i + 1, by omega, rfl, HN.out (by rw [HC.out]; omega)⟩
          case measure => simp [intOf]; omega
    · have he : i = s.size := by omega
      have hf : s.data.toList.take i = s.data.toList := List.take_of_length_le (by have := HS.out; omega)
      rw [hf] at hdig
      clear hf
      subst he
      by_cases h0 : s.size = 0
      · have hem : s.toList.isEmpty = true := by
          rw [Lib.toList_data, List.isEmpty_iff_length_eq_zero, HS.out]; exact h0
        have H0 := Lib.hid h0
        clear h0
        go_wp2_with fail
        go_ret
        exact ⟨false, rfl, ⟨fun h => (by cases h), fun h => (by have := h.2; have := H0.out; omega)⟩, rfl⟩
      · have hem : s.toList.isEmpty = false := by
          rw [← Bool.not_eq_true, Lib.toList_data, List.isEmpty_iff_length_eq_zero, HS.out]; exact h0
        have H0 := Lib.hid h0
        clear h0
        go_wp2_with fail
        go_ret
        exact ⟨true, rfl, ⟨fun _ => ⟨hdig.out, by have := H0.out; omega⟩, fun _ => rfl⟩, rfl⟩
end Go.Proofs.YtekghemhccfhkaaGreatDoor
