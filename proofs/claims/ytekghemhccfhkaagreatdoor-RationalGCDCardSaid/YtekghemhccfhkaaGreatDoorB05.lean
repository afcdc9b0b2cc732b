/-
  Walks of the program's functions: Div64, BitLen, Rem64, DivW.
-/
import Derived.Test.YtekghemhccfhkaaGreatDoorB04
import Derived.Deep.DeepCutAuto
import Derived.Deep.CutBlock
import Derived.Test.YtekghemhccfhkaaGreatDoorB03
import Derived.Test.YtekghemhccfhkaaGreatDoorB02
import Derived.Lib.BitFns
import Derived.Deep.QuietTactic
import Derived.BigQuiet
namespace Go.Big
open Go
theorem orW_comm (x y : Nat) : orW x y = orW y x := Nat.or_comm _ _
def dvQ (hi lo y : Nat) : Nat := (hi * 18446744073709551616 + lo) / y
def dvR (hi lo y : Nat) : Nat := (hi * 18446744073709551616 + lo) % y
/-- The names of Div64's values. -/
structure DvNames (hi lo y s t Y v1 v0 n u10 u1 u0 : Nat) : Prop where
  st : s + t = 64
  hY : y * 2 ^ s = Y
  nY : Y = v1 * b32 + v0
  hv1 : b32 / 2 ≤ v1 ∧ v1 < b32
  hv0 : v0 < b32
  hn : n < Y
  hu1 : u1 < b32
  hu0 : u0 < b32
  hU : (hi * 18446744073709551616 + lo) * 2 ^ s = (n * b32 + u1) * b32 + u0
theorem dv_names {hi lo y s t : Nat} (hhi : hi < y) (hlo : lo < 18446744073709551616) (st : s + t = 64) (h1 : 9223372036854775808 ≤ y * 2 ^ s) (h2 : y * 2 ^ s < 18446744073709551616) :
    shlW y s = y * 2 ^ s ∧ DvNames hi lo y s t (y * 2 ^ s) (shrW (y * 2 ^ s) 32) (andW (y * 2 ^ s) 4294967295) (orW (shlW hi s) (shrW lo t)) (shlW lo s) (shrW (shlW lo s) 32) (andW (shlW lo s) 4294967295) := by
  have e0 : shlW y s = y * 2 ^ s := by rw [shlW, Nat.min_eq_left (by omega), Nat.mod_eq_of_lt h2]
  have h3 : (hi + 1) * 2 ^ s ≤ y * 2 ^ s := Nat.mul_le_mul_right _ hhi
  have h4 : (hi + 1) * 2 ^ s = hi * 2 ^ s + 2 ^ s := by rw [Nat.add_mul, Nat.one_mul]
  have e1 : shlW hi s = hi * 2 ^ s := by
    rw [shlW, Nat.min_eq_left (by omega), Nat.mod_eq_of_lt]
    have := Nat.pow_pos (n := s) (show 0 < 2 by decide)
    omega
  have hsr := shrW_lt st hlo
  have e2 : orW (shlW hi s) (shrW lo t) = hi * 2 ^ s + shrW lo t := by rw [orW_comm, orW_add st hsr, e1, Nat.add_comm]
  have e3 := shl_split (x := lo) st
  have hl := shlW_lt lo s
  refine ⟨e0, st, rfl, ?_, ⟨?_, ?_⟩, ?_, ?_, ?_, ?_, ?_⟩
  · rw [andW_mask h2, shrW32]; unfold b32; omega
  · rw [shrW32]; unfold b32; omega
  · rw [shrW32]; unfold b32; omega
  · rw [andW_mask h2]; unfold b32; omega
  · rw [e2]; omega
  · rw [shrW32]; unfold b32; omega
  · rw [andW_mask hl]; unfold b32; omega
  · rw [andW_mask hl, shrW32, e2]
    have e4 : (hi * 18446744073709551616 + lo) * 2 ^ s = hi * 2 ^ s * 18446744073709551616 + lo * 2 ^ s := by grind
    rw [e4, ← e3]
    generalize shlW lo s = u at *
    generalize shrW lo t = z at *
    generalize hi * 2 ^ s = x at *
    unfold b32
    omega
theorem wrap_lin {a b c d e : Nat} (h1 : d * e ≤ a * b + c) (h2 : a * b + c < d * e + 18446744073709551616) : subW (addW (mulW a b) c) (mulW d e) = a * b + c - d * e := by
  unfold subW addW mulW
  generalize a * b = p at *
  generalize d * e = q at *
  omega
/-- Both ends of the correcting loop. -/
theorem DgInv.exit {n u1 v1 v0 q r : Nat} (h : q * v1 + r = n) (hup : n * b32 + u1 < (q + 1) * (v1 * b32 + v0)) (hv0 : v0 < b32) (hn : n < v1 * b32 + v0) (hr : b32 ≤ r) : Digit (n * b32 + u1) (v1 * b32 + v0) q := by
  refine ⟨?_, hup⟩
  have hq : q < b32 := by
    rcases Nat.lt_or_ge q b32 with h1 | h1
    · exact h1
    · have : b32 * v1 ≤ q * v1 := Nat.mul_le_mul_right _ h1
      have e : v1 * b32 = b32 * v1 := Nat.mul_comm _ _
      omega
  have h2 : q * v0 ≤ b32 * r := Nat.mul_le_mul (Nat.le_of_lt hq) (by omega)
  have e : q * (v1 * b32 + v0) + b32 * r = n * b32 + q * v0 := by rw [← h]; grind
  omega
theorem DgInv.stop {n u1 v1 v0 q r : Nat} (h : DgInv n u1 v1 v0 q r) (ht : ¬ b32 * r + u1 < q * v0) : Digit (n * b32 + u1) (v1 * b32 + v0) q :=
  ⟨h.le_of (Nat.not_lt.1 ht), h.up⟩
theorem dv_fin {X y s Q r2 : Nat} (h : Q * (y * 2 ^ s) + r2 = X * 2 ^ s) (hr : r2 < y * 2 ^ s) : Q = X / y ∧ r2 / 2 ^ s = X % y := by
  have hp : 0 < 2 ^ s := Nat.pow_pos (by decide)
  have e1 : Q * (y * 2 ^ s) = Q * y * 2 ^ s := by rw [Nat.mul_assoc]
  have hle : Q * y ≤ X := by
    have : Q * y * 2 ^ s ≤ X * 2 ^ s := by omega
    exact Nat.le_of_mul_le_mul_right this hp
  obtain ⟨d, hd⟩ : ∃ d, X = Q * y + d := ⟨X - Q * y, by omega⟩
  have e2 : r2 = d * 2 ^ s := by
    rw [hd, Nat.add_mul] at h
    omega
  have hdy : d < y := by
    rw [e2] at hr
    exact Nat.lt_of_mul_lt_mul_right hr
  refine ⟨?_, ?_⟩
  · rw [hd, Nat.mul_comm Q, Nat.mul_add_div (by omega), Nat.div_eq_of_lt hdy, Nat.add_zero]
  · rw [e2, Nat.mul_div_cancel _ hp, hd, Nat.mul_comm Q, Nat.mul_add_mod, Nat.mod_eq_of_lt hdy]
theorem Digit.rest {num V q : Nat} (h : Digit num V q) : num - q * V < V := by
  have := h.lt
  have := h.le
  have e : (q + 1) * V = q * V + V := by rw [Nat.add_mul, Nat.one_mul]
  omega
theorem lin32 {q v0 : Nat} (h1 : q < b32) (h2 : v0 < b32) : mulW q v0 = q * v0 := by
  apply mulW_lt'
  have : q * v0 ≤ 4294967295 * 4294967295 := Nat.mul_le_mul (by unfold b32 at h1; omega) (by unfold b32 at h2; omega)
  omega
theorem lin32' {r u : Nat} (h1 : r < b32) (h2 : u < b32) : addW (mulW 4294967296 r) u = b32 * r + u := by
  unfold b32 at *
  rw [mulW_lt' (by omega), addW_lt' (by omega)]
end Go.Big
namespace Go.Proofs.YtekghemhccfhkaaGreatDoor
open Go.RowKit Go.Big
theorem lz_at {x : Nat} (h0 : 0 < x) (hx : x < 18446744073709551616) :
    ∃ s : Nat, s < 64 ∧ 9223372036854775808 ≤ x * 2 ^ s ∧ x * 2 ^ s < 18446744073709551616 ∧ ∀ w : World, Calls Tryz.prog 175 #[.int .u64 x] w fun e w' => e = .returned (.int .i64 s) ∧ w' = w := by
  obtain ⟨s, h1, h2, h3, h4⟩ := lz_exists h0 hx
  refine ⟨s, h1, h3, h4, fun w => ?_⟩
  have := Proofs.Tryz.bits_LeadingZeros64 (x : Int) w (by omega) (by omega)
  rw [Int.toNat_natCast, h2] at this
  exact this
set_option maxRecDepth 100000 in
set_option maxHeartbeats 2000000 in
theorem div64_big {hi lo y : Nat} (hhi : hi < y) (h0 : 0 < hi) (hy : y < 18446744073709551616) (hlo : lo < 18446744073709551616) (w : World) :
    Calls Tryz.prog 205 #[.int .u64 hi, .int .u64 lo, .int .u64 y] w fun e w' => e = .returned (.tuple #[.int .u64 (dvQ hi lo y), .int .u64 (dvR hi lo y)]) ∧ w' = w := by
  obtain ⟨s, hs, hs1, hs2, hlz⟩ := lz_at (x := y) (by omega) hy
  obtain ⟨t, ht⟩ : ∃ t, s + t = 64 := ⟨64 - s, by omega⟩
  obtain ⟨eY, hN⟩ := dv_names hhi hlo ht hs1 hs2
  have e64 : subW 64 s = t := by rw [subW_le (by omega) (by decide)]; omega
  generalize hYd : y * 2 ^ s = Y at *
  generalize hv1d : shrW Y 32 = v1 at *
  generalize hv0d : andW Y 4294967295 = v0 at *
  generalize hnd : orW (shlW hi s) (shrW lo t) = n at *
  generalize hu10d : shlW lo s = u10 at *
  generalize hu1d : shrW u10 32 = u1 at *
  generalize hu0d : andW u10 4294967295 = u0 at *
  have hv1p : 0 < v1 := by have := hN.hv1.1; unfold b32 at this; omega
  have hq : quoW n v1 = n / v1 := by
    rw [quoW, Nat.mod_eq_of_lt]
    exact Nat.lt_of_le_of_lt (Nat.div_le_self _ _) (by have := hN.hn; omega)
  have hr : subW n (mulW (n / v1) v1) = n % v1 := by
    have hd := Nat.div_add_mod n v1
    have hnn := hN.hn
    rw [mulW_lt' (by rw [Nat.mul_comm]; omega), subW_le (by rw [Nat.mul_comm]; omega) (by omega), Nat.mul_comm]; omega
  generalize hqd : n / v1 = q at *
  generalize hrd : n % v1 = r at *
  have hst := DgInv.start (n := n) (v0 := v0) hN.hv1.1 hN.hv1.2 hN.hu1
  rw [hqd, hrd] at hst
  have hy0 : ((y : Int) == 0) = false := by rw [beq_eq_false_iff_ne]; omega
  have hi0 : ((hi : Int) == 0) = false := by rw [beq_eq_false_iff_ne]; omega
  have HN := Lib.hid hN
  have HLZ := Lib.hid hlz
  have HY2 := Lib.hid hs2
  have HHY := Lib.hid hy
  have HLO := Lib.hid hlo
  clear hN hlz hqd hrd hs1 hs2 ht hYd hy hlo
  go_enter Tryz.func205, Tryz.ntmps205
  go_upto_block 0 with (go_at_call 175; refine (HLZ.out _).mono ?_; rintro e w1 ⟨rfl, rfl⟩)
  have HNN := Lib.hid HN.out.hn
  have HUU := Lib.hid HN.out.hu1
  have HST := Lib.hid hst
  clear hst
  go_cut [15, 16] (fun a _ wr => ∃ q1 : Nat, a = .int .u64 q1 ∧ w1 = wr ∧ Digit (n * b32 + u1) Y q1)

  case first =>
    have hV : Hid (Y = v1 * b32 + v0) := HN.out.nY
    go_wp2_with fail
    go_loopw [15, 16] (fun a b wr => w1 = wr ∧ ∃ q r : Nat, a = .int .u64 q ∧ b = .int .u64 r ∧ DgInv n u1 v1 v0 q r) (fun a _ _ => (intOf a).toNat)
    case atStart => exact ⟨rfl, _, _, rfl, rfl, HST.out⟩
    case round =>
      obtain ⟨rfl, q, r, rfl, rfl, hinv⟩ := hrel
      have hrl := hinv.rlt
      unfold b32 at hrl
      by_cases h1 : 4294967296 ≤ q ∨ addW (mulW 4294967296 r) u1 < mulW q v0
      · have hstep : 0 < q ∧ (q - 1) * v1 + (r + v1) = n ∧ n * b32 + u1 < (q - 1 + 1) * (v1 * b32 + v0) := by
          refine hinv.step HN.out.hv0 (by have := HNN.out; have := hV.out; omega) HUU.out ?_
          by_cases hq : 4294967296 ≤ q
          · exact .inl hq
          · refine .inr ?_
            have := h1.resolve_left hq
            rwa [lin32' hinv.rlt HUU.out, lin32 (by unfold b32; omega) HN.out.hv0] at this
        obtain ⟨hq0, heq, hup⟩ := hstep
        obtain ⟨p, hp⟩ : ∃ p, q = p + 1 := ⟨q - 1, by omega⟩
        have hsb : subW q 1 = p := by rw [subW_le (by omega) (by have := hinv.eq; have := HNN.out; have := HY2.out; have := Nat.le_mul_of_pos_right q hv1p; omega)]; omega
        have had : addW r v1 = r + v1 := addW_lt' (by have := HN.out.hv1.2; unfold b32 at this; omega)
        have hr1 : Hid ((q - 1) * v1 + (r + v1) = n) := heq
        have HUp := Lib.hid hup
        rw [hp, Nat.add_sub_cancel] at heq hup
        have HE := Lib.hid heq
        have HUp := Lib.hid hup
        have hgt : decide ((4294967296 : Int) ≤ (q : Int)) = true ∨ decide ((4294967296 : Int) ≤ (q : Int)) = false ∧ addW (mulW 4294967296 r) u1 < mulW q v0 := by
          by_cases hq : 4294967296 ≤ q
          · left; simp; omega
          · right; exact ⟨by simp; omega, h1.resolve_left hq⟩
        have HM : Hid (p < q) := (by omega : p < q)
        clear heq hup hinv h1 hp hq0 hrl hr1
        by_cases hb : b32 ≤ r + v1
        · have HD := Lib.hid (DgInv.exit HE.out HUp.out HN.out.hv0 (by have := HNN.out; have := hV.out; omega) hb)
          have hb' : decide ((4294967296 : Int) ≤ (r : Int) + (v1 : Int)) = true := by unfold b32 at hb; simp; omega
          clear hb
          rcases hgt with hq | ⟨hq, ht⟩
          · go_wp2_with (go_meet; exact ⟨p, rfl, rfl, by rw [hV.out]; exact HD.out⟩)
          · go_wp2_with (go_meet; exact ⟨p, rfl, rfl, by rw [hV.out]; exact HD.out⟩)
        · have HB := Lib.hid hb
          have hb' : decide ((4294967296 : Int) ≤ (r : Int) + (v1 : Int)) = false := by unfold b32 at hb; simp; omega
          clear hb
          rcases hgt with hq | ⟨hq, ht⟩
          · go_wp2_with fail
            go_roundw
            case rel => exact ⟨by trivial, p, r + v1, rfl, by go_num, HE.out, Nat.lt_of_not_le HB.out, HUp.out⟩
            case measure => have := HM.out; simp [intOf]; omega
          · go_wp2_with fail
            go_roundw
            case rel => exact ⟨by trivial, p, r + v1, rfl, by go_num, HE.out, Nat.lt_of_not_le HB.out, HUp.out⟩
            case measure => have := HM.out; simp [intOf]; omega
      · have hq : ¬ 4294967296 ≤ q := fun h => h1 (.inl h)
        have ht : ¬ addW (mulW 4294967296 r) u1 < mulW q v0 := fun h => h1 (.inr h)
        have hst : Digit (n * b32 + u1) (v1 * b32 + v0) q := hinv.stop (by rwa [lin32' hinv.rlt HUU.out, lin32 (by unfold b32; omega) HN.out.hv0] at ht)
        have HS := Lib.hid hst
        have hq' : decide ((4294967296 : Int) ≤ (q : Int)) = false := by simp; omega
        have ht' : mulW q v0 ≤ addW (mulW 4294967296 r) u1 := Nat.not_lt.1 ht
        clear hst h1 hinv hrl hq ht
        go_wp2_with (go_meet; exact ⟨q, rfl, rfl, by rw [hV.out]; exact HS.out⟩)

  case rest =>
    obtain ⟨q1, rfl, rfl, hd1⟩ := hcut
    have hm := hd1.rest
    have hd1l := hd1.le
    have h21 : subW (addW (mulW n 4294967296) u1) (mulW q1 Y) = n * b32 + u1 - q1 * Y := wrap_lin hd1l (by have := HY2.out; unfold b32 at *; omega)
    have HD1 := Lib.hid hd1
    obtain ⟨m, hmd⟩ : ∃ m, n * b32 + u1 - q1 * Y = m := ⟨_, rfl⟩
    rw [hmd] at h21 hm
    have HMD := Lib.hid hmd
    have HMM := Lib.hid hm
    have HUU0 := Lib.hid HN.out.hu0
    clear hd1 hd1l hmd
    have hq2 : quoW m v1 = m / v1 := by
      rw [quoW, Nat.mod_eq_of_lt]
      exact Nat.lt_of_le_of_lt (Nat.div_le_self _ _) (by have := HY2.out; omega)
    have hr2 : subW m (mulW (m / v1) v1) = m % v1 := by
      have hd := Nat.div_add_mod m v1
      have := HY2.out
      rw [mulW_lt' (by rw [Nat.mul_comm]; omega), subW_le (by rw [Nat.mul_comm]; omega) (by omega), Nat.mul_comm]; omega
    have hst0 := DgInv.start (n := m) (v0 := v0) HN.out.hv1.1 HN.out.hv1.2 HUU0.out
    generalize m / v1 = q2 at *
    generalize m % v1 = r2 at *
    have HST0 := Lib.hid hst0
    clear hst0 hm hq hr
    go_upto_block 2 with fail
    go_cut [18, 16] (fun a _ wr => ∃ q0 : Nat, a = .int .u64 q0 ∧ w1 = wr ∧ Digit (m * b32 + u0) Y q0)
    case first =>
      have hV : Hid (Y = v1 * b32 + v0) := HN.out.nY
      go_wp2_with fail
      go_loopw [18, 16] (fun a b wr => w1 = wr ∧ ∃ q r : Nat, a = .int .u64 q ∧ b = .int .u64 r ∧ DgInv m u0 v1 v0 q r) (fun a _ _ => (intOf a).toNat)
      case atStart => exact ⟨rfl, _, _, rfl, rfl, HST0.out⟩
      case round =>
        obtain ⟨rfl, q, r, rfl, rfl, hinv⟩ := hrel
        have hrl := hinv.rlt
        unfold b32 at hrl
        by_cases h1 : 4294967296 ≤ q ∨ addW (mulW 4294967296 r) u0 < mulW q v0
        · have hstep : 0 < q ∧ (q - 1) * v1 + (r + v1) = m ∧ m * b32 + u0 < (q - 1 + 1) * (v1 * b32 + v0) := by
            refine hinv.step HN.out.hv0 (by have := HMM.out; have := hV.out; omega) HUU0.out ?_
            by_cases hq : 4294967296 ≤ q
            · exact .inl hq
            · refine .inr ?_
              have := h1.resolve_left hq
              rwa [lin32' hinv.rlt HUU0.out, lin32 (by unfold b32; omega) HN.out.hv0] at this
          obtain ⟨hq0, heq, hup⟩ := hstep
          obtain ⟨p, hp⟩ : ∃ p, q = p + 1 := ⟨q - 1, by omega⟩
          have hsb : subW q 1 = p := by rw [subW_le (by omega) (by have := hinv.eq; have := HMM.out; have := HY2.out; have := Nat.le_mul_of_pos_right q hv1p; omega)]; omega
          have had : addW r v1 = r + v1 := addW_lt' (by have := HN.out.hv1.2; unfold b32 at this; omega)
          have hr1 : Hid ((q - 1) * v1 + (r + v1) = m) := heq
          have HUp := Lib.hid hup
          rw [hp, Nat.add_sub_cancel] at heq hup
          have HE := Lib.hid heq
          have HUp := Lib.hid hup
          have hgt : decide ((4294967296 : Int) ≤ (q : Int)) = true ∨ decide ((4294967296 : Int) ≤ (q : Int)) = false ∧ addW (mulW 4294967296 r) u0 < mulW q v0 := by
            by_cases hq : 4294967296 ≤ q
            · left; simp; omega
            · right; exact ⟨by simp; omega, h1.resolve_left hq⟩
          have HM : Hid (p < q) := (by omega : p < q)
          clear heq hup hinv h1 hp hq0 hrl hr1
          by_cases hb : b32 ≤ r + v1
          · have HD := Lib.hid (DgInv.exit HE.out HUp.out HN.out.hv0 (by have := HMM.out; have := hV.out; omega) hb)
            have hb' : decide ((4294967296 : Int) ≤ (r : Int) + (v1 : Int)) = true := by unfold b32 at hb; simp; omega
            clear hb
            rcases hgt with hq | ⟨hq, ht⟩
            · go_wp2_with (go_meet; exact ⟨p, rfl, rfl, by rw [hV.out]; exact HD.out⟩)
            · go_wp2_with (go_meet; exact ⟨p, rfl, rfl, by rw [hV.out]; exact HD.out⟩)
          · have HB := Lib.hid hb
            have hb' : decide ((4294967296 : Int) ≤ (r : Int) + (v1 : Int)) = false := by unfold b32 at hb; simp; omega
            clear hb
            rcases hgt with hq | ⟨hq, ht⟩
            · go_wp2_with fail
              go_roundw
              case rel => exact ⟨by trivial, p, r + v1, rfl, by go_num, HE.out, Nat.lt_of_not_le HB.out, HUp.out⟩
              case measure => have := HM.out; simp [intOf]; omega
            · go_wp2_with fail
              go_roundw
              case rel => exact ⟨by trivial, p, r + v1, rfl, by go_num, HE.out, Nat.lt_of_not_le HB.out, HUp.out⟩
              case measure => have := HM.out; simp [intOf]; omega
        · have hq : ¬ 4294967296 ≤ q := fun h => h1 (.inl h)
          have ht : ¬ addW (mulW 4294967296 r) u0 < mulW q v0 := fun h => h1 (.inr h)
          have hst : Digit (m * b32 + u0) (v1 * b32 + v0) q := hinv.stop (by rwa [lin32' hinv.rlt HUU0.out, lin32 (by unfold b32; omega) HN.out.hv0] at ht)
          have HS := Lib.hid hst
          have hq' : decide ((4294967296 : Int) ≤ (q : Int)) = false := by simp; omega
          have ht' : mulW q v0 ≤ addW (mulW 4294967296 r) u0 := Nat.not_lt.1 ht
          clear hst h1 hinv hrl hq ht
          go_wp2_with (go_meet; exact ⟨q, rfl, rfl, by rw [hV.out]; exact HS.out⟩)


    case rest =>
      obtain ⟨q0, rfl, rfl, hd0⟩ := hcut
      have hfin := two_digits (b := b32) HD1.out (by rw [HMD.out]; exact hd0)
      rw [HMD.out] at hfin
      have hrest := hd0.rest
      have h2 : subW (addW (mulW m 4294967296) u0) (mulW q0 Y) = m * b32 + u0 - q0 * Y := wrap_lin hd0.le (by have := HY2.out; unfold b32 at *; omega)
      have hq1 := HD1.out.lt32 HNN.out HUU.out
      have hq0 := hd0.lt32 HMM.out HUU0.out
      have h1 : addW (mulW q1 4294967296) q0 = q1 * b32 + q0 := by unfold b32 at *; rw [mulW_lt' (by omega), addW_lt' (by omega)]
      have hUX := HN.out.hU
      have hYX := HN.out.hY
      obtain ⟨z, hz⟩ : ∃ z, m * b32 + u0 - q0 * Y = z := ⟨_, rfl⟩
      rw [hz] at h2 hfin
      clear hz
      rw [← hUX, ← hYX] at hfin
      obtain ⟨f1, f2⟩ := dv_fin hfin.1 hfin.2
      have hsh : shrW z s = dvR hi lo y := by rw [shrW_eq (by omega), f2]; rfl
      have h1' : addW (mulW q1 4294967296) q0 = dvQ hi lo y := by rw [h1, f1]; rfl
      clear h1 hfin f1 f2 hUX hYX hq1 hq0 hrest hd0
      go_wp2_with fail
      go_ret2
      exact ⟨rfl, rfl⟩
end Go.Proofs.YtekghemhccfhkaaGreatDoor
namespace Go.Big
open Go
theorem bitsAux_spec : ∀ (f x : Nat), x < 2 ^ f → 0 < x → 1 ≤ Lib.bitLenAux f x ∧ Lib.bitLenAux f x ≤ f ∧ 2 ^ (Lib.bitLenAux f x - 1) ≤ x ∧ x < 2 ^ Lib.bitLenAux f x
  | 0, x, h, h0 => by simp at h; omega
  | f + 1, x, h, h0 => by
    rw [Lib.bitLenAux, if_neg (by omega)]
    rw [Nat.pow_succ] at h
    rcases Nat.eq_zero_or_pos (x / 2) with h2 | h2
    · have e : Lib.bitLenAux f (x / 2) = 0 := by rw [h2]; cases f <;> simp [Lib.bitLenAux]
      rw [e]
      exact ⟨by omega, by omega, by simp; omega, by simp; omega⟩
    · obtain ⟨a, b, c, d⟩ := bitsAux_spec f (x / 2) (by omega) h2
      obtain ⟨t, ht⟩ : ∃ t, Lib.bitLenAux f (x / 2) = t + 1 := ⟨Lib.bitLenAux f (x / 2) - 1, by omega⟩
      rw [ht] at a b c d ⊢
      rw [Nat.add_sub_cancel] at c
      refine ⟨by omega, by omega, ?_, ?_⟩
      · rw [show 1 + (t + 1) - 1 = t + 1 from by omega, Nat.pow_succ]; omega
      · rw [show 1 + (t + 1) = t + 1 + 1 from by omega, Nat.pow_succ]; omega
theorem bits_spec {x : Nat} (h : x < 18446744073709551616) (h0 : 0 < x) : 1 ≤ Lib.bitLen x ∧ Lib.bitLen x ≤ 64 ∧ 2 ^ (Lib.bitLen x - 1) ≤ x ∧ x < 2 ^ Lib.bitLen x :=
  bitsAux_spec 64 x h h0
theorem B64_pow (n : Nat) : B64 ^ n = 2 ^ (64 * n) := by rw [Nat.pow_mul]
theorem bitLen_words {l : List Nat} {n b : Nat} (wl : Wd B64 l) (hl : l.length = n + 1) (h1 : 1 ≤ b) (h2 : 2 ^ (b - 1) ≤ nth l n) (h3 : nth l n < 2 ^ b) :
    2 ^ (64 * n + b - 1) ≤ val B64 l ∧ val B64 l < 2 ^ (64 * n + b) := by
  have e := take_val_nth B64 l n (by omega)
  rw [List.take_of_length_le (by omega)] at e
  have hlt : val B64 (l.take n) < B64 ^ n := by
    have := val_lt (wl.take n)
    rwa [List.length_take, Nat.min_eq_left (by omega)] at this
  rw [e, show 64 * n + b - 1 = 64 * n + (b - 1) from by omega, Nat.pow_add, Nat.pow_add, ← B64_pow]
  have m1 : B64 ^ n * 2 ^ (b - 1) ≤ B64 ^ n * nth l n := Nat.mul_le_mul_left _ h2
  have m2 : B64 ^ n * (nth l n + 1) ≤ B64 ^ n * 2 ^ b := Nat.mul_le_mul_left _ h3
  rw [Nat.mul_add, Nat.mul_one] at m2
  omega
end Go.Big
namespace Go.Proofs.YtekghemhccfhkaaGreatDoor
open Go.RowKit Go.Big
set_option maxRecDepth 100000 in
set_option maxHeartbeats 1000000 in
/-- (natural).bitLen -/
theorem bitLen_any {va : Value} {m : Nat} {w : World} (ha : NatV w .u64 B64 va m) (h0 : 0 < m) :
    Calls Tryz.prog 102 #[va] w fun e w' => ∃ L : Nat, e = .returned (.int .i64 L) ∧ w' = w ∧ 1 ≤ L ∧ 2 ^ (L - 1) ≤ m ∧ m < 2 ^ L ∧ L ≤ 70368744177664 := by
  obtain ⟨ao, capa, la, rfl, sa, wa, za, ea⟩ := ha
  have hne : la ≠ [] := by rintro rfl; rw [← ea] at h0; simp [val] at h0
  have hm := sa.len_le
  obtain ⟨n, hn⟩ : ∃ n, la.length = n + 1 := ⟨la.length - 1, by have := List.length_pos_iff.2 hne; omega⟩
  have ht := nth_of_Nz za hne
  rw [hn, Nat.add_sub_cancel] at ht
  have htl := wa.nth (i := n) (by omega)
  obtain ⟨ga, offa, rfl, _, hca⟩ := sa.at (i := n) (by omega)
  have c1 := hca n (by omega)
  obtain ⟨b1, b2, b3, b4⟩ := bits_spec htl (by omega)
  have hw := bitLen_words wa hn b1 b3 b4
  have hl := fun w => Proofs.Tryz.bits_Len64 (nth la n : Int) w (by omega) (by have : nth la n < 18446744073709551616 := htl; omega)
  rw [Int.toNat_natCast] at hl
  obtain ⟨b, hb⟩ : ∃ b, Lib.bitLen (nth la n) = b := ⟨_, rfl⟩
  rw [hb] at b1 b2 hw hl
  rw [ea] at hw
  have HW := Lib.hid hw
  have HL := Lib.hid hl
  rw [hn]
  clear b3 b4 hb hw hl ht htl hca sa wa za ea h0 hne
  go_enter Tryz.func102, Tryz.ntmps102
  go_wp2_with fail
  refine (HL.out _).mono ?_
  rintro e w1 ⟨rfl, rfl⟩
  go_wp2_with fail
  go_ret
  exact ⟨64 * n + b, ret_i (by push_cast; omega), rfl, by omega, HW.out.1, HW.out.2, by omega⟩
end Go.Proofs.YtekghemhccfhkaaGreatDoor
namespace Go.Proofs.YtekghemhccfhkaaGreatDoor
open Go.RowKit Go.Big
set_option maxRecDepth 100000 in
set_option maxHeartbeats 400000 in
theorem div64_zero {lo y : Nat} (hy : 0 < y) (hlo : lo < 18446744073709551616) (w : World) :
    Calls Tryz.prog 205 #[.int .u64 0, .int .u64 lo, .int .u64 y] w fun e w' => e = .returned (.tuple #[.int .u64 (dvQ 0 lo y), .int .u64 (dvR 0 lo y)]) ∧ ∃ n, w' = w.drewN n := by
  have hy0 : ((y : Int) == 0) = false := by rw [beq_eq_false_iff_ne]; omega
  have e1 : quoW lo y = dvQ 0 lo y := by
    rw [quoW, Nat.mod_eq_of_lt (Nat.lt_of_le_of_lt (Nat.div_le_self _ _) hlo)]; simp [dvQ]
  have e2 : lo % y = dvR 0 lo y := by simp [dvR]
  have HLO := Lib.hid hlo
  clear hlo
  go_enter Tryz.func205, Tryz.ntmps205
  go_wp2_with fail
  go_quiet (fail)
  go_wp2_with fail
  go_ret2
  exact ⟨rfl, _, rfl⟩

/-- bits.Div64 -/
theorem div64_any {hi lo y : Nat} (hhi : hi < y) (hy : y < 18446744073709551616) (hlo : lo < 18446744073709551616) (w : World) :
    Calls Tryz.prog 205 #[.int .u64 hi, .int .u64 lo, .int .u64 y] w fun e w' => e = .returned (.tuple #[.int .u64 (dvQ hi lo y), .int .u64 (dvR hi lo y)]) ∧ ∃ n, w' = w.drewN n := by
  rcases Nat.eq_zero_or_pos hi with h | h
  · subst h
    exact div64_zero hhi hlo w
  · exact (div64_big hhi h hy hlo w).mono fun e w' ⟨h1, h2⟩ => ⟨h1, 0, h2⟩
theorem dvR_mod (hi lo y : Nat) : dvR (hi % y) lo y = dvR hi lo y := by
  unfold dvR
  rw [Nat.add_mod, Nat.mul_mod, Nat.mod_mod, ← Nat.mul_mod, ← Nat.add_mod]
set_option maxRecDepth 100000 in
set_option maxHeartbeats 400000 in
/-- bits.Rem64 -/
theorem rem64_any {hi lo y : Nat} (hy0 : 0 < y) (hy : y < 18446744073709551616) (hlo : lo < 18446744073709551616) (w : World) :
    Calls Tryz.prog 200 #[.int .u64 hi, .int .u64 lo, .int .u64 y] w fun e w' => e = .returned (.int .u64 (dvR hi lo y)) ∧ ∃ n, w' = w.drewN n := by
  have hc := div64_any (hi := hi % y) (lo := lo) (Nat.mod_lt _ hy0) hy hlo w
  rw [dvR_mod] at hc
  have HC := Lib.hid hc
  clear hc hy hlo
  go_enter Tryz.func200, Tryz.ntmps200
  go_wp2_with fail
  refine HC.out.mono ?_
  rintro e w1 ⟨rfl, n, rfl⟩
  go_wp2_with fail
  go_ret
  exact ⟨rfl, _, rfl⟩
end Go.Proofs.YtekghemhccfhkaaGreatDoor
namespace Go.Big
open Go Go.RowKit
theorem dvQ_lt {hi lo y : Nat} (hhi : hi < y) (hlo : lo < 18446744073709551616) : dvQ hi lo y < 18446744073709551616 := by
  unfold dvQ
  rw [Nat.div_lt_iff_lt_mul (by omega)]
  have : (hi + 1) * 18446744073709551616 ≤ y * 18446744073709551616 := Nat.mul_le_mul_right _ hhi
  rw [Nat.mul_comm 18446744073709551616]
  omega
theorem dvR_lt {hi lo y : Nat} (hy : 0 < y) : dvR hi lo y < y := Nat.mod_lt _ hy
theorem dv_eq (hi lo y : Nat) : dvQ hi lo y * y + dvR hi lo y = hi * 18446744073709551616 + lo := by
  unfold dvQ dvR; rw [Nat.mul_comm]; exact Nat.div_add_mod _ _
/-- 'divideByWord': the words from i on are divided, r is left of them. -/
structure DwInv (a : List Nat) (x i : Nat) (cur : List Nat) (r : Nat) : Prop where
  len : cur.length = a.length
  wd : Wd B64 cur
  rlt : r < x
  rest : ∀ j, j < i → nth cur j = nth a j
  eq : val B64 (cur.drop i) * x + r = val B64 (a.drop i)
theorem DwInv.start {a : List Nat} {x : Nat} (hx : 0 < x) (h : Wd B64 a) : DwInv a x a.length a 0 := ⟨rfl, h, hx, fun _ _ => rfl, by rw [List.drop_length]; simp [val]⟩
theorem DwInv.step {a cur : List Nat} {x i r : Nat} (h : DwInv a x (i + 1) cur r) (hi : i < a.length) :
    DwInv a x i (cur.set i (dvQ r (nth cur i) x)) (dvR r (nth cur i) x) := by
  have hl := h.len
  have hw := h.wd.nth (i := i) (by omega)
  refine ⟨by rw [List.length_set, hl], h.wd.set (dvQ_lt h.rlt hw), dvR_lt (by have := h.rlt; omega), fun j hj => by rw [nth_set_ne (by omega)]; exact h.rest j (by omega), ?_⟩
  rw [drop_val_nth _ _ _ (by rw [List.length_set]; omega), nth_set_self (by omega), drop_set_succ, drop_val_nth B64 a i hi]
  have e1 := h.eq
  have e2 := dv_eq r (nth cur i) x
  have e3 := h.rest i (by omega)
  rw [e3] at e2 ⊢
  rw [← e1]
  grind
theorem DwInv.done {a cur : List Nat} {x r : Nat} (h : DwInv a x 0 cur r) : val B64 cur = val B64 a / x ∧ r = val B64 a % x := by
  have e := h.eq
  simp only [List.drop_zero] at e
  have hx : 0 < x := by have := h.rlt; omega
  have h1 : val B64 a / x = val B64 cur := by
    rw [← e, Nat.mul_comm, Nat.mul_add_div hx, Nat.div_eq_of_lt h.rlt, Nat.add_zero]
  have h2 : val B64 a % x = r := by
    rw [← e, Nat.mul_comm, Nat.mul_add_mod, Nat.mod_eq_of_lt h.rlt]
  exact ⟨h1.symm, h2.symm⟩
end Go.Big
namespace Go.Proofs.YtekghemhccfhkaaGreatDoor
open Go.RowKit Go.Big
def DwPost (w : World) (g : Nat) (pre a post : List Nat) (x : Nat) (e : Ending) (w' : World) : Prop :=
  ∃ (cur : List Nat) (n : Nat), e = .returned (.int .u64 (val B64 a % x : Nat)) ∧ w' = (wput w g .u64 (pre ++ (cur ++ post))).drewN n ∧ cur.length = a.length ∧ Wd B64 cur ∧ val B64 cur = val B64 a / x

set_option maxRecDepth 100000 in
set_option maxHeartbeats 1000000 in
theorem divideByWord_at {g cap n off : Nat} {pre a post : List Nat} {x : Nat} {w : World}
    (hg : isRow w g 71 .u64 (pre ++ (a ++ post))) (ha : Wd B64 a) (hx0 : 0 < x) (hx : x < 18446744073709551616) (hm : a.length ≤ 1099511627776)
    (hn : a.length = n) (ho : pre.length = off) :
    Calls Tryz.prog 173 #[.slice (some ⟨g, off, none⟩) n cap, .int .u64 x] w (DwPost w g pre a post x) := by
  subst hn ho
  have HX := Lib.hid hx
  clear hx
  go_enter Tryz.func173, Tryz.ntmps173
  go_wp2_with fail
  go_loopw [5, 6] (fun c i wr => ∃ (k r : Nat) (cur : List Nat) (d : Nat), k ≤ a.length ∧ i = .int .i64 ((k : Int) - 1) ∧ c = .int .u64 r ∧ DwInv a x k cur r ∧ wr = (wput w g .u64 (pre ++ (cur ++ post))).drewN d)
    (fun _ i _ => (intOf i + 1).toNat)
  case atStart => exact ⟨a.length, 0, a, 0, Nat.le_refl _, rfl, rfl, DwInv.start hx0 ha, by rw [put_self hg]; rfl⟩
  case round =>
    obtain ⟨k, r, cur, d, hk, rfl, rfl, hinv, rfl⟩ := hrel
    have HL : Hid (cur.length = a.length) := hinv.len
    rcases Nat.eq_zero_or_pos k with hk0 | hpos
    · subst hk0
      have hd := hinv.done
      have HD := Lib.hid hd
      clear hd
      go_wp2_with fail
      go_ret
      exact ⟨cur, d, ret_i (by rw [HD.out.2]), rfl, hinv.len, hinv.wd, HD.out.1⟩
    · obtain ⟨i, rfl⟩ : ∃ i, k = i + 1 := ⟨k - 1, by omega⟩
      have hca : (wput w g .u64 (pre ++ (cur ++ post))).cell? ⟨g, pre.length + i, none⟩ = some (.int .u64 (nth cur i)) := by
        rw [(hg.put _).cell (by have := HL.out; simp; omega), nth_mid _ _ _ _ (by have := HL.out; omega)]
      have hfr : (wput w g .u64 (pre ++ (cur ++ post))).frozen? ⟨g, pre.length + i, none⟩ = false := (hg.put _).frozen _
      have hst : ∀ y : Nat, (wput w g .u64 (pre ++ (cur ++ post))).setCell ⟨g, pre.length + i, none⟩ (.int .u64 (y : Int)) = wput w g .u64 (pre ++ (cur.set i y ++ post)) := fun y => by
        rw [put_store hg, set_mid _ _ _ _ _ (by have := HL.out; omega)]
      have HST := Lib.hid hst
      clear hst
      generalize wput w g .u64 (pre ++ (cur ++ post)) = W at *
      have hcall := fun w' => div64_any (hi := r) (lo := nth cur i) hinv.rlt HX.out (hinv.wd.nth (by have := HL.out; omega)) w'
      have HC := Lib.hid hcall
      have e1 : (((i + 1 : Nat) : Int) - 1) = i := by omega
      rw [e1]
      clear hcall e1 hpos
      go_wp2_with fail
      refine (HC.out _).mono ?_
      rintro e w1 ⟨rfl, m, rfl⟩
      go_wp2_with fail
      go_roundw
      case rel => exact ⟨i, _, cur.set i (dvQ r (nth cur i) x), _, by omega, rfl, rfl, hinv.step (by omega), by rw [← HST.out]; rfl⟩
      case measure => simp [intOf]
end Go.Proofs.YtekghemhccfhkaaGreatDoor
