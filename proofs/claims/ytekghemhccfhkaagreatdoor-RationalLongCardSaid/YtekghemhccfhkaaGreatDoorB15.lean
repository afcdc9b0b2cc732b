/-
  Walks of the program's functions: Div64.
-/
import Derived.Test.YtekghemhccfhkaaGreatDoorB14
import Derived.Test.YtekghemhccfhkaaGreatDoorB13
import Derived.Deep.DeepCutAuto
import Derived.Deep.CutBlock
namespace Go.Big
open Go
theorem orW_comm (x y : Nat) : orW x y = orW y x := Nat.or_comm _ _
def dvQ (hi lo y : Nat) : Nat := (hi * 18446744073709551616 + lo) / y
def dvR (hi lo y : Nat) : Nat := (hi * 18446744073709551616 + lo) % y
/-- The names of Div64's values. -/
structure DvNames (hi lo y s t Y v1 v0 n u10 u1 u0 : Nat) : Prop where
  st : s + t = 64
  hY : y * 2 ^ s = Y
  nY : Y = v1 * b32 + v0
  hv1 : b32 / 2 ≤ v1 ∧ v1 < b32
  hv0 : v0 < b32
  hn : n < Y
  hu1 : u1 < b32
  hu0 : u0 < b32
  hU : (hi * 18446744073709551616 + lo) * 2 ^ s = (n * b32 + u1) * b32 + u0
theorem dv_names {hi lo y s t : Nat} (hhi : hi < y) (hlo : lo < 18446744073709551616) (st : s + t = 64) (h1 : 9223372036854775808 ≤ y * 2 ^ s) (h2 : y * 2 ^ s < 18446744073709551616) :
    shlW y s = y * 2 ^ s ∧ DvNames hi lo y s t (y * 2 ^ s) (shrW (y * 2 ^ s) 32) (andW (y * 2 ^ s) 4294967295) (orW (shlW hi s) (shrW lo t)) (shlW lo s) (shrW (shlW lo s) 32) (andW (shlW lo s) 4294967295) := by
  have e0 : shlW y s = y * 2 ^ s := by rw [shlW, Nat.min_eq_left (by omega), Nat.mod_eq_of_lt h2]
  have h3 : (hi + 1) * 2 ^ s ≤ y * 2 ^ s := Nat.mul_le_mul_right _ hhi
  have h4 : (hi + 1) * 2 ^ s = hi * 2 ^ s + 2 ^ s := by rw [Nat.add_mul, Nat.one_mul]
  have e1 : shlW hi s = hi * 2 ^ s := by
    rw [shlW, Nat.min_eq_left (by omega), Nat.mod_eq_of_lt]
    have := Nat.pow_pos (n := s) (show 0 < 2 by decide)
    omega
  have hsr := shrW_lt st hlo
  have e2 : orW (shlW hi s) (shrW lo t) = hi * 2 ^ s + shrW lo t := by rw [orW_comm, orW_add st hsr, e1, Nat.add_comm]
  have e3 := shl_split (x := lo) st
  have hl := shlW_lt lo s
  refine ⟨e0, st, rfl, ?_, ⟨?_, ?_⟩, ?_, ?_, ?_, ?_, ?_⟩
  · rw [andW_mask h2, shrW32]; unfold b32; omega
  · rw [shrW32]; unfold b32; omega
  · rw [shrW32]; unfold b32; omega
  · rw [andW_mask h2]; unfold b32; omega
  · rw [e2]; omega
  · rw [shrW32]; unfold b32; omega
  · rw [andW_mask hl]; unfold b32; omega
  · rw [andW_mask hl, shrW32, e2]
    have e4 : (hi * 18446744073709551616 + lo) * 2 ^ s = hi * 2 ^ s * 18446744073709551616 + lo * 2 ^ s := by grind
    rw [e4, ← e3]
    generalize shlW lo s = u at *
    generalize shrW lo t = z at *
    generalize hi * 2 ^ s = x at *
    unfold b32
    omega
theorem wrap_lin {a b c d e : Nat} (h1 : d * e ≤ a * b + c) (h2 : a * b + c < d * e + 18446744073709551616) : subW (addW (mulW a b) c) (mulW d e) = a * b + c - d * e := by
  unfold subW addW mulW
  generalize a * b = p at *
  generalize d * e = q at *
  omega
/-- Both ends of the correcting loop. -/
theorem DgInv.exit {n u1 v1 v0 q r : Nat} (h : q * v1 + r = n) (hup : n * b32 + u1 < (q + 1) * (v1 * b32 + v0)) (hv0 : v0 < b32) (hn : n < v1 * b32 + v0) (hr : b32 ≤ r) : Digit (n * b32 + u1) (v1 * b32 + v0) q := by
  refine ⟨?_, hup⟩
  have hq : q < b32 := by
    rcases Nat.lt_or_ge q b32 with h1 | h1
    · exact h1
    · have : b32 * v1 ≤ q * v1 := Nat.mul_le_mul_right _ h1
      have e : v1 * b32 = b32 * v1 := Nat.mul_comm _ _
      omega
  have h2 : q * v0 ≤ b32 * r := Nat.mul_le_mul (Nat.le_of_lt hq) (by omega)
  have e : q * (v1 * b32 + v0) + b32 * r = n * b32 + q * v0 := by rw [← h]; grind
  omega
theorem DgInv.stop {n u1 v1 v0 q r : Nat} (h : DgInv n u1 v1 v0 q r) (ht : ¬ b32 * r + u1 < q * v0) : Digit (n * b32 + u1) (v1 * b32 + v0) q :=
  ⟨h.le_of (Nat.not_lt.1 ht), h.up⟩
theorem dv_fin {X y s Q r2 : Nat} (h : Q * (y * 2 ^ s) + r2 = X * 2 ^ s) (hr : r2 < y * 2 ^ s) : Q = X / y ∧ r2 / 2 ^ s = X % y := by
  have hp : 0 < 2 ^ s := Nat.pow_pos (by decide)
  have e1 : Q * (y * 2 ^ s) = Q * y * 2 ^ s := by rw [Nat.mul_assoc]
  have hle : Q * y ≤ X := by
    have : Q * y * 2 ^ s ≤ X * 2 ^ s := by omega
    exact Nat.le_of_mul_le_mul_right this hp
  obtain ⟨d, hd⟩ : ∃ d, X = Q * y + d := ⟨X - Q * y, by omega⟩
  have e2 : r2 = d * 2 ^ s := by
    rw [hd, Nat.add_mul] at h
    omega
  have hdy : d < y := by
    rw [e2] at hr
    exact Nat.lt_of_mul_lt_mul_right hr
  refine ⟨?_, ?_⟩
  · rw [hd, Nat.mul_comm Q, Nat.mul_add_div (by omega), Nat.div_eq_of_lt hdy, Nat.add_zero]
  · rw [e2, Nat.mul_div_cancel _ hp, hd, Nat.mul_comm Q, Nat.mul_add_mod, Nat.mod_eq_of_lt hdy]
theorem Digit.rest {num V q : Nat} (h : Digit num V q) : num - q * V < V := by
  have := h.lt
  have := h.le
  have e : (q + 1) * V = q * V + V := by rw [Nat.add_mul, Nat.one_mul]
  omega
theorem lin32 {q v0 : Nat} (h1 : q < b32) (h2 : v0 < b32) : mulW q v0 = q * v0 := by
  apply mulW_lt'
  have : q * v0 ≤ 4294967295 * 4294967295 := Nat.mul_le_mul (by unfold b32 at h1; omega) (by unfold b32 at h2; omega)
  omega
theorem lin32' {r u : Nat} (h1 : r < b32) (h2 : u < b32) : addW (mulW 4294967296 r) u = b32 * r + u := by
  unfold b32 at *
  rw [mulW_lt' (by omega), addW_lt' (by omega)]
end Go.Big
namespace Go.Proofs.YtekghemhccfhkaaGreatDoor
open Go.RowKit Go.Big
theorem lz_at {x : Nat} (h0 : 0 < x) (hx : x < 18446744073709551616) :
    ∃ s : Nat, s < 64 ∧ 9223372036854775808 ≤ x * 2 ^ s ∧ x * 2 ^ s < 18446744073709551616 ∧ ∀ w : World, Calls Tryz.prog 175 #[.int .u64 x] w fun e w' => e = .returned (.int .i64 s) ∧ w' = w := by
  obtain ⟨s, h1, h2, h3, h4⟩ := lz_exists h0 hx
  refine ⟨s, h1, h3, h4, fun w => ?_⟩
  have := Proofs.Tryz.bits_LeadingZeros64 (x : Int) w (by omega) (by omega)
  rw [Int.toNat_natCast, h2] at this
  exact this
set_option maxRecDepth 100000 in
set_option maxHeartbeats 2000000 in
theorem div64_big {hi lo y : Nat} (hhi : hi < y) (h0 : 0 < hi) (hy : y < 18446744073709551616) (hlo : lo < 18446744073709551616) (w : World) :
    Calls Tryz.prog 205 #[.int .u64 hi, .int .u64 lo, .int .u64 y] w fun e w' => e = .returned (.tuple #[.int .u64 (dvQ hi lo y), .int .u64 (dvR hi lo y)]) ∧ w' = w := by
  obtain ⟨s, hs, hs1, hs2, hlz⟩ := lz_at (x := y) (by omega) hy
  obtain ⟨t, ht⟩ : ∃ t, s + t = 64 := ⟨64 - s, by omega⟩
  obtain ⟨eY, hN⟩ := dv_names hhi hlo ht hs1 hs2
  have e64 : subW 64 s = t := by rw [subW_le (by omega) (by decide)]; omega
  generalize hYd : y * 2 ^ s = Y at *
  generalize hv1d : shrW Y 32 = v1 at *
  generalize hv0d : andW Y 4294967295 = v0 at *
  generalize hnd : orW (shlW hi s) (shrW lo t) = n at *
  generalize hu10d : shlW lo s = u10 at *
  generalize hu1d : shrW u10 32 = u1 at *
  generalize hu0d : andW u10 4294967295 = u0 at *
  have hv1p : 0 < v1 := by have := hN.hv1.1; unfold b32 at this; omega
  have hq : quoW n v1 = n / v1 := by
    rw [quoW, Nat.mod_eq_of_lt]
    exact Nat.lt_of_le_of_lt (Nat.div_le_self _ _) (by have := hN.hn; omega)
  have hr : subW n (mulW (n / v1) v1) = n % v1 := by
    have hd := Nat.div_add_mod n v1
    have hnn := hN.hn
    rw [mulW_lt' (by rw [Nat.mul_comm]; omega), subW_le (by rw [Nat.mul_comm]; omega) (by omega), Nat.mul_comm]; omega
  generalize hqd : n / v1 = q at *
  generalize hrd : n % v1 = r at *
  have hst := DgInv.start (n := n) (v0 := v0) hN.hv1.1 hN.hv1.2 hN.hu1
  rw [hqd, hrd] at hst
  have hy0 : ((y : Int) == 0) = false := by rw [beq_eq_false_iff_ne]; omega
  have hi0 : ((hi : Int) == 0) = false := by rw [beq_eq_false_iff_ne]; omega
  have HN := Lib.hid hN
  have HLZ := Lib.hid hlz
  have HY2 := Lib.hid hs2
  have HHY := Lib.hid hy
  have HLO := Lib.hid hlo
  clear hN hlz hqd hrd hs1 hs2 ht hYd hy hlo
  go_enter Tryz.func205, Tryz.ntmps205
  go_upto_block 0 with (go_at_call 175; refine (HLZ.out _).mono ?_; rintro e w1 ⟨rfl, rfl⟩)
  have HNN := Lib.hid HN.out.hn
  have HUU := Lib.hid HN.out.hu1
  have HST := Lib.hid hst
  clear hst
  go_cut [15, 16] (fun a _ wr => ∃ q1 : Nat, a = .int .u64 q1 ∧ w1 = wr ∧ Digit (n * b32 + u1) Y q1)

  case first =>
    have hV : Hid (Y = v1 * b32 + v0) := HN.out.nY
    go_wp2_with fail
    go_loopw [15, 16] (fun a b wr => w1 = wr ∧ ∃ q r : Nat, a = .int .u64 q ∧ b = .int .u64 r ∧ DgInv n u1 v1 v0 q r) (fun a _ _ => (intOf a).toNat)
    case atStart => exact ⟨rfl, _, _, rfl, rfl, HST.out⟩
    case round =>
      obtain ⟨rfl, q, r, rfl, rfl, hinv⟩ := hrel
      have hrl := hinv.rlt
      unfold b32 at hrl
      by_cases h1 : 4294967296 ≤ q ∨ addW (mulW 4294967296 r) u1 < mulW q v0
      · have hstep : 0 < q ∧ (q - 1) * v1 + (r + v1) = n ∧ n * b32 + u1 < (q - 1 + 1) * (v1 * b32 + v0) := by
          refine hinv.step HN.out.hv0 (by have := HNN.out; have := hV.out; omega) HUU.out ?_
          by_cases hq : 4294967296 ≤ q
          · exact .inl hq
          · refine .inr ?_
            have := h1.resolve_left hq
            rwa [lin32' hinv.rlt HUU.out, lin32 (by unfold b32; omega) HN.out.hv0] at this
        obtain ⟨hq0, heq, hup⟩ := hstep
        obtain ⟨p, hp⟩ : ∃ p, q = p + 1 := ⟨q - 1, by omega⟩
        have hsb : subW q 1 = p := by rw [subW_le (by omega) (by have := hinv.eq; have := HNN.out; have := HY2.out; have := Nat.le_mul_of_pos_right q hv1p; omega)]; omega
        have had : addW r v1 = r + v1 := addW_lt' (by have := HN.out.hv1.2; unfold b32 at this; omega)
        have hr1 : Hid ((q - 1) * v1 + (r + v1) = n) := heq
        have HUp := Lib.hid hup
        rw [hp, Nat.add_sub_cancel] at heq hup
        have HE := Lib.hid heq
        have HUp := Lib.hid hup
        have hgt : decide ((4294967296 : Int) ≤ (q : Int)) = true ∨ decide ((4294967296 : Int) ≤ (q : Int)) = false ∧ addW (mulW 4294967296 r) u1 < mulW q v0 := by
          by_cases hq : 4294967296 ≤ q
          · left; simp; omega
          · right; exact ⟨by simp; omega, h1.resolve_left hq⟩
        have HM : Hid (p < q) := (by omega : p < q)
        clear heq hup hinv h1 hp hq0 hrl hr1
        by_cases hb : b32 ≤ r + v1
        · have HD := Lib.hid (DgInv.exit HE.out HUp.out HN.out.hv0 (by have := HNN.out; have := hV.out; omega) hb)
          have hb' : decide ((4294967296 : Int) ≤ (r : Int) + (v1 : Int)) = true := by unfold b32 at hb; simp; omega
          clear hb
          rcases hgt with hq | ⟨hq, ht⟩
          · go_wp2_with (go_meet; exact ⟨p, rfl, rfl, by rw [hV.out]; exact HD.out⟩)
          · go_wp2_with (go_meet; exact ⟨p, rfl, rfl, by rw [hV.out]; exact HD.out⟩)
        · have HB := Lib.hid hb
          have hb' : decide ((4294967296 : Int) ≤ (r : Int) + (v1 : Int)) = false := by unfold b32 at hb; simp; omega
          clear hb
          rcases hgt with hq | ⟨hq, ht⟩
          · go_wp2_with fail
            go_roundw
            case rel => exact ⟨by trivial, p, r + v1, rfl, by go_num, HE.out, Nat.lt_of_not_le HB.out, HUp.out⟩
            case measure => have := HM.out; simp [intOf]; omega
          · go_wp2_with fail
            go_roundw
            case rel => exact ⟨by trivial, p, r + v1, rfl, by go_num, HE.out, Nat.lt_of_not_le HB.out, HUp.out⟩
            case measure => have := HM.out; simp [intOf]; omega
      · have hq : ¬ 4294967296 ≤ q := fun h => h1 (.inl h)
        have ht : ¬ addW (mulW 4294967296 r) u1 < mulW q v0 := fun h => h1 (.inr h)
        have hst : Digit (n * b32 + u1) (v1 * b32 + v0) q := hinv.stop (by rwa [lin32' hinv.rlt HUU.out, lin32 (by unfold b32; omega) HN.out.hv0] at ht)
        have HS := Lib.hid hst
        have hq' : decide ((4294967296 : Int) ≤ (q : Int)) = false := by simp; omega
        have ht' : mulW q v0 ≤ addW (mulW 4294967296 r) u1 := Nat.not_lt.1 ht
        clear hst h1 hinv hrl hq ht
        go_wp2_with (go_meet; exact ⟨q, rfl, rfl, by rw [hV.out]; exact HS.out⟩)

  case rest =>
    obtain ⟨q1, rfl, rfl, hd1⟩ := hcut
    have hm := hd1.rest
    have hd1l := hd1.le
    have h21 : subW (addW (mulW n 4294967296) u1) (mulW q1 Y) = n * b32 + u1 - q1 * Y := wrap_lin hd1l (by have := HY2.out; unfold b32 at *; omega)
    have HD1 := Lib.hid hd1
    obtain ⟨m, hmd⟩ : ∃ m, n * b32 + u1 - q1 * Y = m := ⟨_, rfl⟩
    rw [hmd] at h21 hm
    have HMD := Lib.hid hmd
    have HMM := Lib.hid hm
    have HUU0 := Lib.hid HN.out.hu0
    clear hd1 hd1l hmd
    have hq2 : quoW m v1 = m / v1 := by
      rw [quoW, Nat.mod_eq_of_lt]
      exact Nat.lt_of_le_of_lt (Nat.div_le_self _ _) (by have := HY2.out; omega)
    have hr2 : subW m (mulW (m / v1) v1) = m % v1 := by
      have hd := Nat.div_add_mod m v1
      have := HY2.out
      rw [mulW_lt' (by rw [Nat.mul_comm]; omega), subW_le (by rw [Nat.mul_comm]; omega) (by omega), Nat.mul_comm]; omega
    have hst0 := DgInv.start (n := m) (v0 := v0) HN.out.hv1.1 HN.out.hv1.2 HUU0.out
    generalize m / v1 = q2 at *
    generalize m % v1 = r2 at *
    have HST0 := Lib.hid hst0
    clear hst0 hm hq hr
    go_upto_block 2 with fail
    go_cut [18, 16] (fun a _ wr => ∃ q0 : Nat, a = .int .u64 q0 ∧ w1 = wr ∧ Digit (m * b32 + u0) Y q0)
    case first =>
      have hV : Hid (Y = v1 * b32 + v0) := HN.out.nY
      go_wp2_with fail
      go_loopw [18, 16] (fun a b wr => w1 = wr ∧ ∃ q r : Nat, a = .int .u64 q ∧ b = .int .u64 r ∧ DgInv m u0 v1 v0 q r) (fun a _ _ => (intOf a).toNat)
      case atStart => exact ⟨rfl, _, _, rfl, rfl, HST0.out⟩
      case round =>
        obtain ⟨rfl, q, r, rfl, rfl, hinv⟩ := hrel
        have hrl := hinv.rlt
        unfold b32 at hrl
        by_cases h1 : 4294967296 ≤ q ∨ addW (mulW 4294967296 r) u0 < mulW q v0
        · have hstep : 0 < q ∧ (q - 1) * v1 + (r + v1) = m ∧ m * b32 + u0 < (q - 1 + 1) * (v1 * b32 + v0) := by
            refine hinv.step HN.out.hv0 (by have := HMM.out; have := hV.out; omega) HUU0.out ?_
            by_cases hq : 4294967296 ≤ q
            · exact .inl hq
            · refine .inr ?_
              have := h1.resolve_left hq
              rwa [lin32' hinv.rlt HUU0.out, lin32 (by unfold b32; omega) HN.out.hv0] at this
          obtain ⟨hq0, heq, hup⟩ := hstep
          obtain ⟨p, hp⟩ : ∃ p, q = p + 1 := ⟨q - 1, by omega⟩
          have hsb : subW q 1 = p := by rw [subW_le (by omega) (by have := hinv.eq; have := HMM.out; have := HY2.out; have := Nat.le_mul_of_pos_right q hv1p; omega)]; omega
          have had : addW r v1 = r + v1 := addW_lt' (by have := HN.out.hv1.2; unfold b32 at this; omega)
          have hr1 : Hid ((q - 1) * v1 + (r + v1) = m) := heq
          have HUp := Lib.hid hup
          rw [hp, Nat.add_sub_cancel] at heq hup
          have HE := Lib.hid heq
          have HUp := Lib.hid hup
          have hgt : decide ((4294967296 : Int) ≤ (q : Int)) = true ∨ decide ((4294967296 : Int) ≤ (q : Int)) = false ∧ addW (mulW 4294967296 r) u0 < mulW q v0 := by
            by_cases hq : 4294967296 ≤ q
            · left; simp; omega
            · right; exact ⟨by simp; omega, h1.resolve_left hq⟩
          have HM : Hid (p < q) := (by omega : p < q)
          clear heq hup hinv h1 hp hq0 hrl hr1
          by_cases hb : b32 ≤ r + v1
          · have HD := Lib.hid (DgInv.exit HE.out HUp.out HN.out.hv0 (by have := HMM.out; have := hV.out; omega) hb)
            have hb' : decide ((4294967296 : Int) ≤ (r : Int) + (v1 : Int)) = true := by unfold b32 at hb; simp; omega
            clear hb
            rcases hgt with hq | ⟨hq, ht⟩
            · go_wp2_with (go_meet; exact ⟨p, rfl, rfl, by rw [hV.out]; exact HD.out⟩)
            · go_wp2_with (go_meet; exact ⟨p, rfl, rfl, by rw [hV.out]; exact HD.out⟩)
          · have HB := Lib.hid hb
            have hb' : decide ((4294967296 : Int) ≤ (r : Int) + (v1 : Int)) = false := by unfold b32 at hb; simp; omega
            clear hb
            rcases hgt with hq | ⟨hq, ht⟩
            · go_wp2_with fail
              go_roundw
              case rel => exact ⟨by trivial, p, r + v1, rfl, by go_num, HE.out, Nat.lt_of_not_le HB.out, HUp.out⟩
              case measure => have := HM.out; simp [intOf]; omega
            · go_wp2_with fail
              go_roundw
              case rel => exact ⟨by trivial, p, r + v1, rfl, by go_num, HE.out, Nat.lt_of_not_le HB.out, HUp.out⟩
              case measure => have := HM.out; simp [intOf]; omega
        · have hq : ¬ 4294967296 ≤ q := fun h => h1 (.inl h)
          have ht : ¬ addW (mulW 4294967296 r) u0 < mulW q v0 := fun h => h1 (.inr h)
          have hst : Digit (m * b32 + u0) (v1 * b32 + v0) q := hinv.stop (by rwa [lin32' hinv.rlt HUU0.out, lin32 (by unfold b32; omega) HN.out.hv0] at ht)
          have HS := Lib.hid hst
          have hq' : decide ((4294967296 : Int) ≤ (q : Int)) = false := by simp; omega
          have ht' : mulW q v0 ≤ addW (mulW 4294967296 r) u0 := Nat.not_lt.1 ht
          clear hst h1 hinv hrl hq ht
          go_wp2_with (go_meet; exact ⟨q, rfl, rfl, by rw [hV.out]; exact HS.out⟩)


    case rest =>
      obtain ⟨q0, rfl, rfl, hd0⟩ := hcut
      have hfin := two_digits (b := b32) HD1.out (by rw [HMD.out]; exact hd0)
      rw [HMD.out] at hfin
      have hrest := hd0.rest
      have h2 : subW (addW (mulW m 4294967296) u0) (mulW q0 Y) = m * b32 + u0 - q0 * Y := wrap_lin hd0.le (by have := HY2.out; unfold b32 at *; omega)
      have hq1 := HD1.out.lt32 HNN.out HUU.out
      have hq0 := hd0.lt32 HMM.out HUU0.out
      have h1 : addW (mulW q1 4294967296) q0 = q1 * b32 + q0 := by unfold b32 at *; rw [mulW_lt' (by omega), addW_lt' (by omega)]
      have hUX := HN.out.hU
      have hYX := HN.out.hY
      obtain ⟨z, hz⟩ : ∃ z, m * b32 + u0 - q0 * Y = z := ⟨_, rfl⟩
      rw [hz] at h2 hfin
      clear hz
      rw [← hUX, ← hYX] at hfin
      obtain ⟨f1, f2⟩ := dv_fin hfin.1 hfin.2
      have hsh : shrW z s = dvR hi lo y := by rw [shrW_eq (by omega), f2]; rfl
      have h1' : addW (mulW q1 4294967296) q0 = dvQ hi lo y := by rw [h1, f1]; rfl
      clear h1 hfin f1 f2 hUX hYX hq1 hq0 hrest hd0
      go_wp2_with fail
      go_ret2
      exact ⟨rfl, rfl⟩
end Go.Proofs.YtekghemhccfhkaaGreatDoor
