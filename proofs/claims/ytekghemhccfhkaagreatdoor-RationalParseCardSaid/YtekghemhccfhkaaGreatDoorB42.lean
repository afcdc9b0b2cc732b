/-
  Walks of the program's functions: Ops32, NSmall, NShift.
-/
import Derived.Test.YtekghemhccfhkaaGreatDoorB05
import Derived.Test.YtekghemhccfhkaaGreatDoorB03
import Derived.Test.YtekghemhccfhkaaGreatDoorB04
namespace Go.Big
open Go Go.RowKit
def or32 (x y : Nat) : Nat := (x % 4294967296) ||| (y % 4294967296)
def shr32 (x n : Nat) : Nat := x / 2 ^ (min n 32)
def shl32 (x n : Nat) : Nat := (x * 2 ^ (min n 32)) % 4294967296
theorem wrap32_nat (n : Nat) : IntKind.u32.wrap (n : Int) = ((n % 4294967296 : Nat) : Int) := by
  simp [IntKind.wrap, IntKind.signed, IntKind.bits]
theorem run_or32 (x y : Nat) : Op.intBits .or .u32 (x : Int) (y : Int) = pure (.int .u32 (or32 x y : Nat)) := by
  have h1 : or32 x y < 4294967296 := Nat.or_lt_two_pow (n := 32) (Nat.mod_lt _ (by decide)) (Nat.mod_lt _ (by decide))
  have e : IntKind.u32.wrap ((BitVec.ofInt 32 x ||| BitVec.ofInt 32 y).toNat : Int) = (or32 x y : Nat) := by
    rw [wrap32_nat]
    congr 1
    rw [BitVec.toNat_or]
    simp [or32] at h1 ⊢
    exact h1
  simp only [Op.intBits, IntKind.bits]
  rw [← e]; rfl
theorem bits_or32 (x y : Nat) : bits BinOp.or IntKind.u32 (x : Int) (y : Int) = ((or32 x y : Nat) : Int) := by
  have h1 : or32 x y < 4294967296 := Nat.or_lt_two_pow (n := 32) (Nat.mod_lt _ (by decide)) (Nat.mod_lt _ (by decide))
  have e : IntKind.u32.wrap ((BitVec.ofInt 32 x ||| BitVec.ofInt 32 y).toNat : Int) = (or32 x y : Nat) := by
    rw [wrap32_nat]
    congr 1
    rw [BitVec.toNat_or]
    simp [or32] at h1 ⊢
    exact h1
  exact e
theorem run_shr32b (x n : Nat) (ky : IntKind) : Op.shift .shr .u32 (x : Int) ky (n : Int) = pure (.int .u32 (shr32 x n : Nat)) := by
  have h : ¬ ((n : Int) < 0) := by omega
  have e : (x : Int).fdiv (2 ^ (min n 32)) = (shr32 x n : Nat) := by
    rw [shr32, Int.fdiv_eq_ediv_of_nonneg _ (by have : (0:Int) < 2 ^ min n 32 := Int.pow_pos (by decide); omega)]
    simp
  simp only [Op.shift, h, if_false, IntKind.bits, Int.toNat_natCast]
  rw [← e]
theorem run_shl32b (x n : Nat) (ky : IntKind) : Op.shift .shl .u32 (x : Int) ky (n : Int) = pure (.int .u32 (shl32 x n : Nat)) := by
  have h : ¬ ((n : Int) < 0) := by omega
  have e : IntKind.u32.wrap ((x : Int) * 2 ^ (min n 32)) = (shl32 x n : Nat) := by
    have := wrap32_nat (x * 2 ^ (min n 32))
    rw [shl32, ← this]; simp
  simp only [Op.shift, h, if_false, IntKind.bits, Int.toNat_natCast]
  rw [← e]
theorem run_or32mod (x y : Nat) : Op.intBits .or .u32 (x : Int) ((y : Int) % 4294967296) = pure (.int .u32 (or32 x (y % 4294967296) : Nat)) := run_or32 x (y % 4294967296)
theorem run_shlW32 (x : Nat) (ky : IntKind) : Op.shift .shl .u64 (x : Int) ky 32 = pure (.int .u64 (shlW x 32 : Nat)) := run_shlW x 32 ky
theorem or_shl32 {r x : Nat} (hr : r < 4294967296) (hx : x < 4294967296) : orW (shlW r 32) x = r * 4294967296 + x := by
  unfold orW shlW
  have e1 : r * 2 ^ (min 32 64) % 18446744073709551616 = 2 ^ 32 * r := by
    have : (2 : Nat) ^ (min 32 64) = 4294967296 := by decide
    rw [this]; omega
  rw [e1, Nat.mod_eq_of_lt (by omega), Nat.mod_eq_of_lt (a := x) (by omega), ← Nat.two_pow_add_eq_or_of_lt (i := 32) (by omega)]
  omega
attribute [go_sem ↓] run_or32 run_or32mod run_shr32b run_shl32b run_shlW32
end Go.Big
namespace Go.Proofs.YtekghemhccfhkaaGreatDoor
open Go.RowKit Go.Big
/-- What smallDiv gives. -/
def SdPost (w : World) (m d : Nat) (e : Ending) (w' : World) : Prop := ∃ v, e = .returned (.tuple #[v, .int .u32 ((m % d : Nat) : Int)]) ∧ NatV w' .u32 B32 v (m / d) ∧ Below w.heap.size w w'
/-- The same, with the block that the quotient lies in. -/
def SdPost2 (w : World) (m d : Nat) (e : Ending) (w' : World) : Prop := ∃ k cap, e = .returned (.tuple #[.slice (some ⟨w.heap.size, 0, none⟩) k cap, .int .u32 ((m % d : Nat) : Int)]) ∧ NatV w' .u32 B32 (.slice (some ⟨w.heap.size, 0, none⟩) k cap) (m / d) ∧ Below w.heap.size w w'
theorem sd_quo {r x d : Nat} (hr : r < d) (_hd : d < 4294967296) (hx : x < 4294967296) : quoW (r * 4294967296 + x) d % 4294967296 = (r * 4294967296 + x) / d := by
  have h1 : (r * 4294967296 + x) / d < 4294967296 := Nat.div_lt_of_lt_mul (by
    have : (r + 1) * 4294967296 ≤ d * 4294967296 := Nat.mul_le_mul_right _ hr
    omega)
  unfold quoW
  generalize (r * 4294967296 + x) / d = q at *
  omega
set_option maxRecDepth 100000 in
set_option maxHeartbeats 1000000 in
theorem smallDiv_core (ao : Option Addr) (capa : Nat) (la : List Nat) (d : Nat) (w : World) (sa : SlA w .u32 ao capa la) (wa : Wd B32 la) (hd0 : 0 < d) (hd : d < 4294967296) :
    Calls Tryz.prog 106 #[.slice ao la.length capa, .int .u32 d] w (SdPost2 w (val B32 la) d) := by
  have hm := sa.len_le
  have hmk := mk32 (la.length) (la.length) rfl (by omega) w
  have hr0 : isRow (w.alloc (.cells (cellsOf .u32 (zeros (la.length))) 73)) w.heap.size 73 .u32 (zeros (la.length)) := isRow_alloc _ _ _ _
  have hb0 : Below w.heap.size w (w.alloc (.cells (cellsOf .u32 (zeros (la.length))) 73)) := (Below.refl _ _).alloc (Nat.le_refl _) _
  generalize hW : w.alloc (.cells (cellsOf .u32 (zeros (la.length))) 73) = W at *
  have HR := Lib.hid hr0
  clear hW hr0
  go_enter Tryz.func106, Tryz.ntmps106
  go_wp2_with fail
  go_loopw [7, 8] (fun c i wr => ∃ (k rn : Nat) (cur : List Nat), k ≤ la.length ∧ i = .int .i64 ((k : Int) - 1) ∧ c = .int .u64 rn ∧ NSd B32 la d k cur rn ∧ isRow wr w.heap.size 73 .u32 cur ∧ Below w.heap.size w wr)
    (fun _ i _ => (intOf i + 1).toNat)
  case atStart => exact ⟨la.length, 0, _, Nat.le_refl _, rfl, rfl, NSd.start (by decide) la hd0, HR.out, hb0⟩
  case round =>
    clear hb0 HR
    obtain ⟨k, rn, cur, hk, rfl, rfl, hinv, hr, hb⟩ := hrel
    have hl := hinv.len
    have hrn := hinv.rlt
    rcases Nat.eq_zero_or_pos k with hk0 | hpos
    · subst hk0
      have hv := hinv.done
      have hw := hinv.wd
      have hs2 := hr.sl (cap := la.length) (by rw [hl]; exact Nat.le_refl _) (by rw [hl]; omega)
      have htr := ntrim_at hs2 hl
      have H := Lib.hid htr
      have HD := Lib.hid hv
      have HS := Lib.hid hs2
      have HBB := Lib.hid hb
      have HW := Lib.hid hw
      clear htr hv hs2 hb hr hw hl
      have ew : (rn : Int) % 4294967296 = rn := by omega
      go_wp2_with fail
      refine H.out.mono ?_
      rintro e w1 ⟨n', hn', rfl, rfl, hz, hvv⟩
      have hv := NatV.mk HS.out HW.out hn' hz
      rw [hvv, HD.out.1] at hv
      have HVV := Lib.hid hv
      clear H hv hz hvv hn'
      go_wp2_with fail
      exact bodyPost_ret (v := .tuple #[.slice (some ⟨w.heap.size, 0, none⟩) n' la.length, .int .u32 (rn : Int)]) (by simp [results, Tryz.results106, go_sem]) rfl ⟨n', la.length, by rw [← HD.out.2], HVV.out, HBB.out⟩
    · obtain ⟨i, rfl⟩ : ∃ i, k = i + 1 := ⟨k - 1, by omega⟩
      have hlt : i < la.length := by omega
      obtain ⟨ba, offa, rfl, hba, hca⟩ := sa.at hlt
      have ca := (hb.cell (p := ⟨ba, offa + i, none⟩) hba).trans (hca i hlt)
      have xa : nth la i < 4294967296 := wa.nth hlt
      have c0 := hr.cell (i := i) (by omega)
      have f0 := hr.frozen i
      have e1 : (((i + 1 : Nat) : Int) - 1) = i := by omega
      have eo := or_shl32 (r := rn) (x := nth la i) (by omega) xa
      have eq := sd_quo hrn hd xa
      have HN := Lib.hid (hinv.step wa hlt)
      have HE := Lib.hid (And.intro eo eq)
      rw [e1]
      clear eo eq e1
      go_wp2_with fail
      go_roundw
      case rel =>
        rw [HE.out.1]
        have e2 : ((quoW (rn * 4294967296 + nth la i) d : Nat) : Int) % 4294967296 = (((rn * 4294967296 + nth la i) / d : Nat) : Int) := by rw [← HE.out.2]; rfl
        rw [e2]
        exact ⟨i, _, _, by omega, rfl, rfl, HN.out, hr.storeRow i _, hb.setCell (Nat.le_refl _) _⟩
      case measure => simp [intOf]
theorem smallDiv_fresh {v : Value} {m d : Nat} {w : World} (h : NatV w .u32 B32 v m) (hd0 : 0 < d) (hd : d < 4294967296) : Calls Tryz.prog 106 #[v, .int .u32 d] w (SdPost2 w m d) := by
  obtain ⟨ao, cap, l, rfl, hs, hw, _, rfl⟩ := h
  exact smallDiv_core ao cap l d w hs hw hd0 hd
theorem smallDiv_any {v : Value} {m d : Nat} {w : World} (h : NatV w .u32 B32 v m) (hd0 : 0 < d) (hd : d < 4294967296) : Calls Tryz.prog 106 #[v, .int .u32 d] w (SdPost w m d) := by
  refine (smallDiv_fresh h hd0 hd).mono ?_
  rintro e w' ⟨k, cap, rfl, hv, hb⟩
  exact ⟨_, rfl, hv, hb⟩
end Go.Proofs.YtekghemhccfhkaaGreatDoor
namespace Go.Proofs.YtekghemhccfhkaaGreatDoor
open Go.RowKit Go.Big
/-- What shiftLeft gives: a row of its own. -/
def ShPost (w : World) (n s m : Nat) (e : Ending) (w' : World) : Prop :=
  ∃ cur, e = .returned (.slice (some ⟨w.heap.size, 0, none⟩) (n + 1) (n + 1)) ∧ isRow w' w.heap.size 73 .u32 cur ∧ cur.length = n + 1 ∧ Wd B32 cur ∧ val B32 cur = 2 ^ s * m ∧ Below w.heap.size w w'
theorem shl_nat {x s : Nat} (hs : s ≤ 32) (hx : x < 4294967296) : shlW x s = x * 2 ^ s := by
  unfold shlW
  rw [Nat.min_eq_left (by omega), Nat.mod_eq_of_lt]
  have h1 : 2 ^ s ≤ 2 ^ 32 := Nat.pow_le_pow_right (by decide) hs
  have h2 : x * 2 ^ s ≤ 4294967295 * 2 ^ 32 := Nat.mul_le_mul (by omega) h1
  exact Nat.lt_of_le_of_lt h2 (by decide)
theorem or32_low {x v s : Nat} (h : s < 32) (hx : x < 2 ^ s) : or32 x (v * 2 ^ s % 4294967296) = x + v * 2 ^ s % 4294967296 := by
  unfold or32
  have h1 : 2 ^ s ≤ 2 ^ 32 := Nat.pow_le_pow_right (by decide) (by omega)
  have h2 : x < 4294967296 := Nat.lt_of_lt_of_le hx h1
  rw [Nat.mod_mod, Nat.mod_eq_of_lt h2]
  exact or_low (s := s) (t := 32 - s) (by omega) hx
set_option maxRecDepth 100000 in
set_option maxHeartbeats 1000000 in
theorem nshl_core (ao : Option Addr) (capa : Nat) (la : List Nat) (s : Nat) (w : World) (sa : SlA w .u32 ao capa la) (wa : Wd B32 la) (hs : s < 32) (hK : la.length < 1099511627776) :
    Calls Tryz.prog 159 #[.slice ao la.length capa, .int .u64 s] w (ShPost w la.length s (val B32 la)) := by
  have hmk := mk32 (la.length + 1) (la.length + 1) rfl (by omega) w
  have hr0 : isRow (w.alloc (.cells (cellsOf .u32 (zeros (la.length + 1))) 73)) w.heap.size 73 .u32 (zeros (la.length + 1)) := isRow_alloc _ _ _ _
  have hb0 : Below w.heap.size w (w.alloc (.cells (cellsOf .u32 (zeros (la.length + 1))) 73)) := (Below.refl _ _).alloc (Nat.le_refl _) _
  generalize hW : w.alloc (.cells (cellsOf .u32 (zeros (la.length + 1))) 73) = W at *
  have HR := Lib.hid hr0
  clear hW hr0
  go_enter Tryz.func159, Tryz.ntmps159
  go_wp2_with fail
  go_loopw [6] (fun i wr => ∃ (k : Nat) (cur : List Nat), k ≤ la.length ∧ i = .int .i64 k ∧ NShl la s k cur ∧ isRow wr w.heap.size 73 .u32 cur ∧ Below w.heap.size w wr)
    (fun i _ => la.length - (intOf i).toNat)
  case atStart => exact ⟨0, _, Nat.zero_le _, rfl, NShl.start la s, HR.out, hb0⟩
  case round =>
    clear hb0 HR
    obtain ⟨k, cur, hk, rfl, hinv, hr, hb⟩ := hrel
    have hl := hinv.len
    by_cases hlt : k < la.length
    · obtain ⟨ba, offa, rfl, hba, hca⟩ := sa.at hlt
      have ca := (hb.cell (p := ⟨ba, offa + k, none⟩) hba).trans (hca k hlt)
      have xa : nth la k < 4294967296 := wa.nth hlt
      have c0 := hr.cell (i := k) (by omega)
      have f0 := hr.frozen k
      have es := shl_nat (Nat.le_of_lt hs) xa
      have eo := or32_low (v := nth la k) hs hinv.low
      have HN := Lib.hid (hinv.step (t := 32 - s) (by omega) wa hlt)
      have f1 : ∀ y : Nat, (wr.setCell ⟨w.heap.size, k, none⟩ (.int .u32 (y : Int))).frozen? ⟨w.heap.size, k + 1, none⟩ = false := fun y => (hr.storeRow k y).frozen (k + 1)
      have g1 : ∀ y : Nat, (wr.setCell ⟨w.heap.size, k, none⟩ (.int .u32 (y : Int))).cell? ⟨w.heap.size, k + 1, none⟩ = some (.int .u32 (nth cur (k + 1))) := fun y => by
        rw [(hr.storeRow k y).cell (by rw [List.length_set]; omega), nth_set_ne (by omega)]
      have HE := Lib.hid (And.intro es eo)
      have eh : nth la k * 2 ^ s / 4294967296 % 4294967296 = nth la k * 2 ^ s / 4294967296 := Nat.mod_eq_of_lt (Nat.lt_trans (shl_high (s := s) (t := 32 - s) (by omega) xa) (Nat.pow_lt_pow_right (by decide) hs))
      have HH := Lib.hid eh
      clear es eo eh
      go_wp2_with fail
      go_roundw
      case rel =>
        rw [HE.out.1, HE.out.2, shrW32]
        have e2 : ((nth la k * 2 ^ s / 4294967296 : Nat) : Int) % 4294967296 = ((nth la k * 2 ^ s / 4294967296 : Nat) : Int) := by rw [show (4294967296 : Int) = ((4294967296 : Nat) : Int) from rfl, ← Int.natCast_emod, HH.out]
        rw [e2]
        exact ⟨k + 1, _, by omega, rfl, HN.out, (hr.storeRow k _).storeRow (k + 1) _, (hb.setCell (Nat.le_refl _) _).setCell (Nat.le_refl _) _⟩
      case measure => simp [intOf]; omega
    · have hka : k = la.length := by omega
      subst hka
      have HD := Lib.hid hinv.done
      have HL := Lib.hid (And.intro hl hinv.wd)
      have HR := Lib.hid (And.intro hr hb)
      clear hl hr hb hinv
      go_wp2_with fail
      go_ret
      exact ⟨cur, rfl, HR.out.1, HL.out.1, HL.out.2, HD.out, HR.out.2⟩
end Go.Proofs.YtekghemhccfhkaaGreatDoor
