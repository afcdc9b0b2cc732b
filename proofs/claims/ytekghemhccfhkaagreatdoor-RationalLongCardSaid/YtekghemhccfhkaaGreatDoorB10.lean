/-
  Walks of the program's functions: Widen.
-/
import Derived.Test.YtekghemhccfhkaaGreatDoorB09
import Derived.Lib.AppendZerosOnto
namespace Go.Big
open Go Go.RowKit
variable {P : Program}
theorem growBy_le (n : Nat) : ∀ (r c : Nat), Builtin.growBy n r c ≤ max c (n + (n + 768) / 4)
  | 0, c => by simp only [Builtin.growBy]; omega
  | r + 1, c => by
    unfold Builtin.growBy
    split
    · omega
    · have := growBy_le n r (c + (c + 768) / 4)
      omega
theorem nextcap_le (n c : Nat) (h : c ≤ n) : Builtin.nextslicecap n c ≤ 2 * n + 1024 := by
  unfold Builtin.nextslicecap
  split
  · omega
  · split
    · omega
    · have := growBy_le n 4 c
      omega
theorem run_firstCells (w : World) {k : IntKind} {ao : Option Addr} {cap : Nat} {l : List Nat} (h : SlA w k ao cap l) :
    (Builtin.firstCells 1 l.length (.slice ao l.length cap)).run P w = .ok (cellsOf k l) w := by
  rcases Nat.eq_zero_or_pos l.length with h0 | hpos
  · have : l = [] := List.eq_nil_of_length_eq_zero h0
    subst this
    cases ao with
    | none => exact run_firstCells_none (P := P) w 1 0 0 cap
    | some b => exact run_firstCells_some (P := P) w 1 0 b 0 cap [] rfl (by simp)
  · obtain ⟨b, o, rfl, _, hc⟩ := h.at hpos
    refine run_firstCells_some (P := P) w 1 l.length ⟨b, o, none⟩ l.length cap (l.map fun (n : Nat) => Value.int k (Int.ofNat n)) (by simp) ?_
    intro j v hj
    have hjl : j < l.length := by
      rcases Nat.lt_or_ge j l.length with h | h
      · exact h
      · simp [List.getElem?_eq_none h] at hj
    have e : (⟨b, o, none⟩ : Addr).add j = ⟨b, o + j, none⟩ := by unfold Addr.add; split <;> simp_all
    rw [e, hc j hjl]
    simp [hjl] at hj
    rw [← hj, nth_lt hjl]
theorem cells_append (k : IntKind) (a b : List Nat) : cellsOf k a ++ cellsOf k b = cellsOf k (a ++ b) := by
  unfold cellsOf
  rw [List.map_append, List.append_toArray]
theorem zeroCells_eq (k : IntKind) (n : Nat) : Builtin.zeroCells (Value.int k 0).cells n = cellsOf k (zeros n) := by
  apply Array.ext
  · simp [Builtin.zeroCells, cellsOf, zeros, Value.cells]
  · intro i h1 h2
    have e : i % 1 = 0 := Nat.mod_one i
    simp [Builtin.zeroCells, cellsOf, Value.cells, zeros, e]
theorem wpList_append_run {w : World} {ops : Array Oper} {rest : List Oper} {o : Oper} {a : Act} {Q : Exit → Act → World → Prop} (hg : o.guard = none) (s x : Operand) (t tx : TypeId)
    (hop : o.op = Op.call { callee := Callee.builtin Builtin.append, args := #[s, x], argTypes := #[t, tx] }) (vs vx : Value) (hs : a.eval s = vs) (hx : a.eval x = vx) (v : Value) (w' : World)
    (hrun : (Builtin.append_ #[t, tx] o.type #[vs, vx]).run P w = .ok v w') (h : wpList P ops Q rest (a.put o.dst v) w') : wpList P ops Q (o :: rest) a w := by
  refine wpList_plain hg fun K hK' => ?_
  unfold Oper.wp
  simp [execOp, hop, resolve, invoke, builtin, hs, hx, hrun, Result.andThen]
  exact hK' _ _ h
/-- 'append(s, make([]T, n)...)', s full. -/
theorem run_append_zeros (t tn ty e : TypeId) (kn : IntKind) (k : IntKind) (ht : P.underlying t = some (.slice e)) (htn : P.underlying tn = some (.int kn)) (bytes : Nat)
    (hi : (P.info? e).map (fun i => (i.zero, i.size, i.bytes)) = some (some (.int k 0), 1, bytes)) (hby : bytes ≤ 8)
    {w : World} {ao : Option Addr} {l : List Nat} {n : Nat} (hs : SlA w k ao l.length l) (h0 : 0 < n) (hn : l.length + n ≤ 1099511627776) :
    ∃ cap, l.length + n ≤ cap ∧ (Builtin.append_ #[t, tn] ty #[.slice ao l.length l.length, .int .i64 n]).run P w =
      .ok (.slice (some ⟨w.heap.size, 0, none⟩) (l.length + n) cap) (w.drew.alloc (.cells (cellsOf k (l ++ (zeros n ++ zeros (cap - (l.length + n))))) e)) := by
  obtain ⟨i, hi', hi⟩ : ∃ i, P.info? e = some i ∧ (i.zero, i.size, i.bytes) = (some (.int k 0), 1, bytes) := by
    cases hq : P.info? e with
    | none => rw [hq] at hi; cases hi
    | some i => rw [hq] at hi; exact ⟨i, rfl, by simpa using hi⟩
  simp only [Prod.mk.injEq] at hi
  have hb : i.bytes ≤ 8 := by omega
  have hnext : Builtin.nextslicecap (l.length + n) l.length ≤ 2 * (l.length + n) + 1024 := nextcap_le _ _ (by omega)
  have hold := run_firstCells (P := P) w.drew (l := l) (hs.below (below_drewN (Below.refl _ _) 1))
  have hol : (cellsOf k l) = (l.map fun (n : Nat) => Value.int k (Int.ofNat n)).toArray := rfl
  rw [hol] at hold
  have h63 : ((l.length + n : Nat) : Int) ≤ 9223372036854775807 := by omega
  have hn1 : n ≤ 1099511627776 := by omega
  have h48 : n * i.bytes ≤ 281474976710656 := by
    have h1 : n * i.bytes ≤ n * 8 := Nat.mul_le_mul_left _ hb
    omega
  have hfit : Builtin.nextslicecap (l.length + n) l.length * i.bytes ≤ 281474976710656 := by
    have h1 : Builtin.nextslicecap (l.length + n) l.length * i.bytes ≤ Builtin.nextslicecap (l.length + n) l.length * 8 := Nat.mul_le_mul_left _ hb
    omega
  have := Lib.run_append_grow_zeros (P := P) w t tn ty e i (.int k 0) .i64 kn ht htn hi' hi.1 ao l.length l.length (l.map fun (n : Nat) => Value.int k (Int.ofNat n)) (by rw [hi.2.1]; exact hold) n h0 (by omega) (by omega) h63 h48 hfit
  refine ⟨_, grownCap_ge w (l.length + n) l.length e, ?_⟩
  rw [this, ← hol, zeroCells_eq, zeroCells_eq, cells_append, cells_append, List.append_assoc]
end Go.Big
namespace Go.Proofs.YtekghemhccfhkaaGreatDoor
open Go.RowKit Go.Big
/-- A slice comes back that reads l. -/
def RetSl (w : World) (l : List Nat) (n : Nat) (e : Ending) (w' : World) : Prop := ∃ ao cap, e = .returned (.slice ao n cap) ∧ SlA w' .u64 ao cap l ∧ Below w.heap.size w w'
set_option maxRecDepth 100000 in
set_option maxHeartbeats 400000 in
theorem clip_any (ao : Option Addr) (n cap : Nat) (h : n ≤ cap) (w : World) : Calls Tryz.prog 227 #[.slice ao n cap] w fun e w' => e = .returned (.slice ao n n) ∧ w' = w := by
  have hsl : (Instr.slice 108 (.slice ao n cap) none (some (.int .i64 (n : Int))) (some (.int .i64 (n : Int)))).run Tryz.prog w = .ok (.slice ao n n) w := by
    have ha : ∀ a : Addr, a.add 0 = a := fun a => by simp [Addr.add]
    have hq : (Tryz.prog.info? 71).map (·.size) = some 1 := by kernel_rfl
    cases hi : Tryz.prog.info? 71 with
    | none => rw [hi] at hq; cases hq
    | some i => simp [Instr.slice, run_underlying Tryz.underlying108, Instr.sliceBounds, Instr.sliceBound, asIntOf, h, sizeOf, typeInfo, hi, ha]
  go_enter Tryz.func227, Tryz.ntmps227
  go_wp2_with fail
  go_ret
  exact ⟨rfl, rfl⟩
set_option maxRecDepth 100000 in
set_option maxHeartbeats 400000 in
/-- widen -/
theorem widen_any {ao : Option Addr} {cap n size : Nat} {l : List Nat} {w : World} (sa : SlA w .u64 ao cap l) (hn : l.length = n) (hs : n ≤ size) (hK : size ≤ 1099511627776) :
    Calls Tryz.prog 221 #[.slice ao n cap, .int .i64 size] w (RetSl w (l ++ zeros (size - n)) size) := by
  subst hn
  by_cases he : l.length = size
  · have hz : l ++ zeros (size - l.length) = l := by rw [he, Nat.sub_self]; simp [zeros]
    rw [hz]
    have he' : ((l.length : Int) == (size : Int)) = true := by rw [beq_iff_eq]; omega
    have SA := Lib.hid sa
    have HE0 := Lib.hid he
    clear hz he hs sa
    go_enter Tryz.func221, Tryz.ntmps221
    go_wp2_with fail
    go_ret
    exact ⟨ao, cap, by rw [← HE0.out]; rfl, SA.out, Below.refl _ _⟩
  · have he' : ((l.length : Int) == (size : Int)) = false := by rw [beq_eq_false_iff_ne]; omega
    obtain ⟨m, hm⟩ : ∃ m, size = l.length + m := ⟨size - l.length, by omega⟩
    have hd : (size : Int) - (l.length : Int) = (m : Int) := by omega
    have hz : l ++ zeros (size - l.length) = l ++ zeros m := by congr 2; omega
    rw [hz]
    have hcl := clip_any ao l.length cap sa.le w
    have ss : SlA w .u64 ao l.length l := ⟨Nat.le_refl _, sa.max, sa.cells⟩
    obtain ⟨c2, hc2, hap⟩ := run_append_zeros (P := Tryz.prog) 108 3 108 71 .i64 .u64 Tryz.underlying108 Tryz.underlying3 8 (by kernel_rfl) (by decide) ss (n := m) (by omega) (by omega)
    have hr := isRow_alloc w.drew 71 .u64 (l ++ (zeros m ++ zeros (c2 - (l.length + m))))
    have hb : Below w.heap.size w (w.drew.alloc (.cells (cellsOf .u64 (l ++ (zeros m ++ zeros (c2 - (l.length + m))))) 71)) := ((Below.refl _ _).drew).alloc (Nat.le_refl _) _
    have hsl : SlA (w.drew.alloc (.cells (cellsOf .u64 (l ++ (zeros m ++ zeros (c2 - (l.length + m))))) 71)) .u64 (some ⟨w.heap.size, 0, none⟩) c2 (l ++ zeros m) := by
      have := isRow.seg (pre := []) (seg := l ++ zeros m) (post := zeros (c2 - (l.length + m))) (cap := c2) (by rw [List.nil_append, List.append_assoc]; exact hr) (by simp [zeros]; omega) (by simp [zeros]; omega)
      exact this
    generalize w.drew.alloc (.cells (cellsOf .u64 (l ++ (zeros m ++ zeros (c2 - (l.length + m))))) 71) = W at *
    have HC := Lib.hid hcl
    have HS := Lib.hid hsl
    have hlen : l.length + m = size := hm.symm
    have HL := Lib.hid hlen
    clear hcl hsl hz he hs hm hr ss sa hlen
    go_enter Tryz.func221, Tryz.ntmps221
    go_wp2_with fail
    refine HC.out.mono ?_
    rintro e w1 ⟨rfl, rfl⟩
    have HAP := Lib.hid hap
    clear hap
    go_wp2_with (at_builtin; refine wpList_append_run rfl (.tmp 11) (.tmp 15) 108 3 rfl _ _ rfl rfl _ _ HAP.out ?_)
    go_ret
    exact ⟨_, c2, by rw [← HL.out]; rfl, HS.out, hb⟩
end Go.Proofs.YtekghemhccfhkaaGreatDoor
