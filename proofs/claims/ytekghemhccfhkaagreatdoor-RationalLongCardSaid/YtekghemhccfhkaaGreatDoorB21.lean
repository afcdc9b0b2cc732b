/-
  Walks of the program's functions: RChunks, IntA, Clone, Fr, IntB.
-/
import Derived.Test.YtekghemhccfhkaaGreatDoorB07
import Derived.Test.YtekghemhccfhkaaGreatDoorB11
import Derived.Test.YtekghemhccfhkaaGreatDoorB13
import Derived.Test.YtekghemhccfhkaaGreatDoorB09
import Derived.Test.YtekghemhccfhkaaGreatDoorB20
import Derived.Test.YtekghemhccfhkaaGreatDoorB10
import Derived.Lib.TrimByte
import Derived.Test.YtekghemhccfhkaaGreatDoorB12
import Derived.Test.YtekghemhccfhkaaGreatDoorB06
import Derived.Test.YtekghemhccfhkaaGreatDoorB02
namespace Go.Big
open Go Go.RowKit
variable {P : Program}
theorem run_mk0 (t e : TypeId) (k : IntKind) (ht : P.underlying t = some (.slice e)) (bytes : Nat) (hi : (P.info? e).map (fun i => (i.zero, i.size, i.bytes)) = some (some (.int k 0), 1, bytes)) (hby : bytes ≤ 8)
    (n : Nat) (hn : n ≤ 1099511627776) (w : World) :
    (Instr.makeSlice t (.int .i64 0) (.int .i64 (n : Int))).run P w = .ok (.slice (some ⟨w.heap.size, 0, none⟩) 0 n) (w.alloc (.cells (cellsOf k (zeros n)) e)) := by
  obtain ⟨i, hi', hi⟩ : ∃ i, P.info? e = some i ∧ (i.zero, i.size, i.bytes) = (some (.int k 0), 1, bytes) := by
    cases hq : P.info? e with
    | none => rw [hq] at hi; cases hi
    | some i => rw [hq] at hi; exact ⟨i, rfl, by simpa using hi⟩
  simp only [Prod.mk.injEq] at hi
  have hb : i.bytes ≤ 8 := by omega
  have hbytes : (i.bytes : Int) * (n : Int) ≤ 281474976710656 := by
    have h1 : i.bytes * n ≤ 8 * 1099511627776 := Nat.mul_le_mul hb hn
    have h2 : ((i.bytes * n : Nat) : Int) ≤ 281474976710656 := by omega
    rwa [Int.natCast_mul] at h2
  have := run_make (P := P) w t e i (.int k 0) ht hi' hi.1 .i64 .i64 0 n (by omega) (by omega) hbytes (by omega)
  rw [this, hi.2.1]
  simp only [Int.toNat_natCast, Int.toNat_zero, Nat.mul_one, cells_zero]
end Go.Big
namespace Go.Proofs.YtekghemhccfhkaaGreatDoor
open Go.RowKit Go.Big
theorem scale_lit {g cap n off : Nat} {pre a post : List Nat} {w : World}
    (hg : isRow w g 71 .u64 (pre ++ (a ++ post))) (ha : Wd B64 a) (hm : a.length ≤ 1099511627776)
    (hn : a.length = n) (ho : pre.length = off) :
    Calls Tryz.prog 215 #[.slice (some ⟨g, off, none⟩) n cap, .int .u64 10000000000000000000] w (ScPost w g pre a post 10000000000000000000) :=
  scale_at (cap := cap) hg ha (by decide) hm hn ho
def RcRel (w : World) (l : List UInt8) (g c gk : Nat) (x y : Value) (wr : World) : Prop :=
  ∃ (p q : List UInt8) (A post : List Nat) (n k : Nat), x = .string ⟨q.toArray⟩ ∧ q.length = n ∧ n ≤ gk ∧ n ≤ 1000000 ∧ A.length = k ∧ y = .slice (some ⟨g, 0, none⟩) k c ∧ RcInv l p q A post c ∧ isRow wr g 71 .u64 (A ++ post) ∧ Below g w wr ∧ g < wr.heap.size
set_option maxRecDepth 100000 in
set_option maxHeartbeats 1000000 in
/-- readChunks -/
theorem readChunks_any (l : List UInt8) (hd : Dig l) (hl : l.length ≤ 1000000) (w : World) :
    Calls Tryz.prog 188 #[.string ⟨l.toArray⟩] w (RetNat w (dec l)) := by
  obtain ⟨n0, hn0⟩ : ∃ n0, l.length = n0 := ⟨_, rfl⟩
  obtain ⟨c, hc⟩ : ∃ c, n0 / 19 + 1 = c := ⟨_, rfl⟩
  have hsz : (⟨l.toArray⟩ : ByteArray).size = n0 := by rw [Lib.size_mk]; exact hn0
  have hci : (n0 : Int) / 19 + 1 = (c : Int) := by omega
  have hc1 : c ≤ 1000000 := by omega
  have hl0 : n0 ≤ 1000000 := by omega
  have hmk : ∀ W : World, (Instr.makeSlice 108 (.int .i64 0) (.int .i64 (c : Int))).run Tryz.prog W = .ok (.slice (some ⟨W.heap.size, 0, none⟩) 0 c) (W.alloc (.cells (cellsOf .u64 (zeros c)) 71)) := by
    intro W; exact run_mk0 108 71 .u64 Tryz.underlying108 8 (by kernel_rfl) (by decide) c (by omega) W
  have HI0 := Lib.hid (RcInv.start l (c := c) (by omega))
  have HD := Lib.hid hd
  have HR0 := Lib.hid (isRow_alloc w 71 .u64 (zeros c))
  have HB0 := Lib.hid (((Below.refl w.heap.size w).alloc (Nat.le_refl _) (.cells (cellsOf .u64 (zeros c)) 71)) : Below w.heap.size w (w.alloc (.cells (cellsOf .u64 (zeros c)) 71)))
  have HN0 := Lib.hid hn0
  clear hd hn0 hc hl
  go_enter Tryz.func188, Tryz.ntmps188
  go_wp2_with fail
  go_loopg [0, 3] n0 (fun gk x y wr => RcRel w l w.heap.size c gk x y wr)
  case atStart => exact ⟨[], l, [], zeros c, n0, 0, rfl, HN0.out, Nat.le_refl _, hl0, rfl, rfl, HI0.out, HR0.out, HB0.out, by simp⟩
  case round =>
    clear HI0 HR0 HB0
    obtain ⟨p, q, A, post, n, k, rfl, hn, hng, hn6, hk, rfl, hinv, hr, hb, hg⟩ := hrel
    have hqs : (⟨q.toArray⟩ : ByteArray).size = n := by rw [Lib.size_mk]; exact hn
    by_cases h0 : 0 < n
    · obtain ⟨z, hz⟩ : ∃ z, (n - 1) % 19 + 1 = z := ⟨_, rfl⟩
      have hzi : ((n : Int) - 1) % 19 + 1 = (z : Int) := by omega
      have hz1 : 1 ≤ z := by omega
      have hz2 : z ≤ 19 := by omega
      have hz3 : z ≤ n := by omega
      obtain ⟨t1, ht1⟩ : ∃ t1 : ByteArray, ⟨(q.take z).toArray⟩ = t1 := ⟨_, rfl⟩
      obtain ⟨t2, ht2⟩ : ∃ t2 : ByteArray, ⟨(q.drop z).toArray⟩ = t2 := ⟨_, rfl⟩
      have x1 : (⟨q.toArray⟩ : ByteArray).extract 0 z = t1 := by rw [Lib.extract_mk, List.drop_zero, Nat.sub_zero]; exact ht1
      have x2 : (⟨q.toArray⟩ : ByteArray).extract z n = t2 := by
        rw [Lib.extract_mk, List.take_of_length_le (by rw [List.length_drop]; omega)]; exact ht2
      have hdt : Dig (q.take z) := fun b hb' => HD.out b (by rw [hinv.app]; exact List.mem_append_right _ (List.mem_of_mem_take hb'))
      have htl : (q.take z).length = z := by rw [List.length_take]; omega
      have hrc := fun W => readChunk_any ⟨(q.take z).toArray⟩ hdt (by rw [Lib.size_mk]; omega) W
      have hdl : dec (q.take z) < B64 := by
        have h1 := dec_lt hdt
        have h2 : 10 ^ (q.take z).length ≤ 10 ^ 19 := Nat.pow_le_pow_right (by decide) (by omega)
        exact Nat.lt_of_lt_of_le h1 (Nat.le_trans h2 (by decide))
      obtain ⟨x0, post', rfl⟩ : ∃ x0 post', post = x0 :: post' := by
        cases post with
        | nil => have h5 := hinv.lenq; rw [List.length_nil] at h5; omega
        | cons a b => exact ⟨a, b, rfl⟩
      have htot := hinv.tot
      rw [List.length_cons, hk] at htot
      obtain ⟨d, hdd⟩ : ∃ d, dec (q.take z) = d := ⟨_, rfl⟩
      have hrc2 : ∀ W, Calls Tryz.prog 149 #[.string t1] W fun e w' => e = .returned (.int .u64 d) ∧ w' = W := by rw [← hdd, ← ht1]; exact hrc
      rw [hdd] at hdl
      have HRC := Lib.hid hrc2
      have HT := Lib.hid (And.intro ht1 ht2)
      generalize (⟨q.toArray⟩ : ByteArray) = tq at *
      have HINV := Lib.hid hinv
      have HDD := Lib.hid hdd
      have HZ := Lib.hid (And.intro hz (And.intro hn htl))
      have HK := Lib.hid hk
      have HR := Lib.hid hr
      have HB := Lib.hid hb
      have HDL := Lib.hid hdl
      obtain ⟨W1, hW1⟩ : ∃ W1, wr.alloc (.cells #[.int .u64 d] 71) = W1 := ⟨_, rfl⟩
      have r1 : isRow W1 w.heap.size 71 .u64 (A ++ x0 :: post') := by rw [← hW1]; exact hr.below ((Below.refl _ _).alloc (Nat.le_refl _) _)
      have r1d : isRow W1 wr.heap.size 71 .u64 [d] := by rw [← hW1]; exact isRow_alloc wr 71 .u64 [d]
      have b1 : Below w.heap.size w W1 := by rw [← hW1]; exact hb.alloc (Nat.le_of_lt hg) _
      have s1 : W1.heap.size = wr.heap.size + 1 := by rw [← hW1]; simp
      have HS := Lib.hid (scale_lit (cap := c) (n := k) (off := 0) (pre := []) (a := A) (post := x0 :: post') (by simpa using r1) hinv.wd (by omega) hk rfl)
      have R1d := Lib.hid r1d
      have R1 := Lib.hid r1
      have B1 := Lib.hid b1
      clear hrc hrc2 hinv hdd hz hn htl hdt hr hb hdl r1 r1d b1 hk ht1 ht2
      go_wp2_with fail
      refine (HRC.out _).mono ?_
      rintro e w1 ⟨rfl, rfl⟩
      go_wp2_with fail
      refine HS.out.mono ?_
      rintro e w2 ⟨cur, cc, rfl, hw2, hsc⟩
      have hne : w.heap.size ≠ w1.heap.size := by omega
      have r2 : isRow w2 w.heap.size 71 .u64 (cur ++ x0 :: post') := by rw [hw2, List.nil_append]; exact R1.out.put _
      have r2d : isRow w2 w1.heap.size 71 .u64 [d] := by rw [hw2]; exact R1d.out.other (Ne.symm hne) _
      have s2 : w2.heap.size = w1.heap.size + 1 := by rw [hw2, put_size]; exact s1
      have b2 : Below w.heap.size w w2 := by rw [hw2]; exact B1.out.put (Nat.le_refl _) _ _
      obtain ⟨W3, hW3⟩ : ∃ W3, w2.alloc (.cells #[.int .u64 cc] 71) = W3 := ⟨_, rfl⟩
      have r3 : isRow W3 w.heap.size 71 .u64 (cur ++ x0 :: post') := by rw [← hW3]; exact r2.below ((Below.refl _ _).alloc (Nat.le_refl _) _)
      have r3d : isRow W3 w1.heap.size 71 .u64 [d] := by rw [← hW3]; exact r2d.below ((Below.refl _ _).alloc (Nat.le_refl _) _)
      have b3 : Below w.heap.size w W3 := by rw [← hW3]; exact b2.alloc (by omega) _
      have s3 : W3.heap.size = w1.heap.size + 2 := by rw [← hW3]; simp [s2]
      have c3 : W3.cell? ⟨w2.heap.size, 0, none⟩ = some (.int .u64 (cc : Int)) := by
        have h := isRow_alloc w2 71 .u64 [cc]
        have h1 := h.cell (i := 0) (by simp)
        rw [← hW3]; exact h1
      have hcl : cur.length = k := hsc.len.trans HK.out
      have hap := run_append1 (cap := c) (m := 1) (ty := 108) r3 c3 (by omega)
      rw [hcl] at hap
      have r4 : isRow (wput W3 w.heap.size .u64 (cur ++ cc :: post')) w.heap.size 71 .u64 ([] ++ ((cur ++ [cc]) ++ post')) := by rw [List.nil_append, List.append_assoc]; exact r3.put _
      have r4d : isRow (wput W3 w.heap.size .u64 (cur ++ cc :: post')) w1.heap.size 71 .u64 [d] := r3d.other (Ne.symm hne) _
      have b4 : Below w.heap.size w (wput W3 w.heap.size .u64 (cur ++ cc :: post')) := b3.put (Nat.le_refl _) _ _
      have s4 : (wput W3 w.heap.size .u64 (cur ++ cc :: post')).heap.size = w1.heap.size + 2 := by rw [put_size]; exact s3
      obtain ⟨W4, hW4⟩ : ∃ W4, wput W3 w.heap.size .u64 (cur ++ cc :: post') = W4 := ⟨_, rfl⟩
      rw [hW4] at hap r4 r4d b4 s4
      have hwd : Wd B64 (cur ++ [cc]) := hsc.wd.append (fun y hy => by rw [List.mem_singleton.1 hy]; exact hsc.carry)
      have sd : SlA W4 .u64 (some ⟨w1.heap.size, 0, none⟩) 1 [d] := r4d.sl (by simp) (by simp)
      have hadd := addTo_at (capa := c) (n := k + 1) (off := 0) (nb := 1) r4 hwd (fun y hy => by rw [List.mem_singleton.1 hy]; exact HDL.out) sd (fun _ p hp => by simp at hp; subst hp; exact Ne.symm hne) (by simp) (by simp; omega) (by simp; omega) rfl rfl
      have HAP := Lib.hid hap
      have HADD := Lib.hid hadd
      have HSC := Lib.hid hsc
      have R4 := Lib.hid r4
      have B4 := Lib.hid b4
      have S4 := Lib.hid s4
      clear s1 s2 s3 s4 r2 r2d b2 r3 r3d b3 c3 hap r4 r4d b4 hwd sd hadd hsc hw2 hcl hW4
      go_wp2_with (at_builtin; refine wpList_append_run rfl (.tmp 27) (.tmp 30) 108 108 rfl _ _ rfl rfl _ _ HAP.out ?_)
      refine HADD.out.mono ?_
      rintro e w5 ⟨cur2, c2, rfl, hw5, hadded⟩
      have r5 : isRow w5 w.heap.size 71 .u64 (cur2 ++ post') := by rw [hw5, List.nil_append]; exact R4.out.put _
      have b5 : Below w.heap.size w w5 := by rw [hw5]; exact B4.out.put (Nat.le_refl _) _ _
      have s5 : w.heap.size < w5.heap.size := by rw [hw5, put_size, S4.out]; omega
      have hq0 : q ≠ [] := by rintro rfl; have := HZ.out.2.1; simp at this; omega
      have hl5 : cur2.length = k + 1 := by rw [hadded.len, List.length_append, HSC.out.len, HK.out]; rfl
      have hstep := HINV.out.step (z := z) HD.out (by rw [HZ.out.2.1]; exact HZ.out.1) hq0 HSC.out (by rw [HDD.out]; exact hadded)
      have HREL := Lib.hid (show RcRel w l w.heap.size c (n - z) (.string t2) (.slice (some ⟨w.heap.size, 0, none⟩) (k + 1 : Nat) c) w5 from
        ⟨p ++ q.take z, q.drop z, cur2, post', n - z, k + 1, by rw [HT.out.2], by rw [List.length_drop, HZ.out.2.1], Nat.le_refl _, by omega, hl5, rfl, hstep, r5, b5, s5⟩)
      clear hw5 hadded r5 b5 s5 hq0 hl5 hstep hW1 hW3
      go_wp2_with fail
      go_roundg (n - z)
      case rel => exact HREL.out
      case measure => omega
    · have hq : q = [] := List.eq_nil_of_length_eq_zero (by omega)
      have hlp : l = p := by rw [hinv.app, hq, List.append_nil]
      have hsA : SlA wr .u64 (some ⟨w.heap.size, 0, none⟩) c A := isRow.seg (pre := []) (seg := A) (post := post) (by rw [List.nil_append]; exact hr) (by have := hinv.tot; omega) (by have := hinv.tot; omega)
      have HTR := Lib.hid (trim_at (n := k) hsA hk)
      have HFI := Lib.hid (fun e w' => trim_ret (n := dec l) (w0 := w) (e := e) (w' := w') hsA hinv.wd (by rw [hinv.eq, hlp]) hb)
      have h0' : n = 0 := by omega
      subst h0'
      clear hinv hr hb hq hlp hsA h0
      go_wp2_with fail
      refine HTR.out.mono ?_
      intro e w' ht
      obtain ⟨v, rfl, hv, hb⟩ := HFI.out _ _ ht
      clear ht
      go_wp2_with fail
      go_ret
      exact ⟨v, rfl, hv, hb⟩
end Go.Proofs.YtekghemhccfhkaaGreatDoor
namespace Go.Big
open Go Go.RowKit
/-- In the range of int64. -/
def IsS (n : Int) : Prop := -9223372036854775808 ≤ n ∧ n ≤ 9223372036854775807
def ptrInt (a : Nat) : Value := .agg #[.int .i64 0, .pointer (some ⟨a, 0, none⟩)]
def smInt (n : Int) : Value := .agg #[.int .i64 n, .pointer none]
/-- A long number lies in block a. -/
def LongV (w : World) (a : Nat) (n : Int) : Prop :=
  ∃ (ng : Bool) (sz : Value) (m : Nat), w.cell? ⟨a, 0, none⟩ = some (.bool ng) ∧ w.cell? ⟨a, 1, none⟩ = some sz ∧ NatV w .u64 B64 sz m ∧ n = signed ng m ∧ ¬ IsS n
/-- The value v is the Int n. -/
def IntV (w : World) (v : Value) (n : Int) : Prop := (IsS n ∧ v = smInt n) ∨ ∃ a, v = ptrInt a ∧ LongV w a n
theorem LongV.below {w w' : World} {a : Nat} {n : Int} (h : LongV w a n) (hb : Below w.heap.size w w') : LongV w' a n := by
  obtain ⟨ng, sz, m, h1, h2, h3, h4, h5⟩ := h
  have hlt := World.block_lt_of_cell? w _ h1
  exact ⟨ng, sz, m, (hb.cell (p := ⟨a, 0, none⟩) hlt).trans h1, (hb.cell (p := ⟨a, 1, none⟩) hlt).trans h2, h3.below hb, h4, h5⟩
theorem IntV.below {w w' : World} {v : Value} {n : Int} (h : IntV w v n) (hb : Below w.heap.size w w') : IntV w' v n := by
  rcases h with h | ⟨a, e, h⟩
  · exact .inl h
  · exact .inr ⟨a, e, h.below hb⟩
theorem signed_natAbs (ng : Bool) (m : Nat) : (signed ng m).natAbs = m := by unfold signed; split <;> omega
theorem signed_neg {ng : Bool} {m : Nat} (h : ¬ IsS (signed ng m)) : ng = decide (signed ng m < 0) := by
  unfold IsS signed at *
  cases ng
  · simp
  · simp at h ⊢; omega
/-- The box that a parameter is laid in. -/
theorem box_facts {w w0 : World} {cs : Array Value} {t : TypeId} (h : w.alloc (.cells cs t) = w0) :
    Below w.heap.size w w0 ∧ w0.heap[w.heap.size]? = some (.cells cs t (0, 0)) ∧ w0.heap.size = w.heap.size + 1 := by
  subst h
  exact ⟨(Below.refl _ _).alloc (Nat.le_refl _) _, heap_alloc_new w _, by simp⟩
theorem cell_rowB {w : World} {g : Nat} {cs : Array Value} {t : TypeId} (h : w.heap[g]? = some (.cells cs t (0, 0))) (i : Nat) : w.cell? ⟨g, i, none⟩ = cs[i]? := by
  simp [World.cell?, h]
end Go.Big
namespace Go.Proofs.YtekghemhccfhkaaGreatDoor
open Go.RowKit Go.Big
theorem below_box (w : World) (cs : Array Value) (t : TypeId) : Below w.heap.size w (w.alloc (.cells cs t)) := (Below.refl _ _).alloc (Nat.le_refl _) _
theorem wrap_abs_neg {n : Int} (h1 : -9223372036854775808 ≤ n) (h2 : n < 0) : IntKind.u64.wrap (-IntKind.u64.wrap n) = (n.natAbs : Int) := by
  rw [IntKind.wrap_u64, IntKind.wrap_u64]; omega
set_option maxRecDepth 100000 in
set_option maxHeartbeats 1000000 in
theorem word_small {n : Int} (hs : IsS n) (w : World) : Calls Tryz.prog 131 #[.agg #[.int .i64 n, .pointer none]] w fun e w' => e = .returned (.int .u64 (n.natAbs : Int)) ∧ Below w.heap.size w w' := by
  unfold IsS at hs
  obtain ⟨h1, h2⟩ := hs
  by_cases hn : n < 0
  · go_enter Tryz.func131, Tryz.ntmps131
    go_wp2_with fail
    go_ret
    exact ⟨by rw [← wrap_abs_neg h1 hn]; rfl, below_box _ _ _⟩
  · go_enter Tryz.func131, Tryz.ntmps131
    go_wp2_with fail
    go_ret
    exact ⟨by rw [show ((n.natAbs : Nat) : Int) = n by omega]; rfl, below_box _ _ _⟩
set_option maxRecDepth 100000 in
set_option maxHeartbeats 1000000 in
theorem natural_small {n : Int} (hs : IsS n) (w : World) : Calls Tryz.prog 114 #[.agg #[.int .i64 n, .pointer none]] w (RetNat w n.natAbs) := by
  have hb := below_box w #[.int .i64 n, .pointer none] 63
  have hlt : n.natAbs < B64 := by
    show n.natAbs < 18446744073709551616
    unfold IsS at hs; omega
  have HB := Lib.hid hb
  have HS := Lib.hid hs
  clear hb hs
  go_enter Tryz.func114, Tryz.ntmps114
  go_wp2_with fail
  refine (word_small HS.out _).mono ?_
  rintro e w1 ⟨rfl, hb1⟩
  have HB1 := Lib.hid (below_trans HB.out hb1)
  clear hb1
  go_wp2_with fail
  refine (fromWord_any n.natAbs hlt _).mono ?_
  rintro e w2 ⟨v, rfl, hv, hb2⟩
  have HB2 := Lib.hid (below_trans HB1.out hb2)
  have HV := Lib.hid hv
  clear hv hb2
  go_wp2_with fail
  go_ret
  exact ⟨v, rfl, HV.out, HB2.out⟩
set_option maxRecDepth 100000 in
set_option maxHeartbeats 1000000 in
theorem natural_long {a : Nat} {n : Int} {w : World} (h : LongV w a n) : Calls Tryz.prog 114 #[.agg #[.int .i64 0, .pointer (some ⟨a, 0, none⟩)]] w (RetNat w n.natAbs) := by
  obtain ⟨ng, sz, m, h1, h2, h3, rfl, h5⟩ := h
  rw [signed_natAbs]
  have hlt := World.block_lt_of_cell? w _ h1
  obtain ⟨w0, hw0⟩ : ∃ w0, w.alloc (.cells #[.int .i64 0, .pointer (some ⟨a, 0, none⟩)] 63) = w0 := ⟨_, rfl⟩
  obtain ⟨hb, hrow, hsz⟩ := box_facts hw0
  have k1 : w0.cell? ⟨a, 1, none⟩ = some sz := (hb.cell (p := ⟨a, 1, none⟩) hlt).trans h2
  have c0 := cell_rowB hrow 0
  have c1 := cell_rowB hrow 1
  have HF := Lib.hid (show RetNat w m (.returned sz) w0 from ⟨sz, rfl, h3.below hb, hb⟩)
  clear h1 h2 h3 h5 hb hrow hsz hlt
  go_enter Tryz.func114, Tryz.ntmps114
  go_wp2_with fail
  go_ret
  exact HF.out
theorem natural_any {v : Value} {n : Int} {w : World} (h : IntV w v n) : Calls Tryz.prog 114 #[v] w (RetNat w n.natAbs) := by
  rcases h with ⟨hs, rfl⟩ | ⟨a, rfl, h⟩
  · exact natural_small hs w
  · exact natural_long h
def RetBool (w : World) (b : Bool) (e : Ending) (w' : World) : Prop := e = .returned (.bool b) ∧ Below w.heap.size w w'
set_option maxRecDepth 100000 in
set_option maxHeartbeats 1000000 in
theorem negative_small (n : Int) (w : World) : Calls Tryz.prog 112 #[.agg #[.int .i64 n, .pointer none]] w (RetBool w (decide (n < 0))) := by
  obtain ⟨b, hb⟩ : ∃ b, decide (n < 0) = b := ⟨_, rfl⟩
  go_enter Tryz.func112, Tryz.ntmps112
  go_wp2_with fail
  go_ret
  refine ⟨?_, below_box _ _ _⟩
  rw [← hb]; simp [hb]
set_option maxRecDepth 100000 in
set_option maxHeartbeats 1000000 in
theorem negative_long {a : Nat} {n : Int} {w : World} (h : LongV w a n) : Calls Tryz.prog 112 #[.agg #[.int .i64 0, .pointer (some ⟨a, 0, none⟩)]] w (RetBool w (decide (n < 0))) := by
  obtain ⟨ng, sz, m, h1, h2, h3, rfl, h5⟩ := h
  rw [← signed_neg h5]
  have hlt := World.block_lt_of_cell? w _ h1
  obtain ⟨w0, hw0⟩ : ∃ w0, w.alloc (.cells #[.int .i64 0, .pointer (some ⟨a, 0, none⟩)] 63) = w0 := ⟨_, rfl⟩
  obtain ⟨hb, hrow, hsz⟩ := box_facts hw0
  have k1 : w0.cell? ⟨a, 0, none⟩ = some (.bool ng) := (hb.cell (p := ⟨a, 0, none⟩) hlt).trans h1
  have c0 := cell_rowB hrow 0
  have c1 := cell_rowB hrow 1
  have HF := Lib.hid hb
  clear h1 h2 h3 h5 hb hrow hsz hlt
  go_enter Tryz.func112, Tryz.ntmps112
  go_wp2_with fail
  go_ret
  exact ⟨rfl, HF.out⟩
theorem negative_any {v : Value} {n : Int} {w : World} (h : IntV w v n) : Calls Tryz.prog 112 #[v] w (RetBool w (decide (n < 0))) := by
  rcases h with ⟨hs, rfl⟩ | ⟨a, rfl, h⟩
  · exact negative_small n w
  · exact negative_long h
end Go.Proofs.YtekghemhccfhkaaGreatDoor
namespace Go.Big
open Go Go.RowKit
/-- A slice of the call's own that reads l; spare words behind it. -/
def OwnL (B : Nat) (w : World) (t : TypeId) (v : Value) (l : List Nat) : Prop :=
  ∃ ao cap, v = .slice ao l.length cap ∧ l.length ≤ cap ∧ l.length ≤ 1099511627776 ∧ (l = [] ∨ ∃ g post, ao = some ⟨g, 0, none⟩ ∧ B ≤ g ∧ isRow w g t .u64 (l ++ post))
theorem OwnL.sl {B : Nat} {w : World} {t : TypeId} {v : Value} {l : List Nat} (h : OwnL B w t v l) : ∃ ao cap, v = .slice ao l.length cap ∧ SlA w .u64 ao cap l := by
  obtain ⟨ao, cap, e, h1, h2, h3⟩ := h
  refine ⟨ao, cap, e, ?_⟩
  rcases h3 with rfl | ⟨g, post, rfl, _, hr⟩
  · exact SlA.nil _ _ _ _
  · exact isRow.seg (pre := []) (seg := l) (post := post) (by simpa using hr) h1 h2
end Go.Big
namespace Go.Proofs.YtekghemhccfhkaaGreatDoor
open Go.RowKit Go.Big
def ClonePost (w : World) (l : List Nat) (e : Ending) (w' : World) : Prop := ∃ v, e = .returned v ∧ OwnL w.heap.size w' 71 v l ∧ Below w.heap.size w w'
set_option maxRecDepth 100000 in
set_option maxHeartbeats 1000000 in
theorem clone_nil (cap : Nat) (w : World) : Calls Tryz.prog 171 #[.slice none 0 cap] w (ClonePost w []) := by
  have q22 : ∀ (w : World) (a : Option Addr) (n c n' c' : Nat), (binOp .eql 108 (.slice a n c) (.slice none n' c')).run Tryz.prog w = .ok (.bool a.isNone) w := fun w a n c n' c' => Lib.run_eql_slice_nil w _ _ a n c n' c' Tryz.underlying108
  go_enter Tryz.func171, Tryz.ntmps171
  go_wp2_with fail
  go_ret
  exact ⟨.slice none 0 0, rfl, ⟨none, 0, rfl, Nat.le_refl _, by simp, .inl rfl⟩, Below.refl _ _⟩
theorem run_append_fresh {W : World} {ao : Option Addr} {cap g : Nat} {l : List Nat} {ty : TypeId} (sa : SlA W .u64 ao cap l) (h0 : 0 < l.length) :
    ∃ c, l.length ≤ c ∧ (Builtin.append_ #[108, 108] ty #[.slice (some ⟨g, 0, none⟩) 0 0, .slice ao l.length cap]).run Tryz.prog W =
      .ok (.slice (some ⟨W.heap.size, 0, none⟩) l.length c) (W.drew.alloc (.cells (cellsOf .u64 (l ++ zeros (c - l.length))) 71)) := by
  have hq : (Tryz.prog.info? 71).map (fun i => (i.zero, i.size, i.bytes)) = some (some (.int .u64 0), 1, 8) := by kernel_rfl
  obtain ⟨i, hi, hz⟩ := Option.map_eq_some_iff.1 hq
  simp only [Prod.mk.injEq] at hz
  obtain ⟨hz, hs, hb⟩ := hz
  obtain ⟨b, off, rfl, _, hc⟩ := sa.at h0
  have hmax := sa.max
  have hnx : Builtin.nextslicecap (0 + l.length) 0 ≤ 2 * (0 + l.length) + 1024 := nextcap_le _ _ (by omega)
  have hr := run_append_grow (P := Tryz.prog) W 108 ty 71 i (.int .u64 0) Tryz.underlying108 hi hz ⟨g, 0, none⟩ 0 0 [] (by simp) (by intro j v hj; simp at hj) ⟨b, off, none⟩ l.length cap (l.map fun (n : Nat) => Value.int .u64 (Int.ofNat n)) (by rw [List.length_map, hs, Nat.mul_one])
    (fun j v hj => by
      have hjl : j < l.length := by
        rcases Nat.lt_or_ge j l.length with h | h
        · exact h
        · simp [List.getElem?_eq_none h] at hj
      have e : (⟨b, off, none⟩ : Addr).add j = ⟨b, off + j, none⟩ := by unfold Addr.add; split <;> simp_all
      rw [e, hc j hjl]
      simp [hjl] at hj
      rw [← hj, nth_lt hjl]) (by omega) (by omega) (by rw [hb]; omega)
  simp only [Nat.zero_add] at hr
  refine ⟨grownCap W l.length 0 71, grownCap_ge W l.length 0 71, ?_⟩
  have e1 : ([] : List Value).toArray ++ (l.map fun (n : Nat) => Value.int .u64 (Int.ofNat n)).toArray = cellsOf .u64 l := by simp [cellsOf]
  rw [hr, e1, zeroCells_eq, cells_append]
set_option maxRecDepth 100000 in
set_option maxHeartbeats 1000000 in
theorem clone_zero (a : Addr) (cap : Nat) (w : World) : Calls Tryz.prog 171 #[.slice (some a) 0 cap] w (ClonePost w []) := by
  have q22 : ∀ (w : World) (a : Option Addr) (n c n' c' : Nat), (binOp .eql 108 (.slice a n c) (.slice none n' c')).run Tryz.prog w = .ok (.bool a.isNone) w := fun w a n c n' c' => Lib.run_eql_slice_nil w _ _ a n c n' c' Tryz.underlying108
  go_enter Tryz.func171, Tryz.ntmps171
  go_wp2
  go_ret
  exact ⟨_, rfl, ⟨_, _, rfl, Nat.le_refl _, by simp, .inl rfl⟩, below_box _ _ _⟩
set_option maxRecDepth 100000 in
set_option maxHeartbeats 1000000 in
theorem clone_some {ao : Option Addr} {n cap : Nat} {l : List Nat} {w : World} (sa : SlA w .u64 ao cap l) (hn : l.length = n) (h0 : 0 < n) : Calls Tryz.prog 171 #[.slice ao n cap] w (ClonePost w l) := by
  have q22 : ∀ (w : World) (a : Option Addr) (n c n' c' : Nat), (binOp .eql 108 (.slice a n c) (.slice none n' c')).run Tryz.prog w = .ok (.bool a.isNone) w := fun w a n c n' c' => Lib.run_eql_slice_nil w _ _ a n c n' c' Tryz.underlying108
  subst hn
  obtain ⟨b, off, e, _, _⟩ := sa.at h0
  subst e
  have hb0 := below_box w #[] 71
  obtain ⟨c, hc, hap⟩ := run_append_fresh (g := w.heap.size) (ty := 108) (sa.below hb0) h0
  have hr : isRow ((w.alloc (.cells #[] 71)).drew.alloc (.cells (cellsOf .u64 (l ++ zeros (c - l.length))) 71)) (w.alloc (.cells #[] 71)).heap.size 71 .u64 (l ++ zeros (c - l.length)) := isRow_alloc (w.alloc (.cells #[] 71)).drew 71 .u64 _
  have hb : Below w.heap.size w ((w.alloc (.cells #[] 71)).drew.alloc (.cells (cellsOf .u64 (l ++ zeros (c - l.length))) 71)) := ((below_box w #[] 71).drew).alloc (by simp) _
  have hsz : w.heap.size ≤ (w.alloc (.cells #[] 71)).heap.size := by simp
  generalize (w.alloc (.cells #[] 71)).drew.alloc (.cells (cellsOf .u64 (l ++ zeros (c - l.length))) 71) = W at *
  have HAP := Lib.hid hap
  have hz1 : (w.alloc (.cells #[] 71)).heap.size = w.heap.size + 1 := by simp
  rw [hz1] at hr hsz
  have HR := Lib.hid (And.intro hr (And.intro hb (And.intro hsz hc)))
  have hmax := sa.max
  clear hap hr hb hb0 hsz sa hc hz1
  go_enter Tryz.func171, Tryz.ntmps171
  go_wp2_with (at_builtin; refine wpList_append_run rfl (.tmp 5) (.tmp 6) 108 108 rfl _ _ rfl rfl _ _ HAP.out ?_)
  go_ret
  exact ⟨_, rfl, ⟨_, c, rfl, HR.out.2.2.2, hmax, .inr ⟨_, _, rfl, HR.out.2.2.1, HR.out.1⟩⟩, HR.out.2.1⟩
/-- slices.Clone of words -/
theorem clone_any {ao : Option Addr} {n cap : Nat} {l : List Nat} {w : World} (sa : SlA w .u64 ao cap l) (hn : l.length = n) : Calls Tryz.prog 171 #[.slice ao n cap] w (ClonePost w l) := by
  rcases Nat.eq_zero_or_pos n with h | h
  · have : l = [] := List.eq_nil_of_length_eq_zero (by omega)
    subst this h
    cases ao with
    | none => exact clone_nil cap w
    | some a => exact clone_zero a cap w
  · exact clone_some sa hn h
end Go.Proofs.YtekghemhccfhkaaGreatDoor
namespace Go.Big
open Go Go.RowKit
/-- A cell of a struct's box: an int or a pointer. -/
def IP (c : Value) : Prop := (∃ x, c = .int .i64 x) ∨ ∃ p, c = .pointer p
theorem IP.int (x : Int) : IP (.int .i64 x) := .inl ⟨x, rfl⟩
theorem IP.ptr (p : Option Addr) : IP (.pointer p) := .inr ⟨p, rfl⟩
/-- Block g is a box of ints and pointers. -/
def Bx (w : World) (g : Nat) (cs : Array Value) (t : TypeId) : Prop := w.heap[g]? = some (.cells cs t (0, 0)) ∧ ∀ c ∈ cs, IP c
theorem Bx.below {w w' : World} {g : Nat} {cs : Array Value} {t : TypeId} (h : Bx w g cs t) (hb : Below w.heap.size w w') : Bx w' g cs t :=
  ⟨by rw [hb.block g (Array.getElem?_eq_some_iff.1 h.1).1, h.1], h.2⟩
theorem row_set' {w : World} {g : Nat} {cs : Array Value} {t : TypeId} (h : w.heap[g]? = some (.cells cs t (0, 0))) (i : Nat) (v : Value) : (w.setCell ⟨g, i, none⟩ v).heap[g]? = some (.cells (cs.setIfInBounds i v) t (0, 0)) := by
  rw [setCell_eq_setRow w g i cs t (0, 0) v h]
  exact setRow_heap w g cs _ t (0, 0) h
theorem Bx.set {w : World} {g : Nat} {cs : Array Value} {t : TypeId} (h : Bx w g cs t) (i : Nat) {v : Value} (hv : IP v) : Bx (w.setCell ⟨g, i, none⟩ v) g (cs.setIfInBounds i v) t := by
  refine ⟨row_set' h.1 i v, fun c hc => ?_⟩
  rcases Array.mem_or_eq_of_mem_setIfInBounds hc with h1 | h1
  · exact h.2 c h1
  · rw [h1]; exact hv
theorem Bx.other {w : World} {g g' : Nat} {cs : Array Value} {t : TypeId} (h : Bx w g cs t) (hn : g ≠ g') (i : Nat) (v : Value) : Bx (w.setCell ⟨g', i, none⟩ v) g cs t :=
  ⟨by rw [Below.heap_setCell _ _ _ _ hn]; exact h.1, h.2⟩
theorem Bx.drewN {w : World} {g : Nat} {cs : Array Value} {t : TypeId} (h : Bx w g cs t) (n : Nat) : Bx (w.drewN n) g cs t := h
theorem Bx.cell {w : World} {g : Nat} {cs : Array Value} {t : TypeId} (h : Bx w g cs t) (i : Nat) : w.cell? ⟨g, i, none⟩ = cs[i]? := cell_rowB h.1 i
theorem Bx.frozen {w : World} {g : Nat} {cs : Array Value} {t : TypeId} (h : Bx w g cs t) (i : Nat) : w.frozen? ⟨g, i, none⟩ = false := by
  have := h.1
  simp [World.frozen?, this]
theorem Bx.ip {w : World} {g : Nat} {cs : Array Value} {t : TypeId} (h : Bx w g cs t) {i : Nat} {c : Value} (hc : w.cell? ⟨g, i, none⟩ = some c) : IP c := by
  rw [h.cell] at hc
  exact h.2 c (Array.mem_of_getElem? hc)
theorem Bx.lt {w : World} {g : Nat} {cs : Array Value} {t : TypeId} (h : Bx w g cs t) : g < w.heap.size := (Array.getElem?_eq_some_iff.1 h.1).1
theorem Bx.new (w : World) {cs : Array Value} (t : TypeId) (h : ∀ c ∈ cs, IP c) : Bx (w.alloc (.cells cs t)) w.heap.size cs t := ⟨heap_alloc_new w _, h⟩
theorem cell_setO {w : World} {g i : Nat} {c : Value} {p : Addr} (h : p.block ≠ g) : (w.setCell ⟨g, i, none⟩ c).cell? p = w.cell? p :=
  World.cell?_setCell_other _ _ _ _ (fun e => h (by rw [← e]))
theorem SlA.setIP {w : World} {g i : Nat} {cs : Array Value} {t : TypeId} {c : Value} {ao : Option Addr} {cap : Nat} {l : List Nat} {k : IntKind} (hb : Bx w g cs t) (h : SlA w k ao cap l) (hk : k ≠ .i64) : SlA (w.setCell ⟨g, i, none⟩ c) k ao cap l := by
  refine ⟨h.le, h.max, fun hl => ?_⟩
  obtain ⟨b, off, e, hlt, hc⟩ := h.cells hl
  have hne : b ≠ g := by
    rintro rfl
    rcases hb.ip (hc 0 (List.length_pos_iff.2 hl)) with ⟨x, e1⟩ | ⟨p, e1⟩
    · simp only [Value.int.injEq] at e1; exact hk e1.1
    · cases e1
  exact ⟨b, off, e, by simpa using hlt, fun j hj => by rw [cell_setO hne]; exact hc j hj⟩
theorem NatV.setIP {w : World} {g i : Nat} {cs : Array Value} {t : TypeId} {c v : Value} {B n : Nat} (hb : Bx w g cs t) (h : NatV w .u64 B v n) : NatV (w.setCell ⟨g, i, none⟩ c) .u64 B v n := by
  obtain ⟨ao, cap, l, e, hs, r⟩ := h
  exact ⟨ao, cap, l, e, hs.setIP hb (by decide), r⟩
theorem LongV.setIP {w : World} {g i a : Nat} {cs : Array Value} {t : TypeId} {c : Value} {n : Int} (hb : Bx w g cs t) (h : LongV w a n) : LongV (w.setCell ⟨g, i, none⟩ c) a n := by
  obtain ⟨ng, sz, m, h1, h2, h3, h4, h5⟩ := h
  have hne : a ≠ g := by
    rintro rfl
    rcases hb.ip h1 with ⟨x, e1⟩ | ⟨p, e1⟩ <;> cases e1
  exact ⟨ng, sz, m, by rw [cell_setO hne]; exact h1, by rw [cell_setO hne]; exact h2, h3.setIP hb, h4, h5⟩
theorem IntV.setIP {w : World} {g i : Nat} {cs : Array Value} {t : TypeId} {c v : Value} {n : Int} (hb : Bx w g cs t) (h : IntV w v n) : IntV (w.setCell ⟨g, i, none⟩ c) v n := by
  rcases h with h | ⟨a, e, h⟩
  · exact .inl h
  · exact .inr ⟨a, e, h.setIP hb⟩
theorem IntV.drewN {w : World} {v : Value} {n : Int} (h : IntV w v n) (d : Nat) : IntV (w.drewN d) v n := h.below ((Below.refl w.heap.size w).trans ⟨rfl, rfl, rfl, Nat.le_refl _, fun _ _ => rfl⟩)
/-- An Int is two cells: an int and a pointer. -/
theorem IntV.two {w : World} {v : Value} {n : Int} (h : IntV w v n) : ∃ x p, v = .agg #[.int .i64 x, .pointer p] := by
  rcases h with ⟨_, e⟩ | ⟨a, e, _⟩
  · exact ⟨_, _, e⟩
  · exact ⟨_, _, e⟩
/-- An Int as an argument: its two cells, and what is known of them. -/
theorem IntV.cs {w : World} {v : Value} {n : Int} (h : IntV w v n) : (IsS n ∧ v = .agg #[.int .i64 n, .pointer none]) ∨ ∃ a, v = .agg #[.int .i64 0, .pointer (some ⟨a, 0, none⟩)] ∧ LongV w a n ∧ ¬ IsS n := by
  rcases h with ⟨hs, e⟩ | ⟨a, e, h⟩
  · exact .inl ⟨hs, e⟩
  · obtain ⟨ng, sz, m, _, _, _, _, h5⟩ := id h
    exact .inr ⟨a, e, h, h5⟩
theorem box1 (w : World) (cs : Array Value) (t : TypeId) (h : ∀ c ∈ cs, IP c) : ∃ w0, w.alloc (.cells cs t) = w0 ∧ Below w.heap.size w w0 ∧ Bx w0 w.heap.size cs t ∧ w0.heap.size = w.heap.size + 1 := by
  refine ⟨_, rfl, (Below.refl _ _).alloc (Nat.le_refl _) _, Bx.new w t h, by simp⟩
theorem ip2 (x : Int) (p : Option Addr) : ∀ c ∈ #[Value.int .i64 x, .pointer p], IP c := by
  intro c hc; simp at hc; rcases hc with rfl | rfl
  · exact IP.int _
  · exact IP.ptr _
/-- An Int laid in a box. -/
theorem IntV.set2 {w : World} {g i : Nat} {cs : Array Value} {t : TypeId} {x : Int} {p : Option Addr} {v : Value} {n : Int} (hb : Bx w g cs t) (h : IntV w v n) :
    IntV ((w.setCell ⟨g, i, none⟩ (.int .i64 x)).setCell ⟨g, i + 1, none⟩ (.pointer p)) v n :=
  (h.setIP hb).setIP (hb.set i (IP.int x))
end Go.Big
namespace Go.Proofs.YtekghemhccfhkaaGreatDoor
open Go.RowKit Go.Big
def RetInt (w : World) (n : Int) (e : Ending) (w' : World) : Prop := ∃ v, e = .returned v ∧ IntV w' v n ∧ Below w.heap.size w w'
theorem long_new {w1 : World} {sz : Value} {m a : Nat} {ng : Bool} (h : NatV w1 .u64 B64 sz m) (hn : ¬ IsS (signed ng m)) (ha : w1.heap.size = a) :
    LongV (w1.alloc (.cells #[.bool ng, sz] 110)) a (signed ng m) := by
  subst ha
  have hr := heap_alloc_new w1 (.cells #[.bool ng, sz] 110)
  exact ⟨ng, sz, m, by rw [cell_rowB hr]; rfl, by rw [cell_rowB hr]; rfl, h.below (below_box _ _ _), rfl, hn⟩
theorem below3 (w : World) (o1 o2 o3 : Obj) : Below w.heap.size w (((w.alloc o1).alloc o2).alloc o3) :=
  (((Below.refl _ _).alloc (Nat.le_refl _) _).alloc (by simp) _).alloc (by simp; omega) _
theorem below2 (w : World) (o1 o2 : Obj) : Below w.heap.size w ((w.alloc o1).alloc o2) :=
  ((Below.refl _ _).alloc (Nat.le_refl _) _).alloc (by simp) _
set_option maxRecDepth 100000 in
set_option maxHeartbeats 1000000 in
theorem sw_pos {x : Nat} (hx : (x : Int) ≤ 9223372036854775807) (w : World) : Calls Tryz.prog 133 #[.bool false, .int .u64 x] w (RetInt w (x : Int)) := by
  have hw : IntKind.i64.wrap (x : Int) = (x : Int) := by rw [IntKind.wrap_i64]; omega
  go_enter Tryz.func133, Tryz.ntmps133
  go_wp2_with fail
  exact bodyPost_ret (v := smInt x) (by simp [results, Tryz.results133, go_sem, smInt]) rfl ⟨_, rfl, .inl ⟨⟨by omega, hx⟩, rfl⟩, below_box _ _ _⟩
theorem wrap_neg64 {x : Nat} (hx : (x : Int) ≤ 9223372036854775808) : IntKind.i64.wrap (IntKind.u64.wrap (-(x : Int))) = -(x : Int) := by
  rw [IntKind.wrap_i64, IntKind.wrap_u64]; omega
set_option maxRecDepth 100000 in
set_option maxHeartbeats 1000000 in
theorem sw_neg {x : Nat} (hx : (x : Int) ≤ 9223372036854775808) (w : World) : Calls Tryz.prog 133 #[.bool true, .int .u64 x] w (RetInt w (-(x : Int))) := by
  have hw := wrap_neg64 hx
  go_enter Tryz.func133, Tryz.ntmps133
  go_wp2_with fail
  exact bodyPost_ret (v := smInt (-(x : Int))) (by simp [results, Tryz.results133, go_sem, smInt]) rfl ⟨_, rfl, .inl ⟨⟨by omega, by omega⟩, rfl⟩, below_box _ _ _⟩
set_option maxRecDepth 100000 in
set_option maxHeartbeats 1000000 in
theorem sw_long {x : Nat} (ng : Bool) (h : ¬ IsS (signed ng x)) (hx : x < 18446744073709551616) (w : World) : Calls Tryz.prog 133 #[.bool ng, .int .u64 x] w (RetInt w (signed ng x)) := by
  have H := Lib.hid h
  unfold IsS signed at h
  have h0 : 0 < x := by cases ng <;> simp at h <;> omega
  cases ng
  · have h1 : decide ((x : Int) ≤ 9223372036854775807) = false := by simp at h ⊢; omega
    go_enter Tryz.func133, Tryz.ntmps133
    go_wp2_with fail
    refine bodyPost_ret (v := ptrInt (w.heap.size + 2)) (by simp [results, Tryz.results133, go_sem, ptrInt]) rfl ⟨_, rfl, .inr ⟨_, rfl, ?_⟩, below3 _ _ _ _⟩
    exact long_new (by
      have := natv_word h0 hx (w.alloc (.cells #[.int .i64 0, .pointer (some { block := w.heap.size + 1 + 1, off := 0 })] 63))
      simpa using this) H.out (by simp)
  · have h1 : decide ((x : Int) ≤ 9223372036854775808) = false := by simp at h ⊢; omega
    go_enter Tryz.func133, Tryz.ntmps133
    go_wp2_with fail
    refine bodyPost_ret (v := ptrInt (w.heap.size + 2)) (by simp [results, Tryz.results133, go_sem, ptrInt]) rfl ⟨_, rfl, .inr ⟨_, rfl, ?_⟩, below3 _ _ _ _⟩
    exact long_new (by
      have := natv_word h0 hx (w.alloc (.cells #[.int .i64 0, .pointer (some { block := w.heap.size + 1 + 1, off := 0 })] 63))
      simpa using this) H.out (by simp)
theorem signedWord_any (ng : Bool) {x : Nat} (hx : x < 18446744073709551616) (w : World) : Calls Tryz.prog 133 #[.bool ng, .int .u64 x] w (RetInt w (signed ng x)) := by
  by_cases h : IsS (signed ng x)
  · unfold IsS signed at h
    cases ng
    · exact sw_pos (by simp at h; omega) w
    · exact sw_neg (by simp at h; omega) w
  · exact sw_long ng h hx w
/-- signed -/
theorem signed_zero (ng : Bool) (ao : Option Addr) (cap : Nat) (w : World) : Calls Tryz.prog 113 #[.bool ng, .slice ao 0 cap] w (RetInt w 0) := by
  go_enter Tryz.func113, Tryz.ntmps113
  go_wp2_with fail
  exact bodyPost_ret (v := smInt 0) (by simp [results, Tryz.results113, go_sem, smInt]) rfl ⟨_, rfl, .inl ⟨⟨by omega, by omega⟩, rfl⟩, below_box _ _ _⟩
set_option maxRecDepth 100000 in
set_option maxHeartbeats 1000000 in
theorem signed_one (ng : Bool) {x : Nat} (hx : x < 18446744073709551616) {b off cap : Nat} {w : World} (hc : w.cell? ⟨b, off, none⟩ = some (.int .u64 x)) :
    Calls Tryz.prog 113 #[.bool ng, .slice (some ⟨b, off, none⟩) 1 cap] w (RetInt w (signed ng x)) := by
  have hlt := World.block_lt_of_cell? w _ hc
  obtain ⟨w0, hw0⟩ : ∃ w0, w.alloc (.cells #[.int .i64 0, .pointer none] 63) = w0 := ⟨_, rfl⟩
  obtain ⟨hb, hrow, hsz⟩ := box_facts hw0
  have hbx : Bx w0 w.heap.size #[.int .i64 0, .pointer none] 63 := ⟨hrow, by simp [IP]⟩
  have k1 : w0.cell? ⟨b, off, none⟩ = some (.int .u64 x) := (hb.cell (p := ⟨b, off, none⟩) hlt).trans hc
  have HB := Lib.hid hb
  have HX := Lib.hid hbx
  clear hc hb hrow hsz hlt hbx
  go_enter Tryz.func113, Tryz.ntmps113
  go_wp2_with fail
  refine (signedWord_any ng hx _).mono ?_
  rintro e w1 ⟨v, rfl, hv, hb1⟩
  have hx1 := HX.out.below hb1
  obtain ⟨y, p, rfl⟩ := hv.two
  have HV := Lib.hid (hv.set2 (i := 0) (x := y) (p := p) hx1)
  have HB1 := Lib.hid (((below_trans HB.out hb1).setCell (p := ⟨w.heap.size, 0, none⟩) (Nat.le_refl _) (.int .i64 y)).setCell (p := ⟨w.heap.size, 0 + 1, none⟩) (Nat.le_refl _) (.pointer p))
  have c0 := hx1.cell 0
  have c1 := hx1.cell 1
  have f0 := hx1.frozen 0
  have f1 := hx1.frozen 1
  have HX2 := Lib.hid ((hx1.set 0 (IP.int y)).set 1 (IP.ptr p))
  clear hv hb1 hx1 hw0
  go_wp2_with fail
  refine bodyPost_ret (v := .agg #[.int .i64 y, .pointer p]) (by
    have g0 := HX2.out.cell 0
    have g1 := HX2.out.cell 1
    simp [results, Tryz.results113, go_sem, g0, g1]) rfl ⟨_, rfl, HV.out, HB1.out⟩
set_option maxRecDepth 100000 in
set_option maxHeartbeats 1000000 in
theorem signed_many (ng : Bool) {n m cap : Nat} {ao : Option Addr} {w : World} (h : NatV w .u64 B64 (.slice ao n cap) m) (hn : 2 ≤ n) (hs : ¬ IsS (signed ng m)) :
    Calls Tryz.prog 113 #[.bool ng, .slice ao n cap] w (RetInt w (signed ng m)) := by
  have H := Lib.hid (And.intro h hs)
  clear h hs
  go_enter Tryz.func113, Tryz.ntmps113
  go_wp2_with fail
  refine bodyPost_ret (v := ptrInt (w.heap.size + 1)) (by simp [results, Tryz.results113, go_sem, ptrInt]) rfl ⟨_, rfl, .inr ⟨_, rfl, ?_⟩, below2 _ _ _⟩
  exact long_new (H.out.1.below (below_box _ _ _)) H.out.2 (by simp)
theorem signed_any (ng : Bool) {v : Value} {m : Nat} {w : World} (h : NatV w .u64 B64 v m) : Calls Tryz.prog 113 #[.bool ng, v] w (RetInt w (signed ng m)) := by
  have h0 := h
  obtain ⟨ao, cap, l, rfl, sa, wa, za, ea⟩ := h
  by_cases h1 : l.length = 0
  · have : l = [] := List.eq_nil_of_length_eq_zero h1
    subst this
    have : m = 0 := by rw [← ea]; rfl
    subst this
    rw [show signed ng 0 = 0 by unfold signed; split <;> rfl]
    exact signed_zero ng ao cap w
  · by_cases h2 : l.length = 1
    · obtain ⟨x, rfl⟩ := List.length_eq_one_iff.1 h2
      obtain ⟨b, off, rfl, hlt, hc⟩ := sa.at (i := 0) (by simp)
      have hx := wa x (by simp)
      have hm : m = x := by rw [← ea]; simp [val]
      subst hm
      exact signed_one ng hx (hc 0 (by simp))
    · refine signed_many ng h0 (by omega) ?_
      have hne : l ≠ [] := by rintro rfl; simp at h1
      have h3 := val_ge (B := B64) za hne
      have h4 : B64 ^ 1 ≤ B64 ^ (l.length - 1) := Nat.pow_le_pow_right (by decide) (by omega)
      rw [ea] at h3
      have h5 : 18446744073709551616 ≤ m := by rw [Nat.pow_one] at h4; exact Nat.le_trans h4 h3
      unfold IsS signed
      split <;> omega
end Go.Proofs.YtekghemhccfhkaaGreatDoor
