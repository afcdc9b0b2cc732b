/-
  Walks of the program's functions: FracA, FracB, FracC.
-/
import Derived.Test.YtekghemhccfhkaaGreatDoorB18
import Derived.Test.YtekghemhccfhkaaGreatDoorB09
namespace Go.Big
open Go Go.RowKit
/-- The value v is the fraction q: the numerator's two cells, the denominator's two. -/
def FracV (w : World) (v : Value) (q : Rat) : Prop := ∃ a p b r, v = .agg #[.int .i64 a, .pointer p, .int .i64 b, .pointer r] ∧ IntV w (.agg #[.int .i64 a, .pointer p]) q.num ∧ IntV w (.agg #[.int .i64 b, .pointer r]) (q.den : Int)
theorem FracV.below {w w' : World} {v : Value} {q : Rat} (h : FracV w v q) (hb : Below w.heap.size w w') : FracV w' v q := by
  obtain ⟨a, p, b, r, e, h1, h2⟩ := h
  exact ⟨a, p, b, r, e, h1.below hb, h2.below hb⟩
theorem ip4 (x : Int) (p : Option Addr) (y : Int) (q : Option Addr) : ∀ c ∈ #[Value.int .i64 x, .pointer p, .int .i64 y, .pointer q], IP c := by
  intro c hc; simp at hc; rcases hc with rfl | rfl | rfl | rfl
  · exact IP.int _
  · exact IP.ptr _
  · exact IP.int _
  · exact IP.ptr _
/-- A box of a fraction. -/
def K4 (g : Nat) (x : Int) (p : Option Addr) (y : Int) (q : Option Addr) (w : World) : Prop := Bx w g #[.int .i64 x, .pointer p, .int .i64 y, .pointer q] 65
section
variable {g : Nat} {x y : Int} {p q : Option Addr} {w w' : World}
theorem K4.below (h : K4 g x p y q w) (hb : Below w.heap.size w w') : K4 g x p y q w' := Bx.below h hb
theorem K4.drew (h : K4 g x p y q w) : K4 g x p y q w.drew := h
theorem K2.drew' {g : Nat} {x : Int} {p : Option Addr} {w : World} (h : K2 g x p w) : K2 g x p w.drew := h
theorem K4.c0 (h : K4 g x p y q w) : w.cell? ⟨g, 0, none⟩ = some (.int .i64 x) := by rw [Bx.cell h]; rfl
theorem K4.c1 (h : K4 g x p y q w) : w.cell? ⟨g, 1, none⟩ = some (.pointer p) := by rw [Bx.cell h]; rfl
theorem K4.c2 (h : K4 g x p y q w) : w.cell? ⟨g, 2, none⟩ = some (.int .i64 y) := by rw [Bx.cell h]; rfl
theorem K4.c3 (h : K4 g x p y q w) : w.cell? ⟨g, 3, none⟩ = some (.pointer q) := by rw [Bx.cell h]; rfl
theorem K4.f (h : K4 g x p y q w) (i : Nat) : w.frozen? ⟨g, i, none⟩ = false := Bx.frozen h i
end
/-- Storing a fraction into a box. -/
abbrev st4 (w : World) (g : Nat) (x : Int) (p : Option Addr) (y : Int) (q : Option Addr) : World :=
  (((w.setCell ⟨g, 0, none⟩ (.int .i64 x)).setCell ⟨g, 1, none⟩ (.pointer p)).setCell ⟨g, 2, none⟩ (.int .i64 y)).setCell ⟨g, 3, none⟩ (.pointer q)
abbrev st2 (w : World) (g : Nat) (x : Int) (p : Option Addr) : World := (w.setCell ⟨g, 0, none⟩ (.int .i64 x)).setCell ⟨g, 1, none⟩ (.pointer p)
theorem K4.st {g : Nat} {x y : Int} {p q : Option Addr} {w : World} (h : K4 g x p y q w) (x' : Int) (p' : Option Addr) (y' : Int) (q' : Option Addr) : K4 g x' p' y' q' (st4 w g x' p' y' q') :=
  (((Bx.set h 0 (IP.int x')).set 1 (IP.ptr p')).set 2 (IP.int y')).set 3 (IP.ptr q')
theorem Bx.st_other {g g' : Nat} {cs : Array Value} {t : TypeId} {w : World} (h : Bx w g cs t) (hne : g ≠ g') (x : Int) (p : Option Addr) (y : Int) (q : Option Addr) : Bx (st4 w g' x p y q) g cs t :=
  (((h.other hne _ _).other hne _ _).other hne _ _).other hne _ _
theorem IntV.st {g : Nat} {x y : Int} {p q : Option Addr} {w : World} {v : Value} {n : Int} (k : K4 g x p y q w) (h : IntV w v n) (x' : Int) (p' : Option Addr) (y' : Int) (q' : Option Addr) : IntV (st4 w g x' p' y' q') v n :=
  (((h.setIP k).setIP (Bx.set k 0 (IP.int x'))).setIP ((Bx.set k 0 (IP.int x')).set 1 (IP.ptr p'))).setIP (((Bx.set k 0 (IP.int x')).set 1 (IP.ptr p')).set 2 (IP.int y'))
theorem below_st4 {B : Nat} {a w : World} (h : Below B a w) {g : Nat} (hg : B ≤ g) (x : Int) (p : Option Addr) (y : Int) (q : Option Addr) : Below B a (st4 w g x p y q) :=
  (((h.setCell hg _).setCell hg _).setCell hg _).setCell hg _
theorem K4.o4 {g g' : Nat} {x y : Int} {p q : Option Addr} {w : World} (h : K4 g x p y q w) (hne : g ≠ g') (a : Int) (b : Option Addr) (c : Int) (d : Option Addr) : K4 g x p y q (st4 w g' a b c d) := Bx.st_other h hne a b c d
theorem K2.o4 {g g' : Nat} {x : Int} {p : Option Addr} {w : World} (h : K2 g x p w) (hne : g ≠ g') (a : Int) (b : Option Addr) (c : Int) (d : Option Addr) : K2 g x p (st4 w g' a b c d) := Bx.st_other h hne a b c d
theorem K4.o2 {g g' : Nat} {x y : Int} {p q : Option Addr} {w : World} (h : K4 g x p y q w) (hne : g ≠ g') (a : Int) (b : Option Addr) : K4 g x p y q (st2 w g' a b) := (Bx.other h hne _ _).other hne _ _
theorem K2.o2 {g g' : Nat} {x : Int} {p : Option Addr} {w : World} (h : K2 g x p w) (hne : g ≠ g') (a : Int) (b : Option Addr) : K2 g x p (st2 w g' a b) := (Bx.other h hne _ _).other hne _ _
theorem _root_.Go.RowKit.Below.st4 {B : Nat} {a w : World} (h : Below B a w) {g : Nat} (hg : B ≤ g) (x : Int) (p : Option Addr) (y : Int) (q : Option Addr) : Below B a (Go.Big.st4 w g x p y q) := below_st4 h hg x p y q
theorem _root_.Go.RowKit.Below.st2 {B : Nat} {a w : World} (h : Below B a w) {g : Nat} (hg : B ≤ g) (x : Int) (p : Option Addr) : Below B a (Go.Big.st2 w g x p) := (h.setCell hg _).setCell hg _
theorem boxes2 (w : World) (c1 : Array Value) (t1 : TypeId) (c2 : Array Value) (t2 : TypeId) (h1 : ∀ c ∈ c1, IP c) (h2 : ∀ c ∈ c2, IP c) : ∃ w0, (w.alloc (.cells c1 t1)).alloc (.cells c2 t2) = w0 ∧ Below w.heap.size w w0 ∧ Bx w0 w.heap.size c1 t1 ∧ Bx w0 (w.heap.size + 1) c2 t2 ∧ w0.heap.size = w.heap.size + 2 := by
  obtain ⟨w1, e1, b1, x1, z1⟩ := box1 w c1 t1 h1
  obtain ⟨w2, e2, b2, x2, z2⟩ := box1 w1 c2 t2 h2
  rw [z1] at x2
  exact ⟨w2, by rw [e1, e2], b1.trans (b2.mono b1.size), x1.below b2, x2, by omega⟩
theorem boxes3 (w : World) (c1 : Array Value) (t1 : TypeId) (c2 : Array Value) (t2 : TypeId) (c3 : Array Value) (t3 : TypeId) (h1 : ∀ c ∈ c1, IP c) (h2 : ∀ c ∈ c2, IP c) (h3 : ∀ c ∈ c3, IP c) : ∃ w0, ((w.alloc (.cells c1 t1)).alloc (.cells c2 t2)).alloc (.cells c3 t3) = w0 ∧ Below w.heap.size w w0 ∧ Bx w0 w.heap.size c1 t1 ∧ Bx w0 (w.heap.size + 1) c2 t2 ∧ Bx w0 (w.heap.size + 2) c3 t3 ∧ w0.heap.size = w.heap.size + 3 := by
  obtain ⟨w2, e2, b2, x1, x2, z2⟩ := boxes2 w c1 t1 c2 t2 h1 h2
  obtain ⟨w3, e3, b3, x3, z3⟩ := box1 w2 c3 t3 h3
  rw [z2] at x3
  exact ⟨w3, by rw [e2, e3], b2.trans (b3.mono b2.size), x1.below b3, x2.below b3, x3, by omega⟩
end Go.Big
namespace Go.Proofs.YtekghemhccfhkaaGreatDoor
open Go.RowKit Go.Big
def RetF (w : World) (q : Rat) (e : Ending) (w' : World) : Prop := ∃ v, e = .returned v ∧ FracV w' v q ∧ Below w.heap.size w w'
/-- What a call that ends with a fraction in its result's box leaves. -/
theorem ret_box4 {w w3 : World} {g : Nat} {x0 y0 x y : Int} {p0 q0 p q : Option Addr} {r : Rat} (k : K4 g x0 p0 y0 q0 w3) (h1 : IntV w3 (.agg #[.int .i64 x, .pointer p]) r.num) (h2 : IntV w3 (.agg #[.int .i64 y, .pointer q]) (r.den : Int)) (s3 : Below w.heap.size w w3) (hg : w.heap.size ≤ g)
    {W : World} (hW : (((w3.setCell ⟨g, 0, none⟩ (.int .i64 x)).setCell ⟨g, 1, none⟩ (.pointer p)).setCell ⟨g, 2, none⟩ (.int .i64 y)).setCell ⟨g, 3, none⟩ (.pointer q) = W) :
    W.cell? ⟨g, 0, none⟩ = some (.int .i64 x) ∧ W.cell? ⟨g, 1, none⟩ = some (.pointer p) ∧ W.cell? ⟨g, 2, none⟩ = some (.int .i64 y) ∧ W.cell? ⟨g, 3, none⟩ = some (.pointer q) ∧ RetF w r (.returned (.agg #[.int .i64 x, .pointer p, .int .i64 y, .pointer q])) W := by
  have hW : st4 w3 g x p y q = W := hW
  subst hW
  have k' := k.st x p y q
  exact ⟨k'.c0, k'.c1, k'.c2, k'.c3, _, rfl, ⟨x, p, y, q, rfl, h1.st k x p y q, h2.st k x p y q⟩, below_st4 s3 hg x p y q⟩
end Go.Proofs.YtekghemhccfhkaaGreatDoor
namespace Go.Proofs.YtekghemhccfhkaaGreatDoor
open Go.RowKit Go.Big
theorem inv_neg_parts {q : Rat} (h : q.num < 0) : (q⁻¹).num = -(q.den : Int) ∧ ((q⁻¹).den : Int) = -q.num := by
  have hq : q ≠ 0 := fun e => by rw [e] at h; exact absurd h (by decide)
  have := rat_inv q hq
  rw [if_pos h] at this
  exact ⟨this.1, by rw [this.2]; omega⟩
theorem inv_pos_parts {q : Rat} (h : 0 < q.num) : (q⁻¹).num = (q.den : Int) ∧ ((q⁻¹).den : Int) = q.num := by
  have hq : q ≠ 0 := fun e => by rw [e] at h; exact absurd h (by decide)
  have := rat_inv q hq
  rw [if_neg (by omega)] at this
  exact ⟨this.1, by rw [this.2]; omega⟩
theorem sign_at {v : Value} {n s : Int} {w : World} (h : IntV w v n) (hs : Int.sign n = s) : Calls Tryz.prog 65 #[v] w (RetI w s) := by rw [← hs]; exact sign_any h
set_option maxRecDepth 100000 in
set_option maxHeartbeats 4000000 in
theorem whole_any {v : Value} {n : Int} {w : World} (h : IntV w v n) : Calls Tryz.prog 98 #[v] w (RetF w (n : Rat)) := by
  obtain ⟨x, p, rfl⟩ := h.two
  obtain ⟨w0, hw0, hs, k0, k1, hz⟩ := boxes2 w #[.int .i64 x, .pointer p] 63 #[.int .i64 0, .pointer none, .int .i64 0, .pointer none] 65 (ip2 _ _) (ip4 _ _ _ _)
  have k0 : K2 (w.heap.size) x p w0 := k0
  have k1 : K4 (w.heap.size + 1) 0 none 0 none w0 := k1
  have HV := Lib.hid h
  clear h hz
  have ek00 := k0.c0
  have ek01 := k0.c1
  have k0 : K2 (w.heap.size) x p w0.drew := k0
  have k1 : K4 (w.heap.size + 1) 0 none 0 none w0.drew := k1
  have hs : Below w.heap.size w w0.drew := hs.drew
  have n_k0 : w.heap.size ≠ w.heap.size + 1 := by omega
  have hg : w.heap.size ≤ w.heap.size + 1 := by omega
  go_enter Tryz.func98, Tryz.ntmps98
  go_wp2_with fail
  go_region_held3 (fun w' => w'.cell? ⟨w.heap.size, 0, none⟩ = some (.int .i64 x) ∧ w'.cell? ⟨w.heap.size, 1, none⟩ = some (.pointer p) ∧ Below w.heap.size w w') (first | (with_reducible exact ⟨k0.c0, k0.c1, hs⟩) | (with_reducible exact ⟨(k0.o4 n_k0 _ _ _ _).c0, (k0.o4 n_k0 _ _ _ _).c1, hs.st4 hg _ _ _ _⟩) | fail) (first | (go_at_call 59; (with_reducible refine (fromInt64_any isS_one _).mono ?_); rintro e w1 ⟨v1, rfl, hv1, hb1⟩; have k0 := k0.below hb1; have k1 := k1.below hb1; have hs := hs.trans (hb1.mono hs.size); obtain ⟨y', q', rfl⟩ := hv1.two; have c0 := k1.c0; have c1 := k1.c1; have c2 := k1.c2; have c3 := k1.c3; have f0 := k1.f 0; have f1 := k1.f 1; have f2 := k1.f 2; have f3 := k1.f 3) | fail)
  obtain ⟨W, hW⟩ : ∃ W, (((w1.setCell ⟨w.heap.size + 1, 0, none⟩ (.int .i64 x)).setCell ⟨w.heap.size + 1, 1, none⟩ (.pointer p)).setCell ⟨w.heap.size + 1, 2, none⟩ (.int .i64 y')).setCell ⟨w.heap.size + 1, 3, none⟩ (.pointer q') = W := ⟨_, rfl⟩
  rw [hW]
  obtain ⟨z0, z1, z2, z3, z4⟩ := ret_box4 (r := (n : Rat)) k1 (by rw [Rat.num_intCast]; exact HV.out.below hs) (by rw [Rat.den_intCast]; exact hv1) hs hg hW
  have HZ := Lib.hid z4
  clear k0 k1 hs hb1 hv1 c0 c1 c2 c3 f0 f1 f2 f3 hW z4
  go_wp2_with fail
  exact bodyPost_ret (v := .agg #[.int .i64 x, .pointer p, .int .i64 y', .pointer q']) (by simp [results, Tryz.results98, go_sem, z0, z1, z2, z3]) rfl HZ.out
set_option maxRecDepth 100000 in
set_option maxHeartbeats 4000000 in
theorem negF_any {v : Value} {q : Rat} {w : World} (h : FracV w v q) : Calls Tryz.prog 79 #[v] w (RetF w (-q)) := by
  obtain ⟨a, p, b, r, rfl, ha, hb⟩ := h
  obtain ⟨w0, hw0, hs, k0, k1, hz⟩ := boxes2 w #[.int .i64 a, .pointer p, .int .i64 b, .pointer r] 65 #[.int .i64 0, .pointer none, .int .i64 0, .pointer none] 65 (ip4 _ _ _ _) (ip4 _ _ _ _)
  have k0 : K4 (w.heap.size) a p b r w0 := k0
  have k1 : K4 (w.heap.size + 1) 0 none 0 none w0 := k1
  have HA := Lib.hid ha
  have HD := Lib.hid hb
  clear ha hb hz
  have ek00 := k0.c0
  have ek01 := k0.c1
  have ek02 := k0.c2
  have ek03 := k0.c3
  have k0 : K4 (w.heap.size) a p b r w0.drew := k0
  have k1 : K4 (w.heap.size + 1) 0 none 0 none w0.drew := k1
  have hs : Below w.heap.size w w0.drew := hs.drew
  have n_k0 : w.heap.size ≠ w.heap.size + 1 := by omega
  have hg : w.heap.size ≤ w.heap.size + 1 := by omega
  go_enter Tryz.func79, Tryz.ntmps79
  go_wp2_with fail
  go_region_held3 (fun w' => w'.cell? ⟨w.heap.size, 0, none⟩ = some (.int .i64 a) ∧ w'.cell? ⟨w.heap.size, 1, none⟩ = some (.pointer p) ∧ w'.cell? ⟨w.heap.size, 2, none⟩ = some (.int .i64 b) ∧ w'.cell? ⟨w.heap.size, 3, none⟩ = some (.pointer r) ∧ Below w.heap.size w w') (first | (with_reducible exact ⟨k0.c0, k0.c1, k0.c2, k0.c3, hs⟩) | (with_reducible exact ⟨(k0.o4 n_k0 _ _ _ _).c0, (k0.o4 n_k0 _ _ _ _).c1, (k0.o4 n_k0 _ _ _ _).c2, (k0.o4 n_k0 _ _ _ _).c3, hs.st4 hg _ _ _ _⟩) | fail) (first | (go_at_call 66; (with_reducible refine (negI_any (HA.out.below hs)).mono ?_); rintro e w1 ⟨v1, rfl, hv1, hb1⟩; have k0 := k0.below hb1; have k1 := k1.below hb1; have hs := hs.trans (hb1.mono hs.size); obtain ⟨y', q', rfl⟩ := hv1.two; have c0 := k1.c0; have c1 := k1.c1; have c2 := k1.c2; have c3 := k1.c3; have f0 := k1.f 0; have f1 := k1.f 1; have f2 := k1.f 2; have f3 := k1.f 3) | fail)
  obtain ⟨W, hW⟩ : ∃ W, (((w1.setCell ⟨w.heap.size + 1, 0, none⟩ (.int .i64 y')).setCell ⟨w.heap.size + 1, 1, none⟩ (.pointer q')).setCell ⟨w.heap.size + 1, 2, none⟩ (.int .i64 b)).setCell ⟨w.heap.size + 1, 3, none⟩ (.pointer r) = W := ⟨_, rfl⟩
  rw [hW]
  obtain ⟨z0, z1, z2, z3, z4⟩ := ret_box4 (r := -q) k1 (by rw [Rat.neg_num]; exact hv1) (by rw [Rat.neg_den]; exact HD.out.below hs) hs hg hW
  have HZ := Lib.hid z4
  clear hs c0 c1 c2 c3 f0 f1 f2 f3 hW z4 k0 k1 hb1 hv1
  go_wp2_with fail
  exact bodyPost_ret (v := .agg #[.int .i64 y', .pointer q', .int .i64 b, .pointer r]) (by simp [results, Tryz.results79, go_sem, z0, z1, z2, z3]) rfl HZ.out
set_option maxRecDepth 100000 in
set_option maxHeartbeats 4000000 in
theorem inverse_neg {v : Value} {q : Rat} {w : World} (h : FracV w v q) (hn : q.num < 0) : Calls Tryz.prog 82 #[v] w (RetF w q⁻¹) := by
  have HI := Lib.hid (inv_neg_parts hn)
  have HSG := Lib.hid (Int.sign_eq_neg_one_of_neg hn)
  clear hn
  obtain ⟨a, p, b, r, rfl, ha, hb⟩ := h
  obtain ⟨w0, hw0, hs, k0, k1, hz⟩ := boxes2 w #[.int .i64 a, .pointer p, .int .i64 b, .pointer r] 65 #[.int .i64 0, .pointer none, .int .i64 0, .pointer none] 65 (ip4 _ _ _ _) (ip4 _ _ _ _)
  have k0 : K4 (w.heap.size) a p b r w0 := k0
  have k1 : K4 (w.heap.size + 1) 0 none 0 none w0 := k1
  have HA := Lib.hid ha
  have HD := Lib.hid hb
  clear ha hb hz
  have ek00 := k0.c0
  have ek01 := k0.c1
  have ek02 := k0.c2
  have ek03 := k0.c3
  go_enter Tryz.func82, Tryz.ntmps82
  go_wp2_with fail
  refine (sign_at (HA.out.below hs) HSG.out).mono ?_
  rintro e w1 ⟨rfl, hb1⟩
  have k0 := k0.below hb1
  have k1 := k1.below hb1
  have hs := hs.trans (hb1.mono hs.size)
  clear ek00 ek01 ek02 ek03
  have ek00 := k0.c0
  have ek01 := k0.c1
  have ek02 := k0.c2
  have ek03 := k0.c3
  go_wp2_with fail
  have k0 : K4 (w.heap.size) a p b r w1.drew := k0
  have k1 : K4 (w.heap.size + 1) 0 none 0 none w1.drew := k1
  have hs : Below w.heap.size w w1.drew := hs.drew
  have n_k0 : w.heap.size ≠ w.heap.size + 1 := by omega
  have hg : w.heap.size ≤ w.heap.size + 1 := by omega
  go_region_held3 (fun w' => w'.cell? ⟨w.heap.size, 0, none⟩ = some (.int .i64 a) ∧ w'.cell? ⟨w.heap.size, 1, none⟩ = some (.pointer p) ∧ w'.cell? ⟨w.heap.size, 2, none⟩ = some (.int .i64 b) ∧ w'.cell? ⟨w.heap.size, 3, none⟩ = some (.pointer r) ∧ Below w.heap.size w w') (first | (with_reducible exact ⟨k0.c0, k0.c1, k0.c2, k0.c3, hs⟩) | (with_reducible exact ⟨(k0.o4 n_k0 _ _ _ _).c0, (k0.o4 n_k0 _ _ _ _).c1, (k0.o4 n_k0 _ _ _ _).c2, (k0.o4 n_k0 _ _ _ _).c3, hs.st4 hg _ _ _ _⟩) | fail) (first | (go_at_call 66; (with_reducible refine (negI_any (HD.out.below hs)).mono ?_); rintro e w2 ⟨v2, rfl, hv2, hb2⟩; have k0 := k0.below hb2; have k1 := k1.below hb2; have hs := hs.trans (hb2.mono hs.size)) | (go_at_call 66; (with_reducible refine (negI_any (HA.out.below hs)).mono ?_); rintro e w3 ⟨v3, rfl, hv3, hb3⟩; have k0 := k0.below hb3; have k1 := k1.below hb3; have hs := hs.trans (hb3.mono hs.size); have hv2 := hv2.below hb3; obtain ⟨y2, q2, rfl⟩ := hv2.two; obtain ⟨y3, q3, rfl⟩ := hv3.two; have c0 := k1.c0; have c1 := k1.c1; have c2 := k1.c2; have c3 := k1.c3; have f0 := k1.f 0; have f1 := k1.f 1; have f2 := k1.f 2; have f3 := k1.f 3) | fail)
  obtain ⟨W, hW⟩ : ∃ W, (((w3.setCell ⟨w.heap.size + 1, 0, none⟩ (.int .i64 y2)).setCell ⟨w.heap.size + 1, 1, none⟩ (.pointer q2)).setCell ⟨w.heap.size + 1, 2, none⟩ (.int .i64 y3)).setCell ⟨w.heap.size + 1, 3, none⟩ (.pointer q3) = W := ⟨_, rfl⟩
  rw [hW]
  obtain ⟨z0, z1, z2, z3, z4⟩ := ret_box4 (r := q⁻¹) k1 (by rw [HI.out.1]; exact hv2) (by rw [HI.out.2]; exact hv3) hs hg hW
  have HZ := Lib.hid z4
  clear hs c0 c1 c2 c3 f0 f1 f2 f3 hW z4 k0 k1 hb1 hb2 hb3 hv2 hv3
  go_wp2_with fail
  exact bodyPost_ret (v := .agg #[.int .i64 y2, .pointer q2, .int .i64 y3, .pointer q3]) (by simp [results, Tryz.results82, go_sem, z0, z1, z2, z3]) rfl HZ.out
set_option maxRecDepth 100000 in
set_option maxHeartbeats 4000000 in
theorem inverse_pos {v : Value} {q : Rat} {w : World} (h : FracV w v q) (hn : 0 < q.num) : Calls Tryz.prog 82 #[v] w (RetF w q⁻¹) := by
  have HI := Lib.hid (inv_pos_parts hn)
  have HSG := Lib.hid (Int.sign_eq_one_of_pos hn)
  clear hn
  obtain ⟨a, p, b, r, rfl, ha, hb⟩ := h
  obtain ⟨w0, hw0, hs, k0, k1, hz⟩ := boxes2 w #[.int .i64 a, .pointer p, .int .i64 b, .pointer r] 65 #[.int .i64 0, .pointer none, .int .i64 0, .pointer none] 65 (ip4 _ _ _ _) (ip4 _ _ _ _)
  have k0 : K4 (w.heap.size) a p b r w0 := k0
  have k1 : K4 (w.heap.size + 1) 0 none 0 none w0 := k1
  have HA := Lib.hid ha
  have HD := Lib.hid hb
  clear ha hb hz
  have ek00 := k0.c0
  have ek01 := k0.c1
  have ek02 := k0.c2
  have ek03 := k0.c3
  go_enter Tryz.func82, Tryz.ntmps82
  go_wp2_with fail
  refine (sign_at (HA.out.below hs) HSG.out).mono ?_
  rintro e w1 ⟨rfl, hb1⟩
  have k0 := k0.below hb1
  have k1 := k1.below hb1
  have hs := hs.trans (hb1.mono hs.size)
  clear ek00 ek01 ek02 ek03
  have ek00 := k0.c0
  have ek01 := k0.c1
  have ek02 := k0.c2
  have ek03 := k0.c3
  have n_k0 : w.heap.size ≠ w.heap.size + 1 := by omega
  have hg : w.heap.size ≤ w.heap.size + 1 := by omega
  have c0 := k1.c0
  have c1 := k1.c1
  have c2 := k1.c2
  have c3 := k1.c3
  have f0 := k1.f 0
  have f1 := k1.f 1
  have f2 := k1.f 2
  have f3 := k1.f 3
  obtain ⟨W, hW⟩ : ∃ W, (((w1.setCell ⟨w.heap.size + 1, 0, none⟩ (.int .i64 b)).setCell ⟨w.heap.size + 1, 1, none⟩ (.pointer r)).setCell ⟨w.heap.size + 1, 2, none⟩ (.int .i64 a)).setCell ⟨w.heap.size + 1, 3, none⟩ (.pointer p) = W := ⟨_, rfl⟩
  obtain ⟨z0, z1, z2, z3, z4⟩ := ret_box4 (r := q⁻¹) k1 (by rw [HI.out.1]; exact HD.out.below hs) (by rw [HI.out.2]; exact HA.out.below hs) hs hg hW
  have HZ := Lib.hid z4
  clear hs z4 k0 k1 hb1
  go_wp2_with fail
  exact bodyPost_ret (v := .agg #[.int .i64 b, .pointer r, .int .i64 a, .pointer p]) (by simp [results, Tryz.results82, go_sem, z0, z1, z2, z3]) rfl HZ.out
theorem inverse_any {v : Value} {q : Rat} {w : World} (h : FracV w v q) (hq : q ≠ 0) : Calls Tryz.prog 82 #[v] w (RetF w q⁻¹) := by
  have hn : q.num ≠ 0 := fun e => hq (Rat.num_eq_zero.1 e)
  rcases Int.lt_trichotomy q.num 0 with h1 | h1 | h1
  · exact inverse_neg h h1
  · exact absurd h1 hn
  · exact inverse_pos h h1
set_option maxRecDepth 100000 in
set_option maxHeartbeats 4000000 in
theorem compareF_any {v v' : Value} {q1 q2 : Rat} {K : Nat} {w : World} (h : FracV w v q1) (h' : FracV w v' q2) (hK : K < 100) (s1 : Sz K q1) (s2 : Sz K q2) : Calls Tryz.prog 78 #[v, v'] w (RetI w (cmpInt (q1.num * q2.den) (q2.num * q1.den))) := by
  obtain ⟨a, p, b, r, rfl, ha, hb⟩ := h
  obtain ⟨c, s, d, t, rfl, hc, hd⟩ := h'
  obtain ⟨w0, hw0, hs, k0, k1, hz⟩ := boxes2 w #[.int .i64 a, .pointer p, .int .i64 b, .pointer r] 65 #[.int .i64 c, .pointer s, .int .i64 d, .pointer t] 65 (ip4 _ _ _ _) (ip4 _ _ _ _)
  have k0 : K4 (w.heap.size) a p b r w0 := k0
  have k1 : K4 (w.heap.size + 1) c s d t w0 := k1
  have HA := Lib.hid ha
  have HB := Lib.hid hb
  have HC := Lib.hid hc
  have HD := Lib.hid hd
  have HK := Lib.hid (And.intro (And.intro s1.1 (by rw [Int.natAbs_natCast]; exact s1.2 : (q1.den : Int).natAbs < _)) (And.intro s2.1 (by rw [Int.natAbs_natCast]; exact s2.2 : (q2.den : Int).natAbs < _)))
  clear ha hb hc hd hz
  have ek00 := k0.c0
  have ek01 := k0.c1
  have ek02 := k0.c2
  have ek03 := k0.c3
  have ek10 := k1.c0
  have ek11 := k1.c1
  have ek12 := k1.c2
  have ek13 := k1.c3
  have k0 : K4 (w.heap.size) a p b r w0.drew := k0
  have k1 : K4 (w.heap.size + 1) c s d t w0.drew := k1
  have hs : Below w.heap.size w w0.drew := hs.drew
  go_enter Tryz.func78, Tryz.ntmps78
  go_wp2_with fail
  go_region_held3 (fun w' => w'.cell? ⟨w.heap.size, 0, none⟩ = some (.int .i64 a) ∧ w'.cell? ⟨w.heap.size, 1, none⟩ = some (.pointer p) ∧ w'.cell? ⟨w.heap.size, 2, none⟩ = some (.int .i64 b) ∧ w'.cell? ⟨w.heap.size, 3, none⟩ = some (.pointer r) ∧ w'.cell? ⟨w.heap.size + 1, 0, none⟩ = some (.int .i64 c) ∧ w'.cell? ⟨w.heap.size + 1, 1, none⟩ = some (.pointer s) ∧ w'.cell? ⟨w.heap.size + 1, 2, none⟩ = some (.int .i64 d) ∧ w'.cell? ⟨w.heap.size + 1, 3, none⟩ = some (.pointer t) ∧ Below w.heap.size w w') (first | (with_reducible exact ⟨k0.c0, k0.c1, k0.c2, k0.c3, k1.c0, k1.c1, k1.c2, k1.c3, hs⟩) | fail) (first | (go_at_call 121; (with_reducible refine (mulI_any (HA.out.below hs) (HD.out.below hs) hK HK.out.1.1 HK.out.2.2).mono ?_); rintro e w1 ⟨v1, rfl, hv1, hb1⟩; have k0 := k0.below hb1; have k1 := k1.below hb1; have hs := hs.trans (hb1.mono hs.size)) | (go_at_call 121; (with_reducible refine (mulI_any (HC.out.below hs) (HB.out.below hs) hK HK.out.2.1 HK.out.1.2).mono ?_); rintro e w2 ⟨v2, rfl, hv2, hb2⟩; have k0 := k0.below hb2; have k1 := k1.below hb2; have hs := hs.trans (hb2.mono hs.size); have hv1 := hv1.below hb2) | (go_at_call 122; (with_reducible refine (compareI_any hv1 hv2).mono ?_); rintro e w3 ⟨rfl, hb3⟩; have k0 := k0.below hb3; have k1 := k1.below hb3; have hs := hs.trans (hb3.mono hs.size)) | fail)
  have HS := Lib.hid hs
  clear k0 k1 hs hb1 hb2 hb3 hv1 hv2
  go_wp2_with fail
  go_ret
  exact ⟨rfl, HS.out⟩
end Go.Proofs.YtekghemhccfhkaaGreatDoor
namespace Go.Big
open Go Go.RowKit
/-- The greatest common divisor of two rational numbers. -/
theorem rgcd_nz (a b : Rat) : a.den * (b.den / Nat.gcd a.den b.den) ≠ 0 := by
  have h1 := rat_den_pos a
  have h2 := rat_den_pos b
  have h3 : 0 < b.den / Nat.gcd a.den b.den := Nat.div_pos (Nat.le_of_dvd h2 (Nat.gcd_dvd_right _ _)) (Nat.gcd_pos_of_pos_left _ h1)
  have := Nat.mul_pos h1 h3
  omega
theorem rgcd_cop (a b : Rat) : ((Nat.gcd a.num.natAbs b.num.natAbs : Nat) : Int).natAbs.Coprime (a.den * (b.den / Nat.gcd a.den b.den)) := by
  rw [Int.natAbs_natCast]
  refine Nat.Coprime.mul_right ?_ ?_
  · exact a.reduced.coprime_dvd_left (Nat.gcd_dvd_left _ _)
  · exact (b.reduced.coprime_dvd_left (Nat.gcd_dvd_right _ _)).coprime_dvd_right (Nat.div_dvd_of_dvd (Nat.gcd_dvd_right _ _))
def rgcd (a b : Rat) : Rat := ⟨(Nat.gcd a.num.natAbs b.num.natAbs : Nat), a.den * (b.den / Nat.gcd a.den b.den), rgcd_nz a b, rgcd_cop a b⟩
theorem rgcd_num (a b : Rat) : (rgcd a b).num = (Nat.gcd a.num.natAbs b.num.natAbs : Nat) := rfl
theorem rgcd_den (a b : Rat) : (rgcd a b).den = a.den * (b.den / Nat.gcd a.den b.den) := rfl
end Go.Big
namespace Go.Proofs.YtekghemhccfhkaaGreatDoor
open Go.RowKit Go.Big
set_option maxRecDepth 100000 in
set_option maxHeartbeats 4000000 in
theorem cancel_any {vx vy : Value} {n : Int} {c K : Nat} {w : World} (hx : IntV w vx n) (hy : IntV w vy (c : Int)) (hc0 : 0 < c) (hK : K < 239) (hn : n.natAbs < B64 ^ K) (hc : c < B64 ^ K) : Calls Tryz.prog 115 #[vx, vy] w (RetInt w (n / (c : Int))) := by
  obtain ⟨x, p, rfl⟩ := hx.two
  obtain ⟨y, q, rfl⟩ := hy.two
  obtain ⟨w0, hw0, hs, k0, k1, k2, hz⟩ := boxes3 w #[.int .i64 x, .pointer p] 63 #[.int .i64 y, .pointer q] 63 #[.int .i64 0, .pointer none] 63 (ip2 _ _) (ip2 _ _) (ip2 _ _)
  have k0 : K2 (w.heap.size) x p w0 := k0
  have k1 : K2 (w.heap.size + 1) y q w0 := k1
  have k2 : K2 (w.heap.size + 2) 0 none w0 := k2
  have HX := Lib.hid hx
  have HY := Lib.hid hy
  have HK := Lib.hid (And.intro hn hc)
  have HC := Lib.hid hc0
  have hg : w.heap.size ≤ w.heap.size + 2 := by omega
  clear hx hy hz hn hc hc0
  by_cases h1 : c = 1
  · have H1 := Lib.hid h1
    clear h1
    have ek00 := k0.c0
    have ek01 := k0.c1
    have ek10 := k1.c0
    have ek11 := k1.c1
    go_enter Tryz.func115, Tryz.ntmps115
    go_wp2_with fail
    refine (isOne_at (HY.out.below hs) (b := true) (by rw [H1.out]; rfl)).mono ?_
    rintro e w1 ⟨rfl, hb1⟩
    have k0 := k0.below hb1
    have k1 := k1.below hb1
    have k2 := k2.below hb1
    have hs := hs.trans (hb1.mono hs.size)
    clear ek00 ek01 ek10 ek11
    have ek00 := k0.c0
    have ek01 := k0.c1
    have ek10 := k1.c0
    have ek11 := k1.c1
    have c0 := k2.c0
    have c1 := k2.c1
    have f0 := k2.f 0
    have f1 := k2.f 1
    have hv := HX.out.below hs
    obtain ⟨z1, z2, z3⟩ := ret_box (w := w) k2 hv hs hg
    rw [show n = n / ((c : Nat) : Int) by rw [H1.out]; simp] at z3
    have HZ := Lib.hid z3
    clear k0 k1 k2 hs hb1 hv z3
    go_wp2_with fail
    exact bodyPost_ret (v := .agg #[.int .i64 x, .pointer p]) (by simp [results, Tryz.results115, go_sem, z1, z2]) rfl HZ.out
  · have H1 := Lib.hid h1
    clear h1
    have ek00 := k0.c0
    have ek01 := k0.c1
    have ek10 := k1.c0
    have ek11 := k1.c1
    go_enter Tryz.func115, Tryz.ntmps115
    go_wp2_with fail
    refine (isOne_at (HY.out.below hs) (b := false) (by rw [decide_eq_false_iff_not]; intro h; apply H1.out; omega)).mono ?_
    rintro e w1 ⟨rfl, hb1⟩
    have k0 := k0.below hb1
    have k1 := k1.below hb1
    have k2 := k2.below hb1
    have hs := hs.trans (hb1.mono hs.size)
    clear ek00 ek01 ek10 ek11
    have ek00 := k0.c0
    have ek01 := k0.c1
    have ek10 := k1.c0
    have ek11 := k1.c1
    have HD := Lib.hid (divI_any (HX.out.below hs) (HY.out.below hs) (by have := HC.out; omega) hK HK.out.1 (by rw [Int.natAbs_natCast]; exact HK.out.2))
    go_wp2_with fail
    refine HD.out.mono ?_
    rintro e w2 ⟨v2, v3, rfl, hv2, hv3, hb2⟩
    have k2 := k2.below hb2
    have hs := hs.trans (hb2.mono hs.size)
    obtain ⟨y2, q2, rfl⟩ := hv2.two
    obtain ⟨y3, q3, rfl⟩ := hv3.two
    obtain ⟨W3, hW3, hb3, j1, j2, hz3⟩ := pair_boxes w2 y2 q2 y3 q3
    have hv2 := hv2.below hb3
    have k2 := k2.below hb3
    have hs := hs.trans (hb3.mono hs.size)
    have d0 := j1.c0
    have d1 := j1.c1
    have c0 := k2.c0
    have c1 := k2.c1
    have f0 := k2.f 0
    have f1 := k2.f 1
    obtain ⟨z1, z2, z3⟩ := ret_box (w := w) k2 hv2 hs hg
    have HZ := Lib.hid z3
    clear k0 k1 k2 hs hb1 hb2 hb3 hv2 hv3 j1 j2 hz3 z3 ek00 ek01 ek10 ek11 HD
    go_wp2_with fail
    exact bodyPost_ret (v := .agg #[.int .i64 y2, .pointer q2]) (by simp [results, Tryz.results115, go_sem, z1, z2]) rfl HZ.out
set_option maxRecDepth 100000 in
set_option maxHeartbeats 4000000 in
theorem floorF_any {v : Value} {q : Rat} {K : Nat} {w : World} (h : FracV w v q) (hK : K < 239) (sq : Sz K q) : Calls Tryz.prog 90 #[v] w (RetInt w q.floor) := by
  obtain ⟨a, p, b, r, rfl, ha, hb⟩ := h
  obtain ⟨w0, hw0, hs, k0, k1, hz⟩ := boxes2 w #[.int .i64 a, .pointer p, .int .i64 b, .pointer r] 65 #[.int .i64 0, .pointer none] 63 (ip4 _ _ _ _) (ip2 _ _)
  have k0 : K4 (w.heap.size) a p b r w0 := k0
  have k1 : K2 (w.heap.size + 1) 0 none w0 := k1
  have HA := Lib.hid ha
  have HB := Lib.hid hb
  have HQ := Lib.hid (rat_den_pos q)
  have HS := Lib.hid sq
  have hg : w.heap.size ≤ w.heap.size + 1 := by omega
  clear ha hb hz sq
  have ek00 := k0.c0
  have ek01 := k0.c1
  have ek02 := k0.c2
  have ek03 := k0.c3
  have HD := Lib.hid (divI_any (HA.out.below hs) (HB.out.below hs) (by have := HQ.out; omega) hK HS.out.1 (by rw [Int.natAbs_natCast]; exact HS.out.2))
  go_enter Tryz.func90, Tryz.ntmps90
  go_wp2_with fail
  refine HD.out.mono ?_
  rintro e w2 ⟨v2, v3, rfl, hv2, hv3, hb2⟩
  have k1 := k1.below hb2
  have hs := hs.trans (hb2.mono hs.size)
  obtain ⟨y2, q2, rfl⟩ := hv2.two
  obtain ⟨y3, q3, rfl⟩ := hv3.two
  obtain ⟨W3, hW3, hb3, j1, j2, hz3⟩ := pair_boxes w2 y2 q2 y3 q3
  have hv2 := hv2.below hb3
  have k1 := k1.below hb3
  have hs := hs.trans (hb3.mono hs.size)
  have d0 := j1.c0
  have d1 := j1.c1
  have c0 := k1.c0
  have c1 := k1.c1
  have f0 := k1.f 0
  have f1 := k1.f 1
  obtain ⟨z1, z2, z3⟩ := ret_box (w := w) k1 hv2 hs hg
  rw [← Rat.floor_def] at z3
  have HZ := Lib.hid z3
  clear k0 k1 hs hb2 hb3 hv2 hv3 j1 j2 hz3 z3 ek00 ek01 ek02 ek03 HD
  go_wp2_with fail
  exact bodyPost_ret (v := .agg #[.int .i64 y2, .pointer q2]) (by simp [results, Tryz.results90, go_sem, z1, z2]) rfl HZ.out
set_option maxRecDepth 100000 in
set_option maxHeartbeats 4000000 in
theorem reduced_any {vx vy : Value} {n : Int} {d K : Nat} {qq : Rat} {w : World} (hx : IntV w vx n) (hy : IntV w vy (d : Int)) (hd0 : 0 < d) (hT : Tabs w) (hK : K < 239) (hn : n.natAbs < B64 ^ K) (hd : d < B64 ^ K) (hq : qq.num * d = n * qq.den) : Calls Tryz.prog 67 #[vx, vy] w (RetF w qq) := by
  obtain ⟨x, p, rfl⟩ := hx.two
  obtain ⟨y, q, rfl⟩ := hy.two
  obtain ⟨w0, hw0, hs, k0, k1, k2, hz⟩ := boxes3 w #[.int .i64 x, .pointer p] 63 #[.int .i64 y, .pointer q] 63 #[.int .i64 0, .pointer none, .int .i64 0, .pointer none] 65 (ip2 _ _) (ip2 _ _) (ip4 _ _ _ _)
  have k0 : K2 (w.heap.size) x p w0 := k0
  have k1 : K2 (w.heap.size + 1) y q w0 := k1
  have k2 : K4 (w.heap.size + 2) 0 none 0 none w0 := k2
  have HX := Lib.hid hx
  have HY := Lib.hid hy
  obtain ⟨G, hG⟩ : ∃ G, Nat.gcd n.natAbs d = G := ⟨_, rfl⟩
  have hG0 : 0 < G := by rw [← hG]; exact Nat.gcd_pos_of_pos_right _ hd0
  have hGd : G ≤ d := by rw [← hG]; exact Nat.gcd_le_right _ hd0
  have HR := Lib.hid (rat_reduce hd0 hq)
  rw [hG] at HR
  have HG := Lib.hid (by have := gcdI_any (HX.out.below hs) (HY.out.below hs) (tabs_below hT hs) hK hn (by rw [Int.natAbs_natCast]; exact hd); rw [Int.natAbs_natCast, hG] at this; exact this)
  have HK := Lib.hid (And.intro hn (And.intro hd (Nat.lt_of_le_of_lt hGd hd)))
  have HG0 := Lib.hid hG0
  have hg : w.heap.size ≤ w.heap.size + 2 := by omega
  clear hx hy hz hn hd hd0 hq hT hG hG0 hGd
  have ek00 := k0.c0
  have ek01 := k0.c1
  have ek10 := k1.c0
  have ek11 := k1.c1
  go_enter Tryz.func67, Tryz.ntmps67
  go_wp2_with fail
  refine HG.out.mono ?_
  rintro e w1 ⟨v1, rfl, hv1, hb1⟩
  obtain ⟨y1, q1, rfl⟩ := hv1.two
  have k0 := k0.below hb1
  have k1 := k1.below hb1
  have k2 := k2.below hb1
  have hs := hs.trans (hb1.mono hs.size)
  obtain ⟨W, hW, hbW, j0, hzW⟩ := box1 w1 #[.int .i64 y1, .pointer q1] 63 (ip2 _ _)
  have j0 : K2 (w1.heap.size) y1 q1 W := j0
  have hv1 := hv1.below hbW
  have hlt := Bx.lt k2
  have k0 := k0.below hbW
  have k1 := k1.below hbW
  have k2 := k2.below hbW
  have hs := hs.trans (hbW.mono hs.size)
  have hv1 := hv1.below (Below.refl W.heap.size W).drew
  clear ek00 ek01 ek10 ek11 hb1 hbW hzW HG
  go_wp2_with fail
  have k0 : K2 (w.heap.size) x p W.drew := k0
  have k1 : K2 (w.heap.size + 1) y q W.drew := k1
  have j0 : K2 (w1.heap.size) y1 q1 W.drew := j0
  have k2 : K4 (w.heap.size + 2) 0 none 0 none W.drew := k2
  have hs : Below w.heap.size w W.drew := hs.drew
  have n_k0 : w.heap.size ≠ w.heap.size + 2 := by omega
  have n_k1 : w.heap.size + 1 ≠ w.heap.size + 2 := by omega
  have n_j0 : w1.heap.size ≠ w.heap.size + 2 := by omega
  go_region_held3 (fun w' => w'.cell? ⟨w.heap.size, 0, none⟩ = some (.int .i64 x) ∧ w'.cell? ⟨w.heap.size, 1, none⟩ = some (.pointer p) ∧ w'.cell? ⟨w.heap.size + 1, 0, none⟩ = some (.int .i64 y) ∧ w'.cell? ⟨w.heap.size + 1, 1, none⟩ = some (.pointer q) ∧ w'.cell? ⟨w1.heap.size, 0, none⟩ = some (.int .i64 y1) ∧ w'.cell? ⟨w1.heap.size, 1, none⟩ = some (.pointer q1) ∧ Below w.heap.size w w') (first | (with_reducible exact ⟨k0.c0, k0.c1, k1.c0, k1.c1, j0.c0, j0.c1, hs⟩) | (with_reducible exact ⟨(k0.o4 n_k0 _ _ _ _).c0, (k0.o4 n_k0 _ _ _ _).c1, (k1.o4 n_k1 _ _ _ _).c0, (k1.o4 n_k1 _ _ _ _).c1, (j0.o4 n_j0 _ _ _ _).c0, (j0.o4 n_j0 _ _ _ _).c1, hs.st4 hg _ _ _ _⟩) | fail) (first | (go_at_call 115; (with_reducible refine (cancel_any (HX.out.below hs) hv1 HG0.out hK HK.out.1 HK.out.2.2).mono ?_); rintro e w2 ⟨v2, rfl, hv2, hb2⟩; have k0 := k0.below hb2; have k1 := k1.below hb2; have j0 := j0.below hb2; have k2 := k2.below hb2; have hs := hs.trans (hb2.mono hs.size); have hv1 := hv1.below hb2) | (go_at_call 115; (with_reducible refine (cancel_any (HY.out.below hs) hv1 HG0.out hK (by rw [Int.natAbs_natCast]; exact HK.out.2.1) HK.out.2.2).mono ?_); rintro e w3 ⟨v3, rfl, hv3, hb3⟩; have k0 := k0.below hb3; have k1 := k1.below hb3; have j0 := j0.below hb3; have k2 := k2.below hb3; have hs := hs.trans (hb3.mono hs.size); have hv2 := hv2.below hb3; obtain ⟨y2, q2, rfl⟩ := hv2.two; obtain ⟨y3, q3, rfl⟩ := hv3.two; have c0 := k2.c0; have c1 := k2.c1; have c2 := k2.c2; have c3 := k2.c3; have f0 := k2.f 0; have f1 := k2.f 1; have f2 := k2.f 2; have f3 := k2.f 3) | fail)
  obtain ⟨WW, hWW⟩ : ∃ WW, (((w3.setCell ⟨w.heap.size + 2, 0, none⟩ (.int .i64 y2)).setCell ⟨w.heap.size + 2, 1, none⟩ (.pointer q2)).setCell ⟨w.heap.size + 2, 2, none⟩ (.int .i64 y3)).setCell ⟨w.heap.size + 2, 3, none⟩ (.pointer q3) = WW := ⟨_, rfl⟩
  rw [hWW]
  obtain ⟨z0, z1, z2, z3, z4⟩ := ret_box4 (r := qq) k2 (by rw [HR.out.1]; exact hv2) (by rw [HR.out.2, Int.natCast_ediv]; exact hv3) hs hg hWW
  have HZ := Lib.hid z4
  clear hs c0 c1 c2 c3 f0 f1 f2 f3 hWW hW z4 k0 k1 k2 j0 hb2 hb3 hv1 hv2 hv3
  go_wp2_with fail
  exact bodyPost_ret (v := .agg #[.int .i64 y2, .pointer q2, .int .i64 y3, .pointer q3]) (by simp [results, Tryz.results67, go_sem, z0, z1, z2, z3]) rfl HZ.out
end Go.Proofs.YtekghemhccfhkaaGreatDoor
