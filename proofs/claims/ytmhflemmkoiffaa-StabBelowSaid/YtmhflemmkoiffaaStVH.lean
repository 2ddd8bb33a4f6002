/- The contracts of Resize, in the program and in the document's own answer. -/
import Derived.Test.YtmhflemmkoiffaaStVF
set_option linter.unusedVariables false
set_option linter.unusedSimpArgs false
namespace Go.Proofs.Ytmhflemmkoiffaa.stVH
open Go.ChangeShapes Go.WideShapes Go.ChangeAt Go.RowKit Go.Deep
open stVA stVB stVC stVD stVF

/-- members' cells, a box of them -/
def cH (v : V) : List Value := [.bool v.h0, .bool v.h1, .bool v.h2, .bool v.h3]
abbrev aH (v : V) : Array Value := #[.bool v.h0, .bool v.h1, .bool v.h2, .bool v.h3]
abbrev R4 (b : Nat) (v : V) (w : World) : Prop := w.rowIs b 22 4 (fun i => (cH v).getD i undef)
section
variable {T : TypeId} {b B : Nat} {v u : V} {w w0 w1 : World}
theorem R4.new (w : World) (v : V) : R4 w.heap.size v (w.alloc (.cells #[.bool v.h0, .bool v.h1, .bool v.h2, .bool v.h3] 22)) := by
  have h := World.rowIs_alloc w #[.bool v.h0, .bool v.h1, .bool v.h2, .bool v.h3] 22 (fun i => (cH v).getD i undef) (fun i hi => ?_)
  · exact h
  · rcases four (j := i) (by simpa using hi) with rfl | rfl | rfl | rfl <;> rfl
theorem R4.below (h : R4 b v w) (hB : Below w.heap.size w w1) : R4 b v w1 := h.of_block (hB.block b h.lt)
theorem R4.cells (h : R4 b v w) : w.cell? ⟨b, 0, none⟩ = some (.bool v.h0) ∧ w.cell? ⟨b, 1, none⟩ = some (.bool v.h1) ∧ w.cell? ⟨b, 2, none⟩ = some (.bool v.h2) ∧ w.cell? ⟨b, 3, none⟩ = some (.bool v.h3) :=
  ⟨h.cell (i := 0) (by omega), h.cell (i := 1) (by omega), h.cell (i := 2) (by omega), h.cell (i := 3) (by omega)⟩
theorem R4.hcell (h : R4 b v w) {j : Nat} (hj : j < 4) : w.cell? ⟨b, j, none⟩ = some (.bool (hb v j)) := by
  rcases four hj with rfl | rfl | rfl | rfl
  · exact h.cell (i := 0) (by omega)
  · exact h.cell (i := 1) (by omega)
  · exact h.cell (i := 2) (by omega)
  · exact h.cell (i := 3) (by omega)
theorem R4.putH (h : R4 b u w) {j : Nat} (hj : j < 4) (x : Bool) : R4 b (putH u j x) (w.setCell ⟨b, j, none⟩ (.bool x)) := by
  refine (h.set j _).congr fun i hi => ?_
  rcases four hj with rfl | rfl | rfl | rfl <;> rcases four hi with rfl | rfl | rfl | rfl <;> rfl
/-- all four times put at once -/
def tsV (v u : V) : V := ⟨v.e, v.h0, v.h1, v.h2, v.h3, u.t0, u.t1, u.t2, u.t3⟩
abbrev pt4 (w : World) (b : Nat) (u : V) : World := (((w.setCell ⟨b, 5, none⟩ (.int .u64 u.t0)).setCell ⟨b, 6, none⟩ (.int .u64 u.t1)).setCell ⟨b, 7, none⟩ (.int .u64 u.t2)).setCell ⟨b, 8, none⟩ (.int .u64 u.t3)
theorem R9.put4 (h : R9 T b v w) (u : V) : R9 T b (tsV v u) (pt4 w b u) :=
  ((((h.set 5 _).set 6 _).set 7 _).set 8 _).congr fun i hi => by rcases nine hi with rfl | rfl | rfl | rfl | rfl | rfl | rfl | rfl | rfl <;> rfl
theorem R9.other4 (h : R9 T b v w) {c : Nat} (hc : b ≠ c) (u : V) : R9 T b v (pt4 w c u) :=
  (((h.setOther (a := ⟨c, 5, none⟩) hc _).setOther (a := ⟨c, 6, none⟩) hc _).setOther (a := ⟨c, 7, none⟩) hc _).setOther (a := ⟨c, 8, none⟩) hc _
theorem put4_below (h : Below B w0 w) (hb : B ≤ b) (u : V) : Below B w0 (pt4 w b u) :=
  (((h.setCell (p := ⟨b, 5, none⟩) hb _).setCell (p := ⟨b, 6, none⟩) hb _).setCell (p := ⟨b, 7, none⟩) hb _).setCell (p := ⟨b, 8, none⟩) hb _
end
theorem fld (u : V) (w : World) : (Instr.field 42 (vV u) 2).run Try.prog w = .ok (.agg #[.int .u64 u.t0, .int .u64 u.t1, .int .u64 u.t2, .int .u64 u.t3]) w := by kernel_rfl
def szV (v : V) (e : Int) (g : V) : V := plain (tsV (newV e g) (plain v))
theorem bal4 (w : World) (o1 o2 o3 o4 : Obj) : Below w.heap.size w ((((w.alloc o1).alloc o2).alloc o3).alloc o4) := bal (bal3 w o1 o2 o3) o4
set_option maxRecDepth 100000 in
set_option maxHeartbeats 1000000 in
theorem resize_old (v : V) (e : Int) (g : V) (w : World) (h : e ≤ v.e) : Calls Try.prog 29 #[vV v, .int .i64 e, hV g] w fun r w' => r = .returned (.tuple #[vV z9, .int .i64 11]) ∧ Below w.heap.size w w' := by
  go_enter Try.func29, Try.ntmps29
  go_wp2
  exact bodyPost_ret (v := .tuple #[vV z9, .int .i64 11]) (by simp [results, Try.results29, go_sem]) rfl ⟨rfl, bal3 w _ _ _⟩
set_option maxRecDepth 100000 in
set_option maxHeartbeats 1000000 in
theorem resize_new (v : V) (e : Int) (g : V) (w : World) (h : v.e < e) : Calls Try.prog 29 #[vV v, .int .i64 e, hV g] w fun r w' => r = .returned (.tuple #[vV (szV v e g), .int .i64 0]) ∧ Below w.heap.size w w' := by
  have hR := Lib.hid (((R9.new w v 42).alloc (.cells (aH g) 22)).alloc (.cells (aV z9) 42))
  have hZ := Lib.hid (R9.new ((w.alloc (.cells (aV v) 42)).alloc (.cells (aH g) 22)) z9 42)
  have hB := Lib.hid (bal3 w (.cells (aV v) 42) (.cells (aH g) 22) (.cells (aV z9) 42))
  obtain ⟨r, hr⟩ : ∃ r, szV v e g = r := ⟨_, rfl⟩
  rw [hr]
  replace hr : Hid (plain (tsV (newV e g) (plain v)) = r) := Lib.hid hr
  go_enter Try.func29, Try.ntmps29
  go_wp2_with (fail)
  refine (new_any e g _).mono ?_
  rintro e' w1 ⟨rfl, hB1⟩
  have hR1 := Lib.hid (R9.below hR.out hB1)
  have hZ1 : Hid (R9 42 (w.heap.size + 2) z9 w1) := Lib.hid (by have h := R9.below hZ.out hB1; simp at h; exact h)
  have hBx := Lib.hid (trans0 hB.out hB1)
  have hz : w.heap.size + 3 ≤ w1.heap.size := by have := hB1.size; simp at this; omega
  clear hB1 hR hZ hB
  have hR2 := Lib.hid (hR1.out.alloc (.cells (aV (newV e g)) 42))
  have hZ2 := Lib.hid (hZ1.out.alloc (.cells (aV (newV e g)) 42))
  have hO2 := Lib.hid (R9.new w1 (newV e g) 42)
  have hB2 := Lib.hid (bal hBx.out (.cells (aV (newV e g)) 42))
  obtain ⟨c0, c1, c2, c3, c4, c5, c6, c7, c8⟩ := R9.v9 hR2.out
  generalize hg : newV e g = n at *
  replace hg := Lib.hid hg
  go_wp2_with (fail)
  refine (plain_any v _).mono ?_
  rintro e' w3 ⟨rfl, hB3⟩
  have hR3 := Lib.hid (R9.below hR2.out hB3)
  have hZ3 := Lib.hid (R9.below hZ2.out hB3)
  have hO3 := Lib.hid (R9.below hO2.out hB3)
  have hBy := Lib.hid (trans0 hB2.out hB3)
  have hz3 : w.heap.size + 4 ≤ w3.heap.size := by have := hB3.size; simp at this; omega
  clear hB3 hR2 hZ2 hO2 hB2 hR1 hZ1 hBx c0 c1 c2 c3 c4 c5 c6 c7 c8
  generalize hbn : w1.heap.size = b at *
  have hb1 : w.heap.size + 3 ≤ b := hz
  replace hbn := Lib.hid hbn
  obtain ⟨f0, f1, f2, f3, f4, f5, f6, f7, f8⟩ := R9.f9 hO3.out
  obtain ⟨c0, c1, c2, c3, c4, c5, c6, c7, c8⟩ := R9.v9 hO3.out
  have hO4 := Lib.hid (R9.put4 hO3.out (plain v))
  have hZ4 := Lib.hid (R9.other4 hZ3.out (c := b) (by omega) (plain v))
  have hB4 := Lib.hid (put4_below hBy.out (b := b) (by omega) (plain v))
  have hfl := fun (wx : World) => fld (plain v) wx
  go_wp2_with (fail)
  clear hfl
  refine (plain_any (tsV n (plain v)) _).mono ?_
  rintro e' w5 ⟨rfl, hB5⟩
  have hZ5 := Lib.hid (R9.below hZ4.out hB5)
  have hB6 := Lib.hid (trans0 hB4.out hB5)
  obtain ⟨d0, d1, d2, d3, d4, d5, d6, d7, d8⟩ := R9.v9 hZ5.out
  clear f0 f1 f2 f3 f4 f5 f6 f7 f8
  obtain ⟨f0, f1, f2, f3, f4, f5, f6, f7, f8⟩ := R9.f9 hZ5.out
  clear hB5 hO4 hZ4 hB4 hR3 hZ3 hO3 hBy c0 c1 c2 c3 c4 c5 c6 c7 c8
  rw [hr.out]
  go_wp2
  exact bodyPost_ret (v := .tuple #[vV r, .int .i64 0]) (by simp [results, Try.results29, go_sem, d0, d1, d2, d3, d4, d5, d6, d7, d8]) rfl ⟨rfl, put9_below hB6.out (by omega) r⟩
def szE (v : V) (e : Int) : Int := if e ≤ v.e then 11 else 0
def szR (v : V) (e : Int) (g : V) : V := if e ≤ v.e then z9 else szV v e g
theorem resize_any (v : V) (e : Int) (g : V) (w : World) : Calls Try.prog 29 #[vV v, .int .i64 e, hV g] w fun r w' => r = .returned (.tuple #[vV (szR v e g), .int .i64 (szE v e)]) ∧ Below w.heap.size w w' := by
  unfold szE szR
  by_cases h : e ≤ v.e
  · rw [if_pos h, if_pos h]; exact resize_old v e g w h
  · rw [if_neg h, if_neg h]; exact resize_new v e g w (by omega)
end Go.Proofs.Ytmhflemmkoiffaa.stVH