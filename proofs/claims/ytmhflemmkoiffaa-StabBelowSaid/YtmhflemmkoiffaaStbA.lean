/- A table: plainly, in memory; worlds that change at two blocks alone; the contracts of isDC, slices.Min, New. -/
import Derived.Test.YtmhflemmkoiffaaStVP
import Derived.Deep.DeepCutAuto
import Derived.Deep.CutBlock
import Derived.Deep.CutRange
set_option linter.unusedVariables false
set_option linter.unusedSimpArgs false
namespace Go.Proofs.Ytmhflemmkoiffaa.stbA
open Go.ChangeShapes Go.WideShapes Go.ChangeAt Go.RowKit Go.Deep
open stVA stVB stVC stVD stVF stVH stVP

/-! ### Worlds that change at two blocks alone -/
structure Kp (p q : Nat) (w w' : World) : Prop where
  os : w'.os = w.os
  tape : w'.tape = w.tape
  output : w'.output = w.output
  size : w.heap.size ≤ w'.heap.size
  block : ∀ k, k < w.heap.size → k ≠ p → k ≠ q → w'.heap[k]? = w.heap[k]?
theorem Kp.refl (p q : Nat) (w : World) : Kp p q w w := ⟨rfl, rfl, rfl, Nat.le_refl _, fun _ _ _ _ => rfl⟩
theorem Kp.trans {p q : Nat} {w w1 w2 : World} (h : Kp p q w w1) (h2 : Kp p q w1 w2) : Kp p q w w2 :=
  ⟨h2.os.trans h.os, h2.tape.trans h.tape, h2.output.trans h.output, Nat.le_trans h.size h2.size, fun k hk a b => (h2.block k (Nat.lt_of_lt_of_le hk h.size) a b).trans (h.block k hk a b)⟩
theorem Kp.of {p q : Nat} {w w1 : World} (h : Below w.heap.size w w1) : Kp p q w w1 := ⟨h.os, h.tape, h.output, h.size, fun k hk _ _ => h.block k hk⟩
theorem Kp.then {p q : Nat} {w w1 w2 : World} (h : Kp p q w w1) (h2 : Below w1.heap.size w1 w2) : Kp p q w w2 := h.trans (Kp.of h2)
theorem Kp.drew {p q : Nat} {w w1 : World} (h : Kp p q w w1) : Kp p q w w1.drew := ⟨h.os, h.tape, h.output, h.size, h.block⟩
theorem Kp.undrew {p q : Nat} {w w1 : World} (h : Kp p q w.drew w1) : Kp p q w w1 := ⟨h.os, h.tape, h.output, h.size, h.block⟩
theorem Kp.setCell {p q : Nat} {w w1 : World} (h : Kp p q w w1) {a : Addr} (ha : a.block = p ∨ a.block = q) (x : Value) : Kp p q w (w1.setCell a x) :=
  h.trans ⟨rfl, rfl, rfl, by rw [World.size_setCell]; exact Nat.le_refl _, fun k _ h1 h2 => Below.heap_setCell w1 a x k (by rcases ha with e | e <;> rw [e] <;> assumption)⟩
theorem Kp.below {p q B : Nat} {w w1 : World} (h : Kp p q w w1) (hB : B ≤ w.heap.size) (hp : B ≤ p) (hq : B ≤ q) : Below B w w1 :=
  ⟨h.os, h.tape, h.output, h.size, fun k hk => h.block k (by omega) (by omega) (by omega)⟩
/-! ### A table, plainly -/
structure Tb where
  dc : Int
  bs : List Int
  g : V
  u : V
  j : Int
  st : Int
structure Tb.ok (s : Tb) : Prop where
  dc : 0 ≤ s.dc ∧ s.dc < 4
  bs : 1 ≤ s.bs.length ∧ s.bs.length ≤ 4
/-- both vectors have one epoch and the same members -/
structure Tb.eq (s : Tb) : Prop where
  ep : s.u.e = s.g.e
  h0 : s.u.h0 = s.g.h0
  h1 : s.u.h1 = s.g.h1
  h2 : s.u.h2 = s.g.h2
  h3 : s.u.h3 = s.g.h3
def mnS (l : List Int) : Nat → Int
  | 0 => l.getD 0 0
  | k + 1 => if l.getD (k + 1) 0 < mnS l k then l.getD (k + 1) 0 else mnS l k
/-- Local -/
def loc (s : Tb) : Int := mnS s.bs (s.bs.length - 1)
def lsO (v : V) (dc x : Int) : Int := (lsS (rsV v dc x) 4).1
/-- Applied -/
def ap (s : Tb) : Int := lsO s.g s.dc (loc s)
def stl (s : Tb) : Tb := { s with st := mx s.st (lsO s.u s.dc (ap s)) }
def putB (s : Tb) (n t : Int) : Tb := { s with bs := s.bs.set n.toNat (mx (s.bs.getD n.toNat 0) t) }
def beatS (s : Tb) (n t : Int) : Tb := if n < 0 ∨ (s.bs.length : Int) ≤ n then s else stl (putB s n t)
def putG (s : Tb) (dc t : Int) : Tb := { s with g := rsV s.g dc t }
def putU (s : Tb) (dc t : Int) : Tb := { s with u := rsV s.u dc t }
def gotS (s : Tb) (dc t : Int) : Tb := if dc = s.dc then s else stl (putG s dc t)
def toldS (s : Tb) (dc e t : Int) : Tb := if dc = s.dc ∨ e < s.j then s else stl (putU s dc t)
def liftS (s : Tb) (t : Int) : Tb := { s with st := mx s.st t }
def szT (s : Tb) (j : Nat) (m : Bool) (e : Int) : Tb := { s with g := szV s.g e (putH s.g j m), u := szV s.u e (putH s.g j m) }
/-- all that was told is forgotten -/
def fgt (s : Tb) (e : Int) : Tb := { s with u := newV e s.u, j := e }
def joinE (s : Tb) (dc e : Int) : Int := if dc < 0 ∨ 4 ≤ dc then 1 else if hb s.g dc.toNat = true then 8 else if e ≤ s.g.e then 11 else 0
def joinS (s : Tb) (dc e : Int) : Tb := if joinE s dc e = 0 then fgt (szT s dc.toNat true e) e else s
def leaveE (s : Tb) (dc e : Int) : Int := if dc < 0 ∨ 4 ≤ dc then 1 else if hb s.g dc.toNat = false then 7 else if e ≤ s.g.e then 11 else 0
def leaveS (s : Tb) (dc e : Int) : Tb := if leaveE s dc e = 0 then stl (szT s dc.toNat false e) else s
theorem ok_stl {s : Tb} (h : s.ok) : (stl s).ok := ⟨h.1, h.2⟩
theorem eq_stl {s : Tb} (h : s.eq) : (stl s).eq := ⟨h.1, h.2, h.3, h.4, h.5⟩
theorem eq_lift {s : Tb} (h : s.eq) (t : Int) : (liftS s t).eq := ⟨h.1, h.2, h.3, h.4, h.5⟩
theorem eq_putB {s : Tb} (h : s.eq) (n t : Int) : (putB s n t).eq := ⟨h.1, h.2, h.3, h.4, h.5⟩
theorem ok_putB {s : Tb} (h : s.ok) (n t : Int) : (putB s n t).ok := ⟨h.1, by have e : (putB s n t).bs.length = s.bs.length := List.length_set ..; rw [e]; exact h.2⟩
theorem rs_e (v : V) (dc t : Int) : (rsV v dc t).e = v.e ∧ (rsV v dc t).h0 = v.h0 ∧ (rsV v dc t).h1 = v.h1 ∧ (rsV v dc t).h2 = v.h2 ∧ (rsV v dc t).h3 = v.h3 := by
  unfold rsV; split <;> exact ⟨rfl, rfl, rfl, rfl, rfl⟩
theorem eq_putG {s : Tb} (h : s.eq) (dc t : Int) : (putG s dc t).eq := by
  obtain ⟨a, b, c, d, e⟩ := rs_e s.g dc t
  exact ⟨h.1.trans a.symm, h.2.trans b.symm, h.3.trans c.symm, h.4.trans d.symm, h.5.trans e.symm⟩
theorem eq_putU {s : Tb} (h : s.eq) (dc t : Int) : (putU s dc t).eq := by
  obtain ⟨a, b, c, d, e⟩ := rs_e s.u dc t
  exact ⟨a.trans h.1, b.trans h.2, c.trans h.3, d.trans h.4, e.trans h.5⟩
theorem eq_szT (s : Tb) (j : Nat) (m : Bool) (e : Int) : (szT s j m e).eq := ⟨rfl, rfl, rfl, rfl, rfl⟩
theorem eq_fgt {s : Tb} (h : s.eq) {e : Int} (he : s.g.e = e) : (fgt s e).eq := ⟨he.symm, h.2, h.3, h.4, h.5⟩
theorem eq_beat {s : Tb} (h : s.eq) (n t : Int) : (beatS s n t).eq := by unfold beatS; split; exact h; exact eq_stl (eq_putB h n t)
theorem eq_got {s : Tb} (h : s.eq) (dc t : Int) : (gotS s dc t).eq := by unfold gotS; split; exact h; exact eq_stl (eq_putG h dc t)
theorem eq_told {s : Tb} (h : s.eq) (dc e t : Int) : (toldS s dc e t).eq := by unfold toldS; split; exact h; exact eq_stl (eq_putU h dc t)
theorem eq_join {s : Tb} (h : s.eq) (dc e : Int) : (joinS s dc e).eq := by unfold joinS; split; exact eq_fgt (eq_szT s _ _ _) rfl; exact h
theorem eq_leave {s : Tb} (h : s.eq) (dc e : Int) : (leaveS s dc e).eq := by unfold leaveS; split; exact eq_stl (eq_szT s _ _ _); exact h
/-! ### A table in memory -/
abbrev TT : TypeId := 46
def cT (q : Nat) (s : Tb) : List Value := [.int .i64 s.dc, .slice (some ⟨q, 0, none⟩) s.bs.length s.bs.length,
  .int .i64 s.g.e, .bool s.g.h0, .bool s.g.h1, .bool s.g.h2, .bool s.g.h3, .int .u64 s.g.t0, .int .u64 s.g.t1, .int .u64 s.g.t2, .int .u64 s.g.t3,
  .int .i64 s.u.e, .bool s.u.h0, .bool s.u.h1, .bool s.u.h2, .bool s.u.h3, .int .u64 s.u.t0, .int .u64 s.u.t1, .int .u64 s.u.t2, .int .u64 s.u.t3,
  .int .i64 s.j, .int .u64 s.st]
structure T (p q : Nat) (s : Tb) (w : World) : Prop where
  row : w.rowIs p TT 22 (fun i => (cT q s).getD i undef)
  bts : w.rowIs q 29 s.bs.length (fun i => .int .u64 (s.bs.getD i 0))
  ne : p ≠ q
  ok : s.ok
section
variable {p q : Nat} {s : Tb} {w w1 : World}
theorem T.below (h : T p q s w) (hB : Below w.heap.size w w1) : T p q s w1 := ⟨h.row.of_block (hB.block p h.row.lt), h.bts.of_block (hB.block q h.bts.lt), h.ne, h.ok⟩
theorem T.drew (h : T p q s w) : T p q s w.drew := ⟨h.row, h.bts, h.ne, h.ok⟩
theorem T.fz (h : T p q s w) (i : Nat) : w.frozen? ⟨p, i, none⟩ = false := h.row.frozen i
/-- what the walk is told of the table but its vectors -/
abbrev C0 (p q : Nat) (s : Tb) (w : World) : Prop := w.cell? ⟨p, 0, none⟩ = some (.int .i64 s.dc) ∧ w.cell? ⟨p, 1, none⟩ = some (.slice (some ⟨q, 0, none⟩) s.bs.length s.bs.length) ∧ w.cell? ⟨p, 20, none⟩ = some (.int .i64 s.j) ∧ w.cell? ⟨p, 21, none⟩ = some (.int .u64 s.st)
theorem T.c0 (h : T p q s w) : C0 p q s w := ⟨h.row.cell (i := 0) (by omega), h.row.cell (i := 1) (by omega), h.row.cell (i := 20) (by omega), h.row.cell (i := 21) (by omega)⟩
/-- of its vectors -/
abbrev CG (p : Nat) (v : V) (w : World) : Prop :=
  w.cell? ⟨p, 2, none⟩ = some (.int .i64 v.e) ∧ w.cell? ⟨p, 3, none⟩ = some (.bool v.h0) ∧ w.cell? ⟨p, 4, none⟩ = some (.bool v.h1) ∧ w.cell? ⟨p, 5, none⟩ = some (.bool v.h2) ∧ w.cell? ⟨p, 6, none⟩ = some (.bool v.h3) ∧
  w.cell? ⟨p, 7, none⟩ = some (.int .u64 v.t0) ∧ w.cell? ⟨p, 8, none⟩ = some (.int .u64 v.t1) ∧ w.cell? ⟨p, 9, none⟩ = some (.int .u64 v.t2) ∧ w.cell? ⟨p, 10, none⟩ = some (.int .u64 v.t3)
abbrev CU (p : Nat) (v : V) (w : World) : Prop :=
  w.cell? ⟨p, 11, none⟩ = some (.int .i64 v.e) ∧ w.cell? ⟨p, 12, none⟩ = some (.bool v.h0) ∧ w.cell? ⟨p, 13, none⟩ = some (.bool v.h1) ∧ w.cell? ⟨p, 14, none⟩ = some (.bool v.h2) ∧ w.cell? ⟨p, 15, none⟩ = some (.bool v.h3) ∧
  w.cell? ⟨p, 16, none⟩ = some (.int .u64 v.t0) ∧ w.cell? ⟨p, 17, none⟩ = some (.int .u64 v.t1) ∧ w.cell? ⟨p, 18, none⟩ = some (.int .u64 v.t2) ∧ w.cell? ⟨p, 19, none⟩ = some (.int .u64 v.t3)
theorem T.cg (h : T p q s w) : CG p s.g w := ⟨h.row.cell (i := 2) (by omega), h.row.cell (i := 3) (by omega), h.row.cell (i := 4) (by omega), h.row.cell (i := 5) (by omega), h.row.cell (i := 6) (by omega), h.row.cell (i := 7) (by omega), h.row.cell (i := 8) (by omega), h.row.cell (i := 9) (by omega), h.row.cell (i := 10) (by omega)⟩
theorem T.cu (h : T p q s w) : CU p s.u w := ⟨h.row.cell (i := 11) (by omega), h.row.cell (i := 12) (by omega), h.row.cell (i := 13) (by omega), h.row.cell (i := 14) (by omega), h.row.cell (i := 15) (by omega), h.row.cell (i := 16) (by omega), h.row.cell (i := 17) (by omega), h.row.cell (i := 18) (by omega), h.row.cell (i := 19) (by omega)⟩
theorem T.bcell (h : T p q s w) {i : Nat} (hi : i < s.bs.length) : w.cell? ⟨q, i, none⟩ = some (.int .u64 (s.bs.getD i 0)) := h.bts.cell hi
theorem T.hcell (h : T p q s w) {j : Nat} (hj : j < 4) : w.cell? ⟨p, 3 + j, none⟩ = some (.bool (hb s.g j)) := by
  rcases four hj with rfl | rfl | rfl | rfl
  · exact h.row.cell (i := 3) (by omega)
  · exact h.row.cell (i := 4) (by omega)
  · exact h.row.cell (i := 5) (by omega)
  · exact h.row.cell (i := 6) (by omega)
theorem tw2 {i : Nat} (hi : i < 22) : i = 0 ∨ i = 1 ∨ i = 2 ∨ i = 3 ∨ i = 4 ∨ i = 5 ∨ i = 6 ∨ i = 7 ∨ i = 8 ∨ i = 9 ∨ i = 10 ∨ i = 11 ∨ i = 12 ∨ i = 13 ∨ i = 14 ∨ i = 15 ∨ i = 16 ∨ i = 17 ∨ i = 18 ∨ i = 19 ∨ i = 20 ∨ i = 21 := by omega
abbrev ptG (w : World) (b : Nat) (v : V) : World := ((((((((w.setCell ⟨b, 2, none⟩ (.int .i64 v.e)).setCell ⟨b, 3, none⟩ (.bool v.h0)).setCell ⟨b, 4, none⟩ (.bool v.h1)).setCell ⟨b, 5, none⟩ (.bool v.h2)).setCell ⟨b, 6, none⟩ (.bool v.h3)).setCell ⟨b, 7, none⟩ (.int .u64 v.t0)).setCell ⟨b, 8, none⟩ (.int .u64 v.t1)).setCell ⟨b, 9, none⟩ (.int .u64 v.t2)).setCell ⟨b, 10, none⟩ (.int .u64 v.t3)
abbrev ptU (w : World) (b : Nat) (v : V) : World := ((((((((w.setCell ⟨b, 11, none⟩ (.int .i64 v.e)).setCell ⟨b, 12, none⟩ (.bool v.h0)).setCell ⟨b, 13, none⟩ (.bool v.h1)).setCell ⟨b, 14, none⟩ (.bool v.h2)).setCell ⟨b, 15, none⟩ (.bool v.h3)).setCell ⟨b, 16, none⟩ (.int .u64 v.t0)).setCell ⟨b, 17, none⟩ (.int .u64 v.t1)).setCell ⟨b, 18, none⟩ (.int .u64 v.t2)).setCell ⟨b, 19, none⟩ (.int .u64 v.t3)
theorem kpG {p q : Nat} {w0 w : World} (h : Kp p q w0 w) (v : V) : Kp p q w0 (ptG w p v) :=
  ((((((((h.setCell (a := ⟨p, 2, none⟩) (.inl rfl) _).setCell (a := ⟨p, 3, none⟩) (.inl rfl) _).setCell (a := ⟨p, 4, none⟩) (.inl rfl) _).setCell (a := ⟨p, 5, none⟩) (.inl rfl) _).setCell (a := ⟨p, 6, none⟩) (.inl rfl) _).setCell (a := ⟨p, 7, none⟩) (.inl rfl) _).setCell (a := ⟨p, 8, none⟩) (.inl rfl) _).setCell (a := ⟨p, 9, none⟩) (.inl rfl) _).setCell (a := ⟨p, 10, none⟩) (.inl rfl) _
theorem kpU {p q : Nat} {w0 w : World} (h : Kp p q w0 w) (v : V) : Kp p q w0 (ptU w p v) :=
  ((((((((h.setCell (a := ⟨p, 11, none⟩) (.inl rfl) _).setCell (a := ⟨p, 12, none⟩) (.inl rfl) _).setCell (a := ⟨p, 13, none⟩) (.inl rfl) _).setCell (a := ⟨p, 14, none⟩) (.inl rfl) _).setCell (a := ⟨p, 15, none⟩) (.inl rfl) _).setCell (a := ⟨p, 16, none⟩) (.inl rfl) _).setCell (a := ⟨p, 17, none⟩) (.inl rfl) _).setCell (a := ⟨p, 18, none⟩) (.inl rfl) _).setCell (a := ⟨p, 19, none⟩) (.inl rfl) _
theorem T.putG (h : T p q s w) (v : V) : T p q { s with g := v } (ptG w p v) :=
  ⟨(((((((((h.row.set 2 _).set 3 _).set 4 _).set 5 _).set 6 _).set 7 _).set 8 _).set 9 _).set 10 _).congr fun i hi => by rcases tw2 hi with rfl | rfl | rfl | rfl | rfl | rfl | rfl | rfl | rfl | rfl | rfl | rfl | rfl | rfl | rfl | rfl | rfl | rfl | rfl | rfl | rfl | rfl <;> rfl,
   ((((((((h.bts.setOther (a := ⟨p, 2, none⟩) h.ne.symm _).setOther (a := ⟨p, 3, none⟩) h.ne.symm _).setOther (a := ⟨p, 4, none⟩) h.ne.symm _).setOther (a := ⟨p, 5, none⟩) h.ne.symm _).setOther (a := ⟨p, 6, none⟩) h.ne.symm _).setOther (a := ⟨p, 7, none⟩) h.ne.symm _).setOther (a := ⟨p, 8, none⟩) h.ne.symm _).setOther (a := ⟨p, 9, none⟩) h.ne.symm _).setOther (a := ⟨p, 10, none⟩) h.ne.symm _, h.ne, ⟨h.ok.1, h.ok.2⟩⟩
theorem T.putU (h : T p q s w) (v : V) : T p q { s with u := v } (ptU w p v) :=
  ⟨(((((((((h.row.set 11 _).set 12 _).set 13 _).set 14 _).set 15 _).set 16 _).set 17 _).set 18 _).set 19 _).congr fun i hi => by rcases tw2 hi with rfl | rfl | rfl | rfl | rfl | rfl | rfl | rfl | rfl | rfl | rfl | rfl | rfl | rfl | rfl | rfl | rfl | rfl | rfl | rfl | rfl | rfl <;> rfl,
   ((((((((h.bts.setOther (a := ⟨p, 11, none⟩) h.ne.symm _).setOther (a := ⟨p, 12, none⟩) h.ne.symm _).setOther (a := ⟨p, 13, none⟩) h.ne.symm _).setOther (a := ⟨p, 14, none⟩) h.ne.symm _).setOther (a := ⟨p, 15, none⟩) h.ne.symm _).setOther (a := ⟨p, 16, none⟩) h.ne.symm _).setOther (a := ⟨p, 17, none⟩) h.ne.symm _).setOther (a := ⟨p, 18, none⟩) h.ne.symm _).setOther (a := ⟨p, 19, none⟩) h.ne.symm _, h.ne, ⟨h.ok.1, h.ok.2⟩⟩
theorem T.putS (h : T p q s w) (x : Int) : T p q { s with st := x } (w.setCell ⟨p, 21, none⟩ (.int .u64 x)) :=
  ⟨(h.row.set 21 _).congr fun i hi => by rcases tw2 hi with rfl | rfl | rfl | rfl | rfl | rfl | rfl | rfl | rfl | rfl | rfl | rfl | rfl | rfl | rfl | rfl | rfl | rfl | rfl | rfl | rfl | rfl <;> rfl,
   h.bts.setOther (a := ⟨p, 21, none⟩) h.ne.symm _, h.ne, ⟨h.ok.1, h.ok.2⟩⟩
theorem T.putJ (h : T p q s w) (x : Int) : T p q { s with j := x } (w.setCell ⟨p, 20, none⟩ (.int .i64 x)) :=
  ⟨(h.row.set 20 _).congr fun i hi => by rcases tw2 hi with rfl | rfl | rfl | rfl | rfl | rfl | rfl | rfl | rfl | rfl | rfl | rfl | rfl | rfl | rfl | rfl | rfl | rfl | rfl | rfl | rfl | rfl <;> rfl,
   h.bts.setOther (a := ⟨p, 20, none⟩) h.ne.symm _, h.ne, ⟨h.ok.1, h.ok.2⟩⟩
theorem T.putB (h : T p q s w) {i : Nat} (hi : i < s.bs.length) (x : Int) : T p q { s with bs := s.bs.set i x } (w.setCell ⟨q, i, none⟩ (.int .u64 x)) := by
  have hl : (s.bs.set i x).length = s.bs.length := List.length_set ..
  refine ⟨(h.row.setOther (a := ⟨q, i, none⟩) h.ne _).congr fun k hk => ?_, ?_, h.ne, ⟨h.ok.1, by rw [hl]; exact h.ok.2⟩⟩
  · show (cT q s).getD k undef = (cT q { s with bs := s.bs.set i x }).getD k undef
    unfold cT
    rw [hl]
  · rw [hl]
    refine (h.bts.set i _).congr fun k hk => ?_
    show (if k = i then _ else _) = _
    by_cases e : k = i
    · subst e; rw [if_pos rfl]; simp [List.getD, hk]
    · rw [if_neg e]; simp [List.getD, List.getElem?_set, Ne.symm e]
end
/-! ### isDC, slices.Min -/
def isD (dc : Int) : Bool := if dc < 0 ∨ 4 ≤ dc then false else true
theorem isdc_any (dc : Int) (w : World) : Calls Try.prog 13 #[.int .i64 dc] w fun r w' => r = .returned (.bool (isD dc)) ∧ w' = w := by
  unfold isD
  by_cases h0 : 0 ≤ dc
  · by_cases h1 : dc < 4
    · rw [if_neg (by omega)]
      go_enter Try.func13, Try.ntmps13
      go_wp2
      go_ret
      exact ⟨rfl, by trivial⟩
    · rw [if_pos (by omega)]
      go_enter Try.func13, Try.ntmps13
      go_wp2
      go_ret
      exact ⟨rfl, by trivial⟩
  · rw [if_pos (by omega)]
    go_enter Try.func13, Try.ntmps13
    go_wp2
    go_ret
    exact ⟨rfl, by trivial⟩
theorem mnS_lt {l : List Int} {k : Nat} (h : l.getD (k + 1) 0 < mnS l k) : mnS l (k + 1) = l.getD (k + 1) 0 := by
  show (if _ then _ else _) = _
  rw [if_pos h]
theorem mnS_ge {l : List Int} {k : Nat} (h : ¬ l.getD (k + 1) 0 < mnS l k) : mnS l (k + 1) = mnS l k := by
  show (if _ then _ else _) = _
  rw [if_neg h]
theorem min_any {q : Nat} {l : List Int} (w : World) (h : w.rowIs q 29 l.length (fun i => .int .u64 (l.getD i 0))) (h0 : 1 ≤ l.length) (h4 : l.length ≤ 4) : Calls Try.prog 18 #[.slice (some ⟨q, 0, none⟩) l.length l.length] w fun r w' => r = .returned (.int .u64 (mnS l (l.length - 1))) ∧ w' = w := by
  have hc := Lib.hid (fun (k : Nat) (hk : k < l.length) => h.cell hk)
  have c0 : w.cell? ⟨q, 0, none⟩ = some (.int .u64 (mnS l 0)) := h.cell h0
  obtain ⟨n, hn⟩ : ∃ n, l.length = n := ⟨_, rfl⟩
  rw [hn] at h0 h4 hc ⊢
  clear h
  obtain ⟨R, hR⟩ : ∃ R, mnS l (n - 1) = R := ⟨_, rfl⟩
  rw [hR]
  replace hR := Lib.hid hR
  replace hn := Lib.hid hn
  go_enter Try.func18, Try.ntmps18
  go_wp2
  go_loopw [3, 4] (fun m i wr => ∃ k : Nat, k + 1 ≤ n ∧ i = .int .i64 ((k + 1 : Nat) : Int) ∧ m = .int .u64 (mnS l k) ∧ wr = w) (fun _ i _ => n - (intOf i).toNat)
  case atStart => exact ⟨0, h0, rfl, rfl, rfl⟩
  case round =>
    clear c0
    obtain ⟨k, hk, rfl, rfl, rfl⟩ := hrel
    by_cases hlt : k + 1 < n
    · have ck : wr.cell? ⟨q, k + 1, none⟩ = some (.int .u64 (l.getD (k + 1) 0)) := hc.out (k + 1) hlt
      have e1 := Lib.hid (@mnS_lt l k)
      have e2 := Lib.hid (@mnS_ge l k)
      generalize mnS l k = a at *
      generalize l.getD (k + 1) 0 = b at *
      by_cases hab : b < a
      · have e := Lib.hid (e1.out hab)
        go_wp2
        go_roundw
        case rel => exact ⟨k + 1, by omega, by go_num, by rw [e.out], by trivial⟩
        case measure => simp [intOf]; omega
      · have e := Lib.hid (e2.out hab)
        go_wp2
        go_roundw
        case rel => exact ⟨k + 1, by omega, by go_num, by rw [e.out], by trivial⟩
        case measure => simp [intOf]; omega
    · obtain rfl : n = k + 1 := by omega
      have hR' : mnS l k = R := hR.out
      rw [hR']
      clear hR' hc
      go_wp2
      go_ret
      exact ⟨rfl, rfl⟩
end Go.Proofs.Ytmhflemmkoiffaa.stbA
