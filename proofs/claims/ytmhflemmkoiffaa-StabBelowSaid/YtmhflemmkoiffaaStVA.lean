/- A vector of four members, plainly; its value; a box of one in memory; when two vectors are the same. -/
import Derived.Test.YtmhflemmkoiffaaRows
import Derived.WalkKit
import Derived.ProofKit
import Derived.OpenShut
import Derived.Lib.Hide
import Derived.LoopTactic
import Derived.Below
import Derived.WalkLawsBesides
import Derived.Deep.RegionHeld3
import Derived.Deep.OwnRows
import Derived.Deep.QuietTactic
import Derived.BigQuiet
import Derived.WalkSpells
import Derived.IntWalk
import Derived.Deep.RegionLaw
set_option linter.unusedVariables false
namespace Go.Proofs.Ytmhflemmkoiffaa.stVA
open Go.ChangeShapes Go.WideShapes Go.ChangeAt Go.RowKit Go.Deep

theorem al0 (w : World) (o : Obj) : Below w.heap.size w (w.alloc o) := (Below.refl _ _).alloc (Nat.le_refl _) o
theorem trans0 {w w1 w2 : World} (h1 : Below w.heap.size w w1) (h2 : Below w1.heap.size w1 w2) : Below w.heap.size w w2 := h1.trans (h2.mono h1.size)
theorem bal {W X : World} (h : Below W.heap.size W X) (o : Obj) : Below W.heap.size W (X.alloc o) := h.alloc h.size o
theorem bdr {W X : World} (h : Below W.heap.size W X) : Below W.heap.size W X.drew := h.drew
theorem below_drew (w : World) : Below w.heap.size w w.drew := (Below.refl _ _).drew
theorem bdrN {B : Nat} {w w1 : World} (n : Nat) (h : Below B w w1) : Below B w (w1.drewN n) := ⟨h.os, h.tape, h.output, h.size, h.block⟩
theorem undrew {w w' : World} (h : Below w.drew.heap.size w.drew w') : Below w.heap.size w w' := ⟨h.os, h.tape, h.output, h.size, h.block⟩
theorem keep_cell {W W' : World} (hB : Below W.heap.size W W') {b o : Nat} {v : Value} (h : W.cell? ⟨b, o, none⟩ = some v) : W'.cell? ⟨b, o, none⟩ = some v :=
  (hB.cell (p := ⟨b, o, none⟩) (World.block_lt_of_cell? _ _ h)).trans h

/-! ### A vector -/
structure V where
  e : Int
  h0 : Bool
  h1 : Bool
  h2 : Bool
  h3 : Bool
  t0 : Int
  t1 : Int
  t2 : Int
  t3 : Int
deriving DecidableEq
/-- its cells, its value -/
def cV (v : V) : List Value := [.int .i64 v.e, .bool v.h0, .bool v.h1, .bool v.h2, .bool v.h3, .int .u64 v.t0, .int .u64 v.t1, .int .u64 v.t2, .int .u64 v.t3]
abbrev vV (v : V) : Value := .agg #[.int .i64 v.e, .bool v.h0, .bool v.h1, .bool v.h2, .bool v.h3, .int .u64 v.t0, .int .u64 v.t1, .int .u64 v.t2, .int .u64 v.t3]
/-- A box of a vector. -/
abbrev R9 (T : TypeId) (b : Nat) (v : V) (w : World) : Prop := w.rowIs b T 9 (fun i => (cV v).getD i undef)
/-- what the walk is told of it -/
abbrev V9 (b : Nat) (v : V) (w : World) : Prop :=
  w.cell? ⟨b, 0, none⟩ = some (.int .i64 v.e) ∧ w.cell? ⟨b, 1, none⟩ = some (.bool v.h0) ∧ w.cell? ⟨b, 2, none⟩ = some (.bool v.h1) ∧ w.cell? ⟨b, 3, none⟩ = some (.bool v.h2) ∧ w.cell? ⟨b, 4, none⟩ = some (.bool v.h3) ∧
  w.cell? ⟨b, 5, none⟩ = some (.int .u64 v.t0) ∧ w.cell? ⟨b, 6, none⟩ = some (.int .u64 v.t1) ∧ w.cell? ⟨b, 7, none⟩ = some (.int .u64 v.t2) ∧ w.cell? ⟨b, 8, none⟩ = some (.int .u64 v.t3)
section
variable {T : TypeId} {b B : Nat} {v u : V} {w w0 w1 : World}
theorem R9.v9 (h : R9 T b v w) : V9 b v w := ⟨h.cell (i := 0) (by omega), h.cell (i := 1) (by omega), h.cell (i := 2) (by omega), h.cell (i := 3) (by omega), h.cell (i := 4) (by omega), h.cell (i := 5) (by omega), h.cell (i := 6) (by omega), h.cell (i := 7) (by omega), h.cell (i := 8) (by omega)⟩
theorem R9.fz (h : R9 T b v w) (i : Nat) : w.frozen? ⟨b, i, none⟩ = false := h.frozen i
theorem R9.below (h : R9 T b v w) (hB : Below w.heap.size w w1) : R9 T b v w1 := h.of_block (hB.block b h.lt)
theorem nine {i : Nat} (hi : i < 9) : i = 0 ∨ i = 1 ∨ i = 2 ∨ i = 3 ∨ i = 4 ∨ i = 5 ∨ i = 6 ∨ i = 7 ∨ i = 8 := by omega
theorem R9.new (w : World) (v : V) (T : TypeId) : R9 T w.heap.size v (w.alloc (.cells #[.int .i64 v.e, .bool v.h0, .bool v.h1, .bool v.h2, .bool v.h3, .int .u64 v.t0, .int .u64 v.t1, .int .u64 v.t2, .int .u64 v.t3] T)) := by
  have h := World.rowIs_alloc w #[.int .i64 v.e, .bool v.h0, .bool v.h1, .bool v.h2, .bool v.h3, .int .u64 v.t0, .int .u64 v.t1, .int .u64 v.t2, .int .u64 v.t3] T (fun i => (cV v).getD i undef) (fun i hi => ?_)
  · exact h
  · rcases nine (i := i) (by simpa using hi) with rfl | rfl | rfl | rfl | rfl | rfl | rfl | rfl | rfl <;> rfl
/-- a time stored, a member stored -/
theorem R9.put (h : R9 T b u w) (i : Nat) (x : Value) (v : V) (e : ∀ j, j < 9 → (if j = i then x else (cV u).getD j undef) = (cV v).getD j undef) : R9 T b v (w.setCell ⟨b, i, none⟩ x) :=
  (h.set i x).congr e
theorem R9.same (h : R9 T b u w) (e : u = v) : R9 T b v w := e ▸ h
end

/-! ### The plain answers -/
def tm (h : Bool) (t : Int) : Int := if h = true then t else 0
def plain (v : V) : V := ⟨v.e, v.h0, v.h1, v.h2, v.h3, tm v.h0 v.t0, tm v.h1 v.t1, tm v.h2 v.t2, tm v.h3 v.t3⟩
def b4 (a b c d a' b' c' d' : Bool) : Bool := decide (a = a') && (decide (b = b') && (decide (c = c') && decide (d = d')))
def i4 (a b c d a' b' c' d' : Int) : Bool := decide (a = a') && (decide (b = b') && (decide (c = c') && decide (d = d')))
@[go_sem] theorem eqB4_9999 (a b c d a' b' c' d' : Bool) (w : World) : (Op.equalIn 9999 22 (.agg #[.bool a, .bool b, .bool c, .bool d]) (.agg #[.bool a', .bool b', .bool c', .bool d'])).run Try.prog w = .ok (b4 a b c d a' b' c' d') w := by
  rw [show (9999 : Nat) = 9998 + 1 from rfl, Op.equalIn]
  have u3 := Try.underlying4
  have a3 := Try.isAgg4
  have z3 := Try.sizeOf4
  simp only [Sem.run_bind, run_underlying Try.underlying22, Result.andThen_ok]
  simp only [Std.Legacy.Range.forIn_eq_forIn_range', Std.Legacy.Range.size, Nat.sub_zero, Nat.add_sub_cancel, Nat.div_one, List.range'_succ, List.range'_zero, List.forIn_cons, List.forIn_nil]
  go_simp
  unfold b4
  cases a <;> cases a' <;> cases b <;> cases b' <;> simp <;> cases c <;> cases c' <;> cases d <;> cases d' <;> simp
@[go_sem] theorem eqI4_9999 (a b c d a' b' c' d' : Int) (w : World) : (Op.equalIn 9999 40 (.agg #[.int .u64 a, .int .u64 b, .int .u64 c, .int .u64 d]) (.agg #[.int .u64 a', .int .u64 b', .int .u64 c', .int .u64 d'])).run Try.prog w = .ok (i4 a b c d a' b' c' d') w := by
  rw [show (9999 : Nat) = 9998 + 1 from rfl, Op.equalIn]
  have u3 := Try.underlying29
  have a3 := Try.isAgg29
  have z3 := Try.sizeOf29
  simp only [Sem.run_bind, run_underlying Try.underlying40, Result.andThen_ok]
  simp only [Std.Legacy.Range.forIn_eq_forIn_range', Std.Legacy.Range.size, Nat.sub_zero, Nat.add_sub_cancel, Nat.div_one, List.range'_succ, List.range'_zero, List.forIn_cons, List.forIn_nil]
  go_simp
  unfold i4
  by_cases h1 : a = a' <;> by_cases h2 : b = b' <;> by_cases h3 : c = c' <;> by_cases h4 : d = d' <;> simp [h1, h2, h3, h4]
@[go_sem] theorem eqB4_10000 (a b c d a' b' c' d' : Bool) (w : World) : (Op.equalIn 10000 22 (.agg #[.bool a, .bool b, .bool c, .bool d]) (.agg #[.bool a', .bool b', .bool c', .bool d'])).run Try.prog w = .ok (b4 a b c d a' b' c' d') w := by
  rw [show (10000 : Nat) = 9999 + 1 from rfl, Op.equalIn]
  have u3 := Try.underlying4
  have a3 := Try.isAgg4
  have z3 := Try.sizeOf4
  simp only [Sem.run_bind, run_underlying Try.underlying22, Result.andThen_ok]
  simp only [Std.Legacy.Range.forIn_eq_forIn_range', Std.Legacy.Range.size, Nat.sub_zero, Nat.add_sub_cancel, Nat.div_one, List.range'_succ, List.range'_zero, List.forIn_cons, List.forIn_nil]
  go_simp
  unfold b4
  cases a <;> cases a' <;> cases b <;> cases b' <;> simp <;> cases c <;> cases c' <;> cases d <;> cases d' <;> simp
@[go_sem] theorem eqI4_10000 (a b c d a' b' c' d' : Int) (w : World) : (Op.equalIn 10000 40 (.agg #[.int .u64 a, .int .u64 b, .int .u64 c, .int .u64 d]) (.agg #[.int .u64 a', .int .u64 b', .int .u64 c', .int .u64 d'])).run Try.prog w = .ok (i4 a b c d a' b' c' d') w := by
  rw [show (10000 : Nat) = 9999 + 1 from rfl, Op.equalIn]
  have u3 := Try.underlying29
  have a3 := Try.isAgg29
  have z3 := Try.sizeOf29
  simp only [Sem.run_bind, run_underlying Try.underlying40, Result.andThen_ok]
  simp only [Std.Legacy.Range.forIn_eq_forIn_range', Std.Legacy.Range.size, Nat.sub_zero, Nat.add_sub_cancel, Nat.div_one, List.range'_succ, List.range'_zero, List.forIn_cons, List.forIn_nil]
  go_simp
  unfold i4
  by_cases h1 : a = a' <;> by_cases h2 : b = b' <;> by_cases h3 : c = c' <;> by_cases h4 : d = d' <;> simp [h1, h2, h3, h4]
theorem vec_eq (v u : V) : decide (v = u) = (decide (v.e = u.e) && (b4 v.h0 v.h1 v.h2 v.h3 u.h0 u.h1 u.h2 u.h3 && i4 v.t0 v.t1 v.t2 v.t3 u.t0 u.t1 u.t2 u.t3)) := by
  obtain ⟨a, b, c, d, e, f, g, h, i⟩ := v
  obtain ⟨a', b', c', d', e', f', g', h', i'⟩ := u
  unfold b4 i4
  simp [Bool.and_assoc]
end Go.Proofs.Ytmhflemmkoiffaa.stVA