/- How a Op, and a slice of them, that come in are opened. -/
import Derived.Test.YtmhflemmkoiffaaOpG
import Derived.ChangeArms
import Derived.ChangeSame
import Derived.Deep.Fields
import Derived.Deep.Slices
import Derived.Lib.SmallJoins
namespace Go.Proofs.Ytmhflemmkoiffaa.opB
open Go.ChangeShapes Go.WideShapes Go.ChangeAt Go.RowKit Go.Deep Go.Joins
open opG
set_option linter.unusedVariables false

structure Op where
  k : Int
  a : Int
  e : Int
  t : Int
instance : Inhabited Op := ⟨⟨0, 0, 0, 0⟩⟩
/-- the cells of one -/
def cOp (m : Op) : Array Value := #[.int .i64 m.k, .int .i64 m.a, .int .i64 m.e, .int .u64 m.t]
/-- what is known of one that came in -/
def kOp (W : World) (m : Op) : Prop := (-9223372036854775808 ≤ m.k ∧ m.k ≤ 9223372036854775807) ∧ (-9223372036854775808 ≤ m.a ∧ m.a ≤ 9223372036854775807) ∧ (-9223372036854775808 ≤ m.e ∧ m.e ≤ 9223372036854775807) ∧ (0 ≤ m.t ∧ m.t < 18446744073709551616)
def QOp (W : World) (b o : Nat) (m : Op) : Prop := (W.cell? ⟨b, o, none⟩ = some (.int .i64 m.k) ∧ W.cell? ⟨b, o + 1, none⟩ = some (.int .i64 m.a) ∧ W.cell? ⟨b, o + 2, none⟩ = some (.int .i64 m.e) ∧ W.cell? ⟨b, o + 3, none⟩ = some (.int .u64 m.t)) ∧ kOp W m 
theorem oneOp : oneCellFields Try.prog (match Try.prog.underlying 34 with | some (.struct fs) => fs | _ => #[]) = true := by kernel_rfl
theorem cellsOp : Try.prog.cellsOf 34 = 4 := by kernel_rfl
section
variable {H : Type} {enc : TypeId × Value → H} {W : World} {base : Nat}
theorem elemOp {n : Nat} {cs : List Value} {x : DataW H × List MemPlace} (h : DataW.trod enc Try.prog W base (fun _ => true) true n 34 cs = some x) (hw : Kept (x.1.weights Try.prog 34)) :
    ∃ (m : Op), cs = [.int .i64 m.k, .int .i64 m.a, .int .i64 m.e, .int .u64 m.t] ∧ kOp W m  := by
  obtain ⟨xs, m, _, hx, hcl, hlen, hg⟩ := DataW.trod_struct Try.underlying34 h
  have hone := hone_of oneOp
  simp only [Try.underlying34] at hone
  rw [cellsOp] at hcl
  match cs, hcl with
  | [d0, d1, d2, d3], _ =>
    match xs, hlen with
    | [y0, y1, y2, y3], _ =>
      obtain ⟨o0, k0⟩ := hone 0 _ rfl
      obtain ⟨o1, k1⟩ := hone 1 _ rfl
      obtain ⟨o2, k2⟩ := hone 2 _ rfl
      obtain ⟨o3, k3⟩ := hone 3 _ rfl
      have g0 := hg 0 _ rfl
      rw [o0, k0] at g0
      change DataW.trod enc Try.prog W base _ _ m 3 [d0] = some y0 at g0
      have g1 := hg 1 _ rfl
      rw [o1, k1] at g1
      change DataW.trod enc Try.prog W base _ _ m 3 [d1] = some y1 at g1
      have g2 := hg 2 _ rfl
      rw [o2, k2] at g2
      change DataW.trod enc Try.prog W base _ _ m 3 [d2] = some y2 at g2
      have g3 := hg 3 _ rfl
      rw [o3, k3] at g3
      change DataW.trod enc Try.prog W base _ _ m 29 [d3] = some y3 at g3
      obtain ⟨x0, e0, _, w0⟩ := DataW.trod_int Try.underlying3 g0
      obtain ⟨x1, e1, _, w1⟩ := DataW.trod_int Try.underlying3 g1
      obtain ⟨x2, e2, _, w2⟩ := DataW.trod_int Try.underlying3 g2
      obtain ⟨x3, e3, _, w3⟩ := DataW.trod_int Try.underlying29 g3
      simp only [List.cons.injEq, and_true] at e0 e1 e2 e3
      subst e0 e1 e2 e3
      exact ⟨⟨x0, x1, x2, x3⟩, rfl, bounds_i64 w0, bounds_i64 w1, bounds_i64 w2, (show 0 ≤ x3 ∧ x3 < 18446744073709551616 by have := bounds_u64 w3; omega)⟩
theorem atOp (b o : Nat) (cs : List Value) (n : Nat) (x : DataW H × List MemPlace) (hc : ∀ j, j < 4 → W.cell? ⟨b, o + j, none⟩ = cs[j]?) (_ : cs.length = 4) (h : DataW.trod enc Try.prog W base (fun _ => true) true n 34 cs = some x) (hw : Kept (x.1.weights Try.prog 34)) :
    ∃ m, QOp W b o m := by
  obtain ⟨m, rfl, hk⟩ := elemOp h hw
  exact ⟨m, ⟨hc 0 (by omega), hc 1 (by omega), hc 2 (by omega), hc 3 (by omega)⟩, hk⟩
/-- One that came in by value. -/
theorem open1Op {r : Reach} {b0 : Nat} {v : Value} {d : DataW H} {p : List MemPlace} {ts : List TypeId} {ds : List (DataW H)} (j : Nat)
    (hv : Value.okWide Try.prog W r b0 34 v) (h : DataW.Trod enc Try.prog W base (fun _ => true) true 34 v d p)
    (hsz : (DataW.weightsEach Try.prog ts ds).all (· ≤ reachBytes) = true) (hj : ts[j]? = some 34) (hd : ds[j]? = some d) :
    ∃ m , v = .agg (cOp m ) ∧ kOp W m  := by
  obtain ⟨cs, rfl, hs⟩ := okWide_struct Try.underlying34 hv
  obtain ⟨fuel, hf⟩ := h
  obtain ⟨m, hc, hk⟩ := elemOp hf (kept_of hsz hj hd)
  have hc' : cs.toList = (cOp m ).toList := hc
  exact ⟨m, congrArg Value.agg (Array.toList_inj.1 hc'), hk⟩
/-- A slice of them. -/
theorem openOp {r : Reach} {b0 : Nat} {v : Value} {d : DataW H} {p : List MemPlace} {ts : List TypeId} {ds : List (DataW H)} (j : Nat)
    (hv : Value.okWide Try.prog W r b0 23 v) (h : DataW.Trod enc Try.prog W base (fun _ => true) true 23 v d p)
    (hsz : (DataW.weightsEach Try.prog ts ds).all (· ≤ reachBytes) = true) (hj : ts[j]? = some 23) (hd : ds[j]? = some d) :
    ∃ a len cap l, v = .slice a len cap ∧ Rs W QOp 4 a len l := by
  obtain ⟨a, len, cap, rfl⟩ := okWide_slice Try.underlying23 hv
  obtain ⟨fuel, hf⟩ := h
  obtain ⟨a', len', cap', l, e, h1, h2, h3⟩ := open_rows Try.underlying23 cellsOp (by omega) (QOp W) atOp (by simpa [Value.cells] using hf) (kept_of hsz hj hd)
  cases e
  exact ⟨a, len, cap, l, rfl, h1, h2, h3⟩
end
end Go.Proofs.Ytmhflemmkoiffaa.opB
