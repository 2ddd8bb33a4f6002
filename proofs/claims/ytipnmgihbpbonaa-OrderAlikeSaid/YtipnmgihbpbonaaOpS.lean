/- How a slice of pairs of numbers (arrays) that comes in is opened. -/
import Derived.Test.YtipnmgihbpbonaaOpG
set_option linter.unusedVariables false
set_option maxRecDepth 100000
namespace Go.Proofs.Ytipnmgihbpbonaa.opS
open Go.ChangeShapes Go.WideShapes Go.ChangeAt Go.RowKit Go.Deep Go.Joins
open opG

structure Sw where
  a : Int
  b : Int
instance : Inhabited Sw := ⟨⟨0, 0⟩⟩
def QSw (W : World) (b o : Nat) (m : Sw) : Prop := W.cell? ⟨b, o, none⟩ = some (.int .i64 m.a) ∧ W.cell? ⟨b, o + 1, none⟩ = some (.int .i64 m.b)
theorem cellsSw : Try.prog.cellsOf 53 = 2 := by kernel_rfl
theorem cellsI : Try.prog.cellsOf 3 = 1 := by kernel_rfl
section
variable {H : Type} {enc : TypeId × Value → H} {W : World} {base : Nat}
theorem atSw (b o : Nat) (cs : List Value) (n : Nat) (x : DataW H × List MemPlace) (hc : ∀ j, j < 2 → W.cell? ⟨b, o + j, none⟩ = cs[j]?) (_ : cs.length = 2) (h : DataW.trod enc Try.prog W base (fun _ => true) true n 53 cs = some x) (hw : Kept (x.1.weights Try.prog 53)) :
    ∃ m, QSw W b o m := by
  obtain ⟨xs, m, _, hx, hl, hlen, hg⟩ := DataW.trod_array Try.underlying53 h
  rw [cellsI] at hg
  rw [cellsSw] at hl
  match cs, hl, xs, hlen with
  | [d0, d1], _, [y0, y1], _ =>
    have g0 := hg 0 (by omega)
    have g1 := hg 1 (by omega)
    simp only [Nat.zero_mul, List.drop_zero, List.take_succ_cons, List.take_zero, Nat.one_mul, List.drop_succ_cons, List.getElem?_cons_zero, List.getElem?_cons_succ] at g0 g1
    obtain ⟨n0, e0, _, _⟩ := DataW.trod_int Try.underlying3 g0
    obtain ⟨n1, e1, _, _⟩ := DataW.trod_int Try.underlying3 g1
    simp only [List.cons.injEq, and_true] at e0 e1
    subst e0 e1
    exact ⟨⟨n0, n1⟩, hc 0 (by omega), hc 1 (by omega)⟩
/-- A slice of them. -/
theorem openSw {r : Reach} {b0 : Nat} {v : Value} {d : DataW H} {p : List MemPlace} {ts : List TypeId} {ds : List (DataW H)} (j : Nat)
    (hv : Value.okWide Try.prog W r b0 52 v) (h : DataW.Trod enc Try.prog W base (fun _ => true) true 52 v d p)
    (hsz : (DataW.weightsEach Try.prog ts ds).all (· ≤ reachBytes) = true) (hj : ts[j]? = some 52) (hd : ds[j]? = some d) :
    ∃ a len cap l, v = .slice a len cap ∧ Rs W QSw 2 a len l := by
  obtain ⟨a, len, cap, rfl⟩ := okWide_slice Try.underlying52 hv
  obtain ⟨fuel, hf⟩ := h
  obtain ⟨a', len', cap', l, e, h1, h2, h3⟩ := open_rows Try.underlying52 cellsSw (by omega) (QSw W) atSw (by simpa [Value.cells] using hf) (kept_of hsz hj hd)
  cases e
  exact ⟨a, len, cap, l, rfl, h1, h2, h3⟩
end
end Go.Proofs.Ytipnmgihbpbonaa.opS
