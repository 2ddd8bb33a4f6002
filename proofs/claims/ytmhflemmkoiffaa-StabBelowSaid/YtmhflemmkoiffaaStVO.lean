/- How a vector, and an array of members, that come in are opened. -/
import Derived.Test.YtmhflemmkoiffaaStVH
import Derived.ChangeSame
import Derived.ChangeArms
import Derived.Deep.Fields
import Derived.Lib.SmallJoins
import Derived.Laws.IdiomArrays
set_option linter.unusedVariables false
set_option maxRecDepth 100000
namespace Go.Proofs.Ytmhflemmkoiffaa.stVO
open Go.ChangeShapes Go.WideShapes Go.ChangeAt Go.RowKit Go.Deep Go.Joins
open stVA stVB stVC stVH

/-- what is known of a vector that came in -/
def kV (v : V) : Prop := (-9223372036854775808 ≤ v.e ∧ v.e ≤ 9223372036854775807) ∧ 0 ≤ v.t0 ∧ 0 ≤ v.t1 ∧ 0 ≤ v.t2 ∧ 0 ≤ v.t3
theorem cellsV : Try.prog.cellsOf 42 = 9 := by kernel_rfl
theorem cellsH : Try.prog.cellsOf 22 = 4 := by kernel_rfl
theorem cellsT : Try.prog.cellsOf 40 = 4 := by kernel_rfl
theorem cellsB : Try.prog.cellsOf 4 = 1 := by kernel_rfl
theorem cellsU : Try.prog.cellsOf 29 = 1 := by kernel_rfl
theorem cellsI : Try.prog.cellsOf 3 = 1 := by kernel_rfl
section
variable {H : Type} {enc : TypeId × Value → H} {W : World} {base : Nat}
theorem bools {n : Nat} {c0 c1 c2 c3 : Value} {y : DataW H × List MemPlace} (h : DataW.trod enc Try.prog W base (fun _ => true) true n 22 [c0, c1, c2, c3] = some y) :
    ∃ a b c d : Bool, c0 = .bool a ∧ c1 = .bool b ∧ c2 = .bool c ∧ c3 = .bool d := by
  obtain ⟨y0, y1, y2, y3, m, -, h0, h1, h2, h3⟩ := trod_array4 Try.underlying22 cellsB h
  obtain ⟨x0, e0, _⟩ := DataW.trod_bool Try.underlying4 h0
  obtain ⟨x1, e1, _⟩ := DataW.trod_bool Try.underlying4 h1
  obtain ⟨x2, e2, _⟩ := DataW.trod_bool Try.underlying4 h2
  obtain ⟨x3, e3, _⟩ := DataW.trod_bool Try.underlying4 h3
  simp only [List.cons.injEq, and_true] at e0 e1 e2 e3
  exact ⟨x0, x1, x2, x3, e0, e1, e2, e3⟩
theorem times {n : Nat} {c0 c1 c2 c3 : Value} {y : DataW H × List MemPlace} (h : DataW.trod enc Try.prog W base (fun _ => true) true n 40 [c0, c1, c2, c3] = some y) :
    ∃ a b c d : Int, c0 = .int .u64 a ∧ c1 = .int .u64 b ∧ c2 = .int .u64 c ∧ c3 = .int .u64 d ∧ 0 ≤ a ∧ 0 ≤ b ∧ 0 ≤ c ∧ 0 ≤ d := by
  obtain ⟨y0, y1, y2, y3, m, -, h0, h1, h2, h3⟩ := trod_array4 Try.underlying40 cellsU h
  obtain ⟨x0, e0, _, w0⟩ := DataW.trod_int Try.underlying29 h0
  obtain ⟨x1, e1, _, w1⟩ := DataW.trod_int Try.underlying29 h1
  obtain ⟨x2, e2, _, w2⟩ := DataW.trod_int Try.underlying29 h2
  obtain ⟨x3, e3, _, w3⟩ := DataW.trod_int Try.underlying29 h3
  simp only [List.cons.injEq, and_true] at e0 e1 e2 e3
  have := bounds_u64 w0
  have := bounds_u64 w1
  have := bounds_u64 w2
  have := bounds_u64 w3
  exact ⟨x0, x1, x2, x3, e0, e1, e2, e3, by omega, by omega, by omega, by omega⟩
theorem open_vec {r : Reach} {b0 : Nat} {v : Value} {d : DataW H} {p : List MemPlace}
    (hv : Value.okWide Try.prog W r b0 42 v) (h : DataW.Trod enc Try.prog W base (fun _ => true) true 42 v d p) : ∃ m : V, v = vV m ∧ kV m := by
  obtain ⟨cs, rfl, hs⟩ := okWide_struct Try.underlying42 hv
  obtain ⟨fuel, hf⟩ := h
  obtain ⟨xs, m, _, hx, hcl, hlen, hg⟩ := DataW.trod_struct Try.underlying42 hf
  have hcl' : cs.toList.length = 9 := by rw [cellsV] at hcl; exact hcl
  obtain ⟨l, hl⟩ : ∃ l, cs.toList = l := ⟨_, rfl⟩
  have hcs : cs = l.toArray := by rw [← hl]
  subst hcs
  simp only [Value.cells] at hg
  match l, hcl' with
  | [d0, d1, d2, d3, d4, d5, d6, d7, d8], _ =>
    match xs, hlen with
    | [y0, y1, y2], _ =>
      have g0 := hg 0 _ rfl
      have g1 := hg 1 _ rfl
      have g2 := hg 2 _ rfl
      change DataW.trod enc Try.prog W base _ _ m 3 (List.take (Try.prog.cellsOf 3) [d0, d1, d2, d3, d4, d5, d6, d7, d8]) = some y0 at g0
      change DataW.trod enc Try.prog W base _ _ m 22 (List.take (Try.prog.cellsOf 22) [d1, d2, d3, d4, d5, d6, d7, d8]) = some y1 at g1
      change DataW.trod enc Try.prog W base _ _ m 40 (List.take (Try.prog.cellsOf 40) [d5, d6, d7, d8]) = some y2 at g2
      rw [cellsI] at g0
      rw [cellsH] at g1
      rw [cellsT] at g2
      change DataW.trod enc Try.prog W base _ _ m 3 [d0] = some y0 at g0
      change DataW.trod enc Try.prog W base _ _ m 22 [d1, d2, d3, d4] = some y1 at g1
      change DataW.trod enc Try.prog W base _ _ m 40 [d5, d6, d7, d8] = some y2 at g2
      obtain ⟨x0, e0, _, w0⟩ := DataW.trod_int Try.underlying3 g0
      obtain ⟨b0, b1, b2, b3, rfl, rfl, rfl, rfl⟩ := bools g1
      obtain ⟨t0, t1, t2, t3, rfl, rfl, rfl, rfl, k0, k1, k2, k3⟩ := times g2
      simp only [List.cons.injEq, and_true] at e0
      subst e0
      exact ⟨⟨x0, b0, b1, b2, b3, t0, t1, t2, t3⟩, rfl, bounds_i64 w0, k0, k1, k2, k3⟩
theorem open_mem {r : Reach} {b0 : Nat} {v : Value} {d : DataW H} {p : List MemPlace}
    (hv : Value.okWide Try.prog W r b0 22 v) (h : DataW.Trod enc Try.prog W base (fun _ => true) true 22 v d p) : ∃ m : V, v = hV m := by
  have ht := Try.underlying22
  simp only [Value.okWide, ht] at hv
  obtain ⟨cs, rfl, hs⟩ : ∃ cs, v = .agg cs ∧ cs.size = 4 := by
    obtain ⟨cs, h1, h2, _⟩ := hv
    exact ⟨cs, h1, by rw [h2]; exact cellsH⟩
  obtain ⟨fuel, hf⟩ := h
  obtain ⟨l, hl⟩ : ∃ l, cs.toList = l := ⟨_, rfl⟩
  have hcs : cs = l.toArray := by rw [← hl]
  subst hcs
  simp only [Value.cells] at hf
  match l, hs with
  | [d0, d1, d2, d3], _ =>
    obtain ⟨b0, b1, b2, b3, rfl, rfl, rfl, rfl⟩ := bools hf
    exact ⟨⟨0, b0, b1, b2, b3, 0, 0, 0, 0⟩, rfl⟩
end
end Go.Proofs.Ytmhflemmkoiffaa.stVO
