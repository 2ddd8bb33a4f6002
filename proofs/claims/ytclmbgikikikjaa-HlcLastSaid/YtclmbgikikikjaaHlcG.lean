/- How marks that come in are opened: a mark by value, and a slice of marks. -/
import Derived.Test.YtclmbgikikikjaaHlcH
import Derived.Lib.SmallJoins
namespace Go.Proofs.Ytclmbgikikikjaa.hlcG
open Go.ChangeShapes Go.WideShapes Go.ChangeAt Go.RowKit Go.Joins
open hlcA hlcE hlcH

theorem cellsMark : Try.prog.cellsOf 38 = 3 := by kernel_rfl

/-- A mark that came in is three numbers. -/
theorem open_mark {H : Type} {enc : TypeId × Value → H} {W : World} {r : Reach} {base b0 : Nat} {spare : Nat → Bool} {held : Bool} {v : Value} {d : DataW H} {p : List MemPlace}
    (hv : Value.okWide Try.prog W r b0 38 v) (h : DataW.Trod enc Try.prog W base spare held 38 v d p) : ∃ a : Int × Int × Int, v = mk a := by
  obtain ⟨c0, c1, c2, y0, y1, y2, m, rfl, _, _, hy0, hy1, hy2⟩ := open_agg3 Try.underlying38 (by kernel_rfl) cellsMark hv h
  obtain ⟨x0, e0, _, _⟩ := DataW.trod_int Try.underlying22 hy0
  obtain ⟨x1, e1, _, _⟩ := DataW.trod_int Try.underlying3 hy1
  obtain ⟨x2, e2, _, _⟩ := DataW.trod_int Try.underlying3 hy2
  simp at e0 e1 e2
  subst e0 e1 e2
  exact ⟨(x0, x1, x2), rfl⟩

/-- One element of a slice of marks, read: three cells. -/
theorem elem_mark {H : Type} {enc : TypeId × Value → H} {W : World} {base : Nat} {spare : Nat → Bool} {held : Bool} {n : Nat} {cs : List Value} {x : DataW H × List MemPlace} (hn : cs.length = 3)
    (h : DataW.trod enc Try.prog W base spare held n 38 cs = some x) : ∃ m : Int × Int × Int, cs = [.int .u64 m.1, .int .i64 m.2.1, .int .i64 m.2.2] := by
  obtain ⟨c0, c1, c2, rfl⟩ : ∃ c0 c1 c2, cs = [c0, c1, c2] := by
    match cs, hn with
    | [c0, c1, c2], _ => exact ⟨c0, c1, c2, rfl⟩
  obtain ⟨y0, y1, y2, n', hx, _, h0, h1, h2⟩ := Go.Deep.trod_struct3 Try.underlying38 h
  have s0 : Try.prog.cellsOf 22 = 1 := by kernel_rfl
  have s1 : Try.prog.cellsOf 3 = 1 := by kernel_rfl
  obtain ⟨x0, e0, _, _⟩ := DataW.trod_int Try.underlying22 h0
  obtain ⟨x1, e1, _, _⟩ := DataW.trod_int Try.underlying3 h1
  obtain ⟨x2, e2, _, _⟩ := DataW.trod_int Try.underlying3 h2
  refine ⟨(x0, x1, x2), ?_⟩
  simp [s0] at e0
  simp [s1] at e1 e2
  rw [e0, e1, e2]

/-- A slice of marks that came in. -/
theorem open_marks {H : Type} {enc : TypeId × Value → H} {W : World} {r : Reach} {base b0 : Nat} {spare : Nat → Bool} {v : Value} {d : DataW H} {p : List MemPlace}
    (hv : Value.okWide Try.prog W r b0 42 v) (h : DataW.Trod enc Try.prog W base spare true 42 v d p) :
    ∃ (a : Option Addr) (len cap : Nat) (f : Nat → Mk), v = .slice a len cap ∧ Marks W a len f := by
  obtain ⟨a, len, cap, rfl⟩ := okWide_slice Try.underlying42 hv
  obtain ⟨fuel, hf⟩ := h
  rcases Go.Deep.open_slice Try.underlying42 hf with ⟨hcs, _⟩ | ⟨x, l, c, m, n, D, Pl, hcs, _, hl, hm, hmm, _, hi⟩
  · simp [Value.cells] at hcs
    obtain ⟨rfl, rfl, rfl⟩ := hcs
    exact ⟨none, 0, 0, fun _ => (0, 0, 0), rfl, by omega, .inl rfl⟩
  · simp [Value.cells] at hcs
    obtain ⟨rfl, rfl, rfl⟩ := hcs
    unfold maxLen at hm
    rw [cellsMark] at hi
    have hlm : len ≤ m := by rw [hmm]; split <;> omega
    have each : ∀ i, i < len → ∃ t : Mk, W.cell? (x.add (i * 3)) = some (.int .u64 t.1) ∧ W.cell? (x.add (i * 3 + 1)) = some (.int .i64 t.2.1) ∧ W.cell? (x.add (i * 3 + 2)) = some (.int .i64 t.2.2) := by
      intro i hil
      obtain ⟨cs, hc, ht⟩ := hi i (by omega)
      obtain ⟨_, hcl, hat⟩ := World.cells?_some hc
      obtain ⟨t, rfl⟩ := elem_mark hcl ht
      refine ⟨t, ?_, ?_, ?_⟩
      · have := hat 0 (by omega); rw [Go.Deep.add_add] at this; simpa using this
      · have := hat 1 (by omega); rw [Go.Deep.add_add] at this; simpa using this
      · have := hat 2 (by omega); rw [Go.Deep.add_add] at this; simpa using this
    by_cases h0 : len = 0
    · exact ⟨some x, len, cap, fun _ => (0, 0, 0), rfl, by omega, .inl h0⟩
    · obtain ⟨b, off, spot⟩ := x
      obtain ⟨t0, ht0, _⟩ := each 0 (by omega)
      have hspot : spot = none := by simpa [Addr.add] using World.cell?_spot ht0
      subst hspot
      rw [Go.WideShapes.add_plain] at ht0
      have each' : ∀ i : Nat, ∃ t : Mk, i < len → W.cell? ⟨b, off + i * 3, none⟩ = some (.int .u64 t.1) ∧ W.cell? ⟨b, off + i * 3 + 1, none⟩ = some (.int .i64 t.2.1) ∧ W.cell? ⟨b, off + i * 3 + 2, none⟩ = some (.int .i64 t.2.2) := by
        intro i
        by_cases hil : i < len
        · obtain ⟨t, ht⟩ := each i hil
          rw [Go.WideShapes.add_plain, Go.WideShapes.add_plain, Go.WideShapes.add_plain] at ht
          exact ⟨t, fun _ => ht⟩
        · exact ⟨t0, fun h => absurd h hil⟩
      exact ⟨_, len, cap, fun i => (each' i).choose, rfl, by omega, .inr ⟨b, off, rfl, World.block_lt_of_cell? _ _ ht0, fun i => (each' i).choose_spec⟩⟩
end Go.Proofs.Ytclmbgikikikjaa.hlcG
