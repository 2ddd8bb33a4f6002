/- Rows of the law's own that are painted over; SpanOwns. -/
import Derived.Test.YtihaapjobkpdcaaSpnT
import Derived.Test.YtihaapjobkpdcaaSpnK
import Derived.Test.YtihaapjobkpdcaaSpnG
set_option linter.unusedVariables false
namespace Go.Proofs.Ytihaapjobkpdcaa.spnX
open Go.ChangeShapes Go.WideShapes Go.ChangeAt Go.RowKit
open spnM spnA spnB spnC spnN spnP spnD spnE spnF spnG spnH spnI spnJ spnK spnQ spnR spnS spnT
attribute [local go_sem high] bin_slt bin_sle bin_sge bin_seq bin_sne

def oth (s : ByteArray) : ByteArray := if seq s { data := #[63] } = true then { data := #[33] } else { data := #[63] }
theorem other_any (s : ByteArray) (w : World) : Calls Try.prog 34 #[.string s] w fun e w' => e = .returned (.string (oth s)) ∧ w = w' := by
  unfold oth
  cases h : seq s { data := #[63] }
  all_goals
    go_enter Try.func34, Try.ntmps34
    go_wp2
    go_ret
    exact ⟨rfl, rfl⟩
/-- cells of a kind -/
def IsS (v : Value) : Prop := ∃ s, v = .string s
def IsI (v : Value) : Prop := ∃ n, v = .int .i64 n
def IsV (v : Value) : Prop := ∃ A n c, v = .slice A n c
/-- a row of the law's own, of such a kind -/
def Kr (P : Value → Prop) (base : Nat) (W : World) (A : Option Addr) (n : Nat) : Prop := n ≤ 140737488351232 ∧ (n = 0 ∨ ∃ g, A = some ⟨g, 0, none⟩ ∧ base ≤ g ∧ ∀ j, j < n → (∃ v, P v ∧ W.cell? ⟨g, j, none⟩ = some v) ∧ W.frozen? ⟨g, j, none⟩ = false)
theorem kr_own {α : Type} [Inhabited α] {f : α → Value} {P : Value → Prop} (hP : ∀ x, P (f x)) {w : World} {base n c : Nat} {t : TypeId} {A : Option Addr} {l : List α} (h : w.ownsRow base t 1 (.slice A n c) n (l.map f)) (hn : n ≤ 140737488351232) : Kr P base w A n := by
  have hl : l.length = n := by have := h.1; simp at this; omega
  refine ⟨hn, ?_⟩
  have hr := own_rl h
  rcases h.2 with ⟨e, rfl⟩ | ⟨g, cap, cur, e, hb, hg, _⟩
  · exact .inl rfl
  · cases e
    by_cases h0 : n = 0
    · exact .inl h0
    · obtain ⟨b, off, e1, _, hc⟩ := hr.at (show 0 < n by omega)
      cases e1
      refine .inr ⟨g, rfl, hb, fun j hj => ⟨⟨f (nt l j), hP _, ?_⟩, h.frozenAt j⟩⟩
      have := hc j hj
      rwa [Nat.zero_add] at this
theorem Kr.below {P : Value → Prop} {base n : Nat} {A : Option Addr} {W W' : World} (h : Kr P base W A n) (hB : Below W.heap.size W W') : Kr P base W' A n := by
  refine ⟨h.1, h.2.imp id ?_⟩
  rintro ⟨g, e, hb, hc⟩
  refine ⟨g, e, hb, fun j hj => ?_⟩
  obtain ⟨⟨v, hv, hcv⟩, hf⟩ := hc j hj
  exact ⟨⟨v, hv, keep_cell hB hcv⟩, keep_frozen hB hcv hf⟩
theorem Kr.more {P : Value → Prop} {base base' n : Nat} {A : Option Addr} {W : World} (h : Kr P base W A n) (hb : base' ≤ base) : Kr P base' W A n :=
  ⟨h.1, h.2.imp id fun ⟨g, e, h1, h2⟩ => ⟨g, e, by omega, h2⟩⟩
/-- A store over a cell of one kind by one of this kind leaves rows of this kind, and of others. -/
theorem Kr.set {P Q : Value → Prop} {base n g o : Nat} {A : Option Addr} {W : World} {u u' : Value} (h : Kr P base W A n) (hu : W.cell? ⟨g, o, none⟩ = some u) (hQ : Q u) (hQ' : Q u') (hPQ : (∀ v, Q v → P v) ∨ (∀ v, Q v → ¬ P v)) : Kr P base (W.setCell ⟨g, o, none⟩ u') A n := by
  refine ⟨h.1, h.2.imp id ?_⟩
  rintro ⟨g', e, hb, hc⟩
  refine ⟨g', e, hb, fun j hj => ?_⟩
  obtain ⟨⟨v, hv, hcv⟩, hf⟩ := hc j hj
  refine ⟨?_, by rw [World.frozen?_setCell]; exact hf⟩
  by_cases he : (⟨g, o, none⟩ : Addr) = ⟨g', j, none⟩
  · injection he with e1 e2
    subst e1 e2
    rw [hu] at hcv
    cases hcv
    rcases hPQ with h1 | h1
    · exact ⟨u', h1 _ hQ', World.cell?_setCell_same' _ _ _ (by rw [hu]; rfl)⟩
    · exact absurd hv (h1 _ hQ)
  · exact ⟨v, hv, by rw [World.cell?_setCell_other _ _ _ _ he]; exact hcv⟩
theorem vs_ne {v : Value} (h : IsS v) : ¬ IsI v := by rintro ⟨n, rfl⟩; obtain ⟨s, e⟩ := h; cases e
theorem vi_ne {v : Value} (h : IsI v) : ¬ IsS v := by rintro ⟨n, rfl⟩; obtain ⟨s, e⟩ := h; cases e
theorem cell_apart {W : World} {g o : Nat} {u u' : Value} (hu : W.cell? ⟨g, o, none⟩ = some u) (hQ : IsS u ∨ IsI u) {b p : Nat} {A : Option Addr} {n c : Nat} (h : W.cell? ⟨b, p, none⟩ = some (.slice A n c)) : (W.setCell ⟨g, o, none⟩ u').cell? ⟨b, p, none⟩ = some (.slice A n c) := by
  rw [World.cell?_setCell_other _ _ _ _ (fun e => by
    rw [← e, hu] at h
    cases h
    rcases hQ with ⟨s, e⟩ | ⟨s, e⟩ <;> cases e)]
  exact h
/-- the maps that are painted, and the array in which they lie -/
structure QS (base ab : Nat) (D1 : Nat → Option Addr) (n1 c1 : Nat → Nat) (D2 : Nat → Option Addr) (n2 c2 : Nat → Nat) (W : World) : Prop where
  cell : ∀ i, i < 4 → W.cell? ⟨ab, i * 2, none⟩ = some (.slice (D1 i) (n1 i) (c1 i)) ∧ W.cell? ⟨ab, i * 2 + 1, none⟩ = some (.slice (D2 i) (n2 i) (c2 i))
  rs : ∀ i, i < 4 → Kr IsS base W (D1 i) (n1 i)
  ri : ∀ i, i < 4 → Kr IsI base W (D2 i) (n2 i)
/-- .. and the map of this round in its box -/
structure XS (base ab xb : Nat) (D1 : Nat → Option Addr) (n1 c1 : Nat → Nat) (D2 : Nat → Option Addr) (n2 c2 : Nat → Nat) (i : Nat) (w0 W : World) : Prop where
  qs : QS base ab D1 n1 c1 D2 n2 c2 W
  x0 : W.cell? ⟨xb, 0, none⟩ = some (.slice (D1 i) (n1 i) (c1 i))
  x1 : W.cell? ⟨xb, 1, none⟩ = some (.slice (D2 i) (n2 i) (c2 i))
  bel : Below base w0 W
section
variable {base ab xb g o i : Nat} {D1 D2 : Nat → Option Addr} {n1 c1 n2 c2 : Nat → Nat} {w0 W W' : World} {u u' : Value}
theorem QS.below (h : QS base ab D1 n1 c1 D2 n2 c2 W) (hB : Below W.heap.size W W') : QS base ab D1 n1 c1 D2 n2 c2 W' := ⟨fun i hi => ⟨keep_cell hB (h.cell i hi).1, keep_cell hB (h.cell i hi).2⟩, fun i hi => (h.rs i hi).below hB, fun i hi => (h.ri i hi).below hB⟩
theorem QS.setS (h : QS base ab D1 n1 c1 D2 n2 c2 W) (hu : W.cell? ⟨g, o, none⟩ = some u) (hQ : IsS u) (hQ' : IsS u') : QS base ab D1 n1 c1 D2 n2 c2 (W.setCell ⟨g, o, none⟩ u') :=
  ⟨fun i hi => ⟨cell_apart hu (.inl hQ) (h.cell i hi).1, cell_apart hu (.inl hQ) (h.cell i hi).2⟩, fun i hi => (h.rs i hi).set hu hQ hQ' (.inl fun _ h => h), fun i hi => (h.ri i hi).set hu hQ hQ' (.inr fun _ h => vs_ne h)⟩
theorem QS.setI (h : QS base ab D1 n1 c1 D2 n2 c2 W) (hu : W.cell? ⟨g, o, none⟩ = some u) (hQ : IsI u) (hQ' : IsI u') : QS base ab D1 n1 c1 D2 n2 c2 (W.setCell ⟨g, o, none⟩ u') :=
  ⟨fun i hi => ⟨cell_apart hu (.inr hQ) (h.cell i hi).1, cell_apart hu (.inr hQ) (h.cell i hi).2⟩, fun i hi => (h.rs i hi).set hu hQ hQ' (.inr fun _ h => vi_ne h), fun i hi => (h.ri i hi).set hu hQ hQ' (.inl fun _ h => h)⟩
theorem XS.setS (h : XS base ab xb D1 n1 c1 D2 n2 c2 i w0 W) (hu : W.cell? ⟨g, o, none⟩ = some u) (hQ : IsS u) (hQ' : IsS u') (hg : base ≤ g) : XS base ab xb D1 n1 c1 D2 n2 c2 i w0 (W.setCell ⟨g, o, none⟩ u') :=
  ⟨h.qs.setS hu hQ hQ', cell_apart hu (.inl hQ) h.x0, cell_apart hu (.inl hQ) h.x1, h.bel.setCell (p := ⟨g, o, none⟩) hg u'⟩
theorem XS.setI (h : XS base ab xb D1 n1 c1 D2 n2 c2 i w0 W) (hu : W.cell? ⟨g, o, none⟩ = some u) (hQ : IsI u) (hQ' : IsI u') (hg : base ≤ g) : XS base ab xb D1 n1 c1 D2 n2 c2 i w0 (W.setCell ⟨g, o, none⟩ u') :=
  ⟨h.qs.setI hu hQ hQ', cell_apart hu (.inr hQ) h.x0, cell_apart hu (.inr hQ) h.x1, h.bel.setCell (p := ⟨g, o, none⟩) hg u'⟩
theorem XS.drew (h : XS base ab xb D1 n1 c1 D2 n2 c2 i w0 W) : XS base ab xb D1 n1 c1 D2 n2 c2 i w0 W.drew := ⟨⟨h.qs.cell, h.qs.rs, h.qs.ri⟩, h.x0, h.x1, h.bel.drew⟩
end
def sel4 {α : Type} (a b c d : α) (i : Nat) : α := if i = 0 then a else if i = 1 then b else if i = 2 then c else d
theorem row8 (w : World) (v0 v1 v2 v3 v4 v5 v6 v7 : Value) (t : TypeId) (i : Nat) (hi : i < 4) : (w.alloc (.cells #[v0, v1, v2, v3, v4, v5, v6, v7] t)).cell? ⟨w.heap.size, i * 2, none⟩ = some (sel4 v0 v2 v4 v6 i) ∧ (w.alloc (.cells #[v0, v1, v2, v3, v4, v5, v6, v7] t)).cell? ⟨w.heap.size, i * 2 + 1, none⟩ = some (sel4 v1 v3 v5 v7 i) := by
  have h := fun (j : Nat) (v : Value) (hv : (#[v0, v1, v2, v3, v4, v5, v6, v7] : Array Value)[j]? = some v) => (cell_of_row _ _ j _ t (0, 0) (heap_alloc_new w (.cells #[v0, v1, v2, v3, v4, v5, v6, v7] t))).trans hv
  have : i = 0 ∨ i = 1 ∨ i = 2 ∨ i = 3 := by omega
  rcases this with rfl | rfl | rfl | rfl
  · exact ⟨h 0 _ rfl, h 1 _ rfl⟩
  · exact ⟨h 2 _ rfl, h 3 _ rfl⟩
  · exact ⟨h 4 _ rfl, h 5 _ rfl⟩
  · exact ⟨h 6 _ rfl, h 7 _ rfl⟩
theorem QS.new {base : Nat} {w : World} {E1 E2 F1 F2 G1 G2 H1 H2 : Option Addr} {ea eb ec ed na nb nc nd fa fb fc fd ma mb mc md : Nat} (t : TypeId)
    (ra : Kr IsS base w E1 na) (ia : Kr IsI base w E2 ma) (rb : Kr IsS base w F1 nb) (ib : Kr IsI base w F2 mb) (rc : Kr IsS base w G1 nc) (ic : Kr IsI base w G2 mc) (rd : Kr IsS base w H1 nd) (id_ : Kr IsI base w H2 md) :
    QS base w.heap.size (sel4 E1 F1 G1 H1) (sel4 na nb nc nd) (sel4 ea eb ec ed) (sel4 E2 F2 G2 H2) (sel4 ma mb mc md) (sel4 fa fb fc fd)
      (w.alloc (.cells #[.slice E1 na ea, .slice E2 ma fa, .slice F1 nb eb, .slice F2 mb fb, .slice G1 nc ec, .slice G2 mc fc, .slice H1 nd ed, .slice H2 md fd] t)) := by
  have hB := al0 w (.cells #[.slice E1 na ea, .slice E2 ma fa, .slice F1 nb eb, .slice F2 mb fb, .slice G1 nc ec, .slice G2 mc fc, .slice H1 nd ed, .slice H2 md fd] t)
  refine ⟨fun i hi => ?_, fun i hi => ?_, fun i hi => ?_⟩
  · have h := row8 w (.slice E1 na ea) (.slice E2 ma fa) (.slice F1 nb eb) (.slice F2 mb fb) (.slice G1 nc ec) (.slice G2 mc fc) (.slice H1 nd ed) (.slice H2 md fd) t i hi
    have : i = 0 ∨ i = 1 ∨ i = 2 ∨ i = 3 := by omega
    rcases this with rfl | rfl | rfl | rfl <;> exact h
  · have : i = 0 ∨ i = 1 ∨ i = 2 ∨ i = 3 := by omega
    rcases this with rfl | rfl | rfl | rfl
    · exact ra.below hB
    · exact rb.below hB
    · exact rc.below hB
    · exact rd.below hB
  · have : i = 0 ∨ i = 1 ∨ i = 2 ∨ i = 3 := by omega
    rcases this with rfl | rfl | rfl | rfl
    · exact ia.below hB
    · exact ib.below hB
    · exact ic.below hB
    · exact id_.below hB
end Go.Proofs.Ytihaapjobkpdcaa.spnX
