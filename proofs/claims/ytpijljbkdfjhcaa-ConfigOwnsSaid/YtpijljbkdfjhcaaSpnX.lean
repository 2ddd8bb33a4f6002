/- Rows of the law's own that are painted over. -/
import Derived.Test.YtpijljbkdfjhcaaSpnT
import Derived.Test.YtpijljbkdfjhcaaSpnK
import Derived.Test.YtpijljbkdfjhcaaSpnG
set_option linter.unusedVariables false
namespace Go.Proofs.Ytpijljbkdfjhcaa.spnX
open Go.ChangeShapes Go.WideShapes Go.ChangeAt Go.RowKit
open spnM spnA spnB spnC spnN spnP spnD spnE spnF spnG spnH spnI spnJ spnK spnS spnT
attribute [local go_sem high] bin_slt bin_sle bin_sge bin_seq bin_sne

def oth (s : ByteArray) : ByteArray := if seq s { data := #[63] } = true then { data := #[33] } else { data := #[63] }
theorem other_any (s : ByteArray) (w : World) : Calls Try.prog 26 #[.string s] w fun e w' => e = .returned (.string (oth s)) ∧ w = w' := by
  unfold oth
  cases h : seq s { data := #[63] }
  all_goals
    go_enter Try.func26, Try.ntmps26
    go_wp2
    go_ret
    exact ⟨rfl, rfl⟩
/-- cells of a kind -/
def IsS (v : Value) : Prop := ∃ s, v = .string s
def IsI (v : Value) : Prop := ∃ n, v = .int .i64 n
def IsV (v : Value) : Prop := ∃ A n c, v = .slice A n c
/-- a row of the law's own, of such a kind -/
def Kr (P : Value → Prop) (base : Nat) (W : World) (A : Option Addr) (n : Nat) : Prop := n ≤ 140737488351232 ∧ (n = 0 ∨ ∃ g, A = some ⟨g, 0, none⟩ ∧ base ≤ g ∧ ∀ j, j < n → (∃ v, P v ∧ W.cell? ⟨g, j, none⟩ = some v) ∧ W.frozen? ⟨g, j, none⟩ = false)
theorem kr_own {α : Type} [Inhabited α] {f : α → Value} {P : Value → Prop} (hP : ∀ x, P (f x)) {w : World} {base n c : Nat} {t : TypeId} {A : Option Addr} {l : List α} (h : w.ownsRow base t 1 (.slice A n c) n (l.map f)) (hn : n ≤ 140737488351232) : Kr P base w A n := by
  have hl : l.length = n := by have := h.1; simp at this; omega
  refine ⟨hn, ?_⟩
  have hr := own_rl h
  rcases h.2 with ⟨e, rfl⟩ | ⟨g, cap, cur, e, hb, hg, _⟩
  · exact .inl rfl
  · cases e
    by_cases h0 : n = 0
    · exact .inl h0
    · obtain ⟨b, off, e1, _, hc⟩ := hr.at (show 0 < n by omega)
      cases e1
      refine .inr ⟨g, rfl, hb, fun j hj => ⟨⟨f (nt l j), hP _, ?_⟩, h.frozenAt j⟩⟩
      have := hc j hj
      rwa [Nat.zero_add] at this
theorem Kr.below {P : Value → Prop} {base n : Nat} {A : Option Addr} {W W' : World} (h : Kr P base W A n) (hB : Below W.heap.size W W') : Kr P base W' A n := by
  refine ⟨h.1, h.2.imp id ?_⟩
  rintro ⟨g, e, hb, hc⟩
  refine ⟨g, e, hb, fun j hj => ?_⟩
  obtain ⟨⟨v, hv, hcv⟩, hf⟩ := hc j hj
  exact ⟨⟨v, hv, keep_cell hB hcv⟩, keep_frozen hB hcv hf⟩
theorem Kr.more {P : Value → Prop} {base base' n : Nat} {A : Option Addr} {W : World} (h : Kr P base W A n) (hb : base' ≤ base) : Kr P base' W A n :=
  ⟨h.1, h.2.imp id fun ⟨g, e, h1, h2⟩ => ⟨g, e, by omega, h2⟩⟩
/-- A store over a cell of one kind by one of this kind leaves rows of this kind, and of others. -/
theorem Kr.set {P Q : Value → Prop} {base n g o : Nat} {A : Option Addr} {W : World} {u u' : Value} (h : Kr P base W A n) (hu : W.cell? ⟨g, o, none⟩ = some u) (hQ : Q u) (hQ' : Q u') (hPQ : (∀ v, Q v → P v) ∨ (∀ v, Q v → ¬ P v)) : Kr P base (W.setCell ⟨g, o, none⟩ u') A n := by
  refine ⟨h.1, h.2.imp id ?_⟩
  rintro ⟨g', e, hb, hc⟩
  refine ⟨g', e, hb, fun j hj => ?_⟩
  obtain ⟨⟨v, hv, hcv⟩, hf⟩ := hc j hj
  refine ⟨?_, by rw [World.frozen?_setCell]; exact hf⟩
  by_cases he : (⟨g, o, none⟩ : Addr) = ⟨g', j, none⟩
  · injection he with e1 e2
    subst e1 e2
    rw [hu] at hcv
    cases hcv
    rcases hPQ with h1 | h1
    · exact ⟨u', h1 _ hQ', World.cell?_setCell_same' _ _ _ (by rw [hu]; rfl)⟩
    · exact absurd hv (h1 _ hQ)
  · exact ⟨v, hv, by rw [World.cell?_setCell_other _ _ _ _ he]; exact hcv⟩
theorem vs_ne {v : Value} (h : IsS v) : ¬ IsI v := by rintro ⟨n, rfl⟩; obtain ⟨s, e⟩ := h; cases e
theorem vi_ne {v : Value} (h : IsI v) : ¬ IsS v := by rintro ⟨n, rfl⟩; obtain ⟨s, e⟩ := h; cases e
theorem cell_apart {W : World} {g o : Nat} {u u' : Value} (hu : W.cell? ⟨g, o, none⟩ = some u) (hQ : IsS u ∨ IsI u) {b p : Nat} {A : Option Addr} {n c : Nat} (h : W.cell? ⟨b, p, none⟩ = some (.slice A n c)) : (W.setCell ⟨g, o, none⟩ u').cell? ⟨b, p, none⟩ = some (.slice A n c) := by
  rw [World.cell?_setCell_other _ _ _ _ (fun e => by
    rw [← e, hu] at h
    cases h
    rcases hQ with ⟨s, e⟩ | ⟨s, e⟩ <;> cases e)]
  exact h
end Go.Proofs.Ytpijljbkdfjhcaa.spnX
