/- The steps of a script, plainly. -/
import Derived.Test.YtbfepdibblialaaInK
set_option linter.unusedVariables false
set_option linter.unusedSimpArgs false
namespace Go.Proofs.Ytbfepdibblialaa.inS
open Go.ChangeShapes Go.WideShapes Go.ChangeAt Go.RowKit Go.Deep
open opG opV opR chnM gen chnA chnR chnE ordA ordB ordC inM inW inL inN inP inPt inG inD inA inK

def stepS (S : Bx) (o : Oq) : Bx := if o.kind = 0 then bxS S o.at0 (fw o.m).r else if o.kind = 1 then nextS S else if o.kind = 2 then doneS S o.at0 else if o.kind = 3 then heartS S o.t o.at0 else S
section
variable {S : Bx} {o : Oq}
theorem step0 (h : o.kind = 0) : stepS S o = bxS S o.at0 (fw o.m).r := if_pos h
theorem step1 (h : o.kind = 1) : stepS S o = nextS S := by unfold stepS; rw [if_neg (by omega), if_pos h]
theorem step2 (h : o.kind = 2) : stepS S o = doneS S o.at0 := by unfold stepS; rw [if_neg (by omega), if_neg (by omega), if_pos h]
theorem step3 (h : o.kind = 3) : stepS S o = heartS S o.t o.at0 := by unfold stepS; rw [if_neg (by omega), if_neg (by omega), if_neg (by omega), if_pos h]
theorem step4 (h0 : o.kind ≠ 0) (h1 : o.kind ≠ 1) (h2 : o.kind ≠ 2) (h3 : o.kind ≠ 3) : stepS S o = S := by unfold stepS; rw [if_neg h0, if_neg h1, if_neg h2, if_neg h3]
theorem five_ways (k : Int) : k = 0 ∨ k = 1 ∨ k = 2 ∨ k = 3 ∨ (k ≠ 0 ∧ k ≠ 1 ∧ k ≠ 2 ∧ k ≠ 3) := by omega
theorem hearts_put (S : Bx) (a : Int) (r : Rc) : (bxS S a r).hearts = S.hearts := by unfold bxS; split <;> rfl
theorem hearts_next (S : Bx) : (nextS S).hearts = S.hearts := by unfold nextS; split <;> rfl
theorem hearts_done (S : Bx) (a : Int) : (doneS S a).hearts = S.hearts := by unfold doneS; split <;> rfl
theorem came_next (S : Bx) : (nextS S).came = S.came ∧ (nextS S).first = S.first := by unfold nextS; split <;> exact ⟨rfl, rfl⟩
theorem came_done (S : Bx) (a : Int) : (doneS S a).came = S.came ∧ (doneS S a).first = S.first := by unfold doneS; split <;> exact ⟨rfl, rfl⟩
theorem ap_next (S : Bx) : (nextS S).ap = S.ap := by unfold nextS; split <;> rfl
theorem ok_step (h : S.ok) (ht : 0 ≤ o.t) : (stepS S o).ok := by
  rcases five_ways o.kind with e | e | e | e | ⟨e0, e1, e2, e3⟩
  · rw [step0 e]; exact ok_put h _ _
  · rw [step1 e]; exact ok_next h
  · rw [step2 e]; exact ok_done h _
  · rw [step3 e]; exact ok_heart h ht _
  · rw [step4 e0 e1 e2 e3]; exact h
structure Lm (S : Bx) (j : Nat) : Prop where
  f : S.first ≤ 1152921504606846976
  c : S.came.length ≤ j
  h : S.hearts.length ≤ j
theorem Lm.lim {j : Nat} (h : Lm S j) (hj : j ≤ 150) : S.lim := ⟨h.f, Nat.le_trans h.c hj, Nat.le_trans h.h hj⟩
theorem lm_step {j : Nat} (h : Lm S j) : Lm (stepS S o) (j + 1) := by
  obtain ⟨h1, h2, h3⟩ := h
  rcases five_ways o.kind with e | e | e | e | ⟨e0, e1, e2, e3⟩
  · rw [step0 e]; exact ⟨by rw [first_put]; exact h1, by have := len_put S o.at0 (fw o.m).r; omega, by rw [hearts_put]; omega⟩
  · rw [step1 e]; exact ⟨by rw [(came_next S).2]; exact h1, by rw [(came_next S).1]; omega, by rw [hearts_next]; omega⟩
  · rw [step2 e]; exact ⟨by rw [(came_done S _).2]; exact h1, by rw [(came_done S _).1]; omega, by rw [hearts_done]; omega⟩
  · rw [step3 e]; exact ⟨h1, by show S.came.length ≤ j + 1; omega, by show (S.hearts ++ [_]).length ≤ j + 1; simp; omega⟩
  · rw [step4 e0 e1 e2 e3]; exact ⟨h1, by omega, by omega⟩
theorem lm_B0 {a : Int} (h : a ≤ 1152921504606846976) : Lm (B0 a) 0 := ⟨by simp only [B0]; omega, by simp [B0], by simp [B0]⟩
theorem g_step : S.g ≤ (stepS S o).g := by
  rcases five_ways o.kind with e | e | e | e | ⟨e0, e1, e2, e3⟩
  · rw [step0 e]; unfold Bx.g; rw [hearts_put, ap_put]; exact Int.le_refl _
  · rw [step1 e]; unfold Bx.g; rw [hearts_next, ap_next]; exact Int.le_refl _
  · rw [step2 e]; unfold Bx.g; rw [hearts_done]; exact got_mono _ (by have := ap_done S o.at0; omega)
  · rw [step3 e]; unfold Bx.g heartS; rw [show (⟨S.first, S.came, S.handed, S.done, S.hearts ++ [(o.t, o.at0)]⟩ : Bx).ap = S.ap from rfl, got_app]; exact stp_ge _ _ _
  · rw [step4 e0 e1 e2 e3]; exact Int.le_refl _
/-- each heart was told by a call -/
def From (l : List Oq) (j : Nat) (S : Bx) : Prop := ∀ x ∈ S.hearts, ∃ k, k < j ∧ (nt l k).kind = 3 ∧ (nt l k).t = x.1 ∧ (nt l k).at0 = x.2
theorem from_step {l : List Oq} {j : Nat} (h : From l j S) : From l (j + 1) (stepS S (nt l j)) := by
  have hold : ∀ x ∈ S.hearts, ∃ k, k < j + 1 ∧ (nt l k).kind = 3 ∧ (nt l k).t = x.1 ∧ (nt l k).at0 = x.2 := fun x hx => by
    obtain ⟨k, h1, h2⟩ := h x hx
    exact ⟨k, by omega, h2⟩
  unfold From
  rcases five_ways (nt l j).kind with e | e | e | e | ⟨e0, e1, e2, e3⟩
  · rw [step0 e, hearts_put]; exact hold
  · rw [step1 e, hearts_next]; exact hold
  · rw [step2 e, hearts_done]; exact hold
  · rw [step3 e]
    intro x hx
    rcases List.mem_append.1 hx with hx | hx
    · exact hold x hx
    · rw [List.mem_singleton.1 hx]; exact ⟨j, by omega, e, rfl, rfl⟩
  · rw [step4 e0 e1 e2 e3]; exact hold
/-- what is got is what some call told -/
theorem says {l : List Oq} {j : Nat} (h : From l j S) : S.g = 0 ∨ ∃ k, k < j ∧ (nt l k).kind = 3 ∧ (nt l k).t = S.g ∧ (nt l k).at0 ≤ (S.ap : Int) := by
  obtain ⟨_, h2, _⟩ := got_is S.hearts S.ap
  rcases h2 with e | ⟨x, hx, h1, e⟩
  · exact .inl e
  · obtain ⟨k, k1, k2, k3, k4⟩ := h x hx
    exact .inr ⟨k, k1, k2, k3.trans e, by rw [k4]; exact h1⟩
theorem g_nonneg : 0 ≤ S.g := (got_is S.hearts S.ap).2.2
end
end Go.Proofs.Ytbfepdibblialaa.inS
