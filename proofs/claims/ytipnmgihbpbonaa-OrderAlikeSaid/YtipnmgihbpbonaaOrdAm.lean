/- In whatever order commits are decided, the log is the same: plainly. -/
import Derived.Test.YtipnmgihbpbonaaOrdM
set_option linter.unusedVariables false
set_option linter.unusedSimpArgs false
namespace Go.Proofs.Ytipnmgihbpbonaa.ordAm
open opV chnM ordA ordM

/-- two of them changed places -/
def sws {α : Type} [Inhabited α] (m : List α) (i k : Nat) : List α := (m.set i (nt m k)).set k (nt m i)
theorem sws_perm {α : Type} [Inhabited α] {m : List α} {i k : Nat} (hi : i < m.length) (hk : k < m.length) : (sws m i k).Perm m := by
  have h := Array.swap_perm (xs := m.toArray) (i := i) (j := k) (by simpa using hi) (by simpa using hk)
  have h2 := h.toList
  rw [Array.toList_swap] at h2
  unfold sws
  rw [nt_at hi, nt_at hk]
  exact h2
theorem sws_len {α : Type} [Inhabited α] (m : List α) (i k : Nat) : (sws m i k).length = m.length := by unfold sws; simp
def Dis (l : List Rc) : Prop := l.Pairwise fun a b => a.1 ≠ b.1
theorem Dis.perm {l m : List Rc} (h : Dis l) (hp : l.Perm m) : Dis m := List.Pairwise.perm h hp (fun e => e.symm)
theorem Dis.snoc {l : List Rc} {r : Rc} (h : Dis l) (hn : ∀ x ∈ l, x.1 ≠ r.1) : Dis (l ++ [r]) :=
  List.pairwise_append.2 ⟨h, List.pairwise_singleton _ _, fun a ha b hb => by rw [List.mem_singleton.1 hb]; exact hn a ha⟩
/-- all of them decided, one by one -/
def decs (l : List Rc) : Lg := l.foldl dS L0
theorem decs_snoc (l : List Rc) (r : Rc) : decs (l ++ [r]) = dS (decs l) r := by unfold decs; rw [List.foldl_append]; rfl
structure DecI (l : List Rc) (L : Lg) : Prop where
  st : L.st = []
  bd : L.bd = 0
  ok : L.ok
  wt : L.wt.Perm (l.filter fun r => decide (0 < r.1.1))
theorem decs_take {l : List Rc} (h : Dis l) (i : Nat) (hi : i ≤ l.length) : DecI (l.take i) (decs (l.take i)) := by
  induction i with
  | zero => exact ⟨rfl, rfl, ok0, by simp [decs, L0]⟩
  | succ i ih =>
    have h0 := ih (by omega)
    rw [take_nt (by omega), decs_snoc]
    generalize hL : decs (l.take i) = L at *
    have hn : ∀ x ∈ l.take i, x.1 ≠ (nt l i).1 := fun x hx => by
      obtain ⟨k, hk, rfl⟩ := mem_nt hx
      have hk' : k < i := by simp at hk; omega
      have e : nt (l.take i) k = nt l k := by rw [nt_at hk, nt_at (by omega), List.getElem_take]
      rw [e, nt_at (by omega), nt_at (by omega)]
      exact List.pairwise_iff_getElem.1 h k i (by omega) (by omega) hk'
    have hok := ok_dS h0.ok (nt l i)
    obtain ⟨q1, q2, -⟩ := len_dS L (nt l i)
    refine ⟨by rw [q1, h0.st], by rw [q2, h0.bd], hok, ?_⟩
    rw [List.filter_append]
    unfold dS
    rw [h0.bd]
    by_cases ht : (nt l i).1.1 ≤ 0
    · rw [if_pos ht, List.filter_cons_of_neg (by simp; omega), List.filter_nil, List.append_nil]
      exact h0.wt
    · have hth : ¬ there L.wt (nt l i) = true := by
        unfold there; rw [decide_eq_true_eq]
        rintro ⟨x, hx, e⟩
        exact hn x ((List.mem_filter.1 (h0.wt.mem_iff.1 hx)).1) e
      rw [if_neg ht, if_neg hth, List.filter_cons_of_pos (by simp; omega), List.filter_nil]
      exact (ins_perm _ _ _).trans ((h0.wt.cons _).trans (List.perm_append_singleton _ _).symm)
theorem decs_spec {l : List Rc} (h : Dis l) : DecI l (decs l) := by have := decs_take h l.length (Nat.le_refl _); rwa [List.take_length] at this
theorem decs_eq {l m : List Rc} (h : Dis l) (hp : l.Perm m) : decs l = decs m := by
  have h1 := decs_spec h
  have h2 := decs_spec (h.perm hp)
  have hw : (decs l).wt = (decs m).wt := Up.eq h1.ok.upW h2.ok.upW (h1.wt.trans ((hp.filter _).trans h2.wt.symm))
  cases hl : decs l
  cases hm : decs m
  have a1 := h1.st
  have a2 := h2.st
  have b1 := h1.bd
  have b2 := h2.bd
  rw [hl] at a1 b1 hw
  rw [hm] at a2 b2 hw
  simp only at a1 a2 b1 b2 hw
  rw [a1, a2, b1, b2, hw]
theorem decs_len (l : List Rc) : (decs l).st.length + (decs l).wt.length ≤ l.length := by
  have key : ∀ (l : List Rc) (L : Lg), (l.foldl dS L).st.length + (l.foldl dS L).wt.length ≤ L.st.length + L.wt.length + l.length := by
    intro l
    induction l with
    | nil => intro L; simp
    | cons a r ih =>
      intro L
      have h1 := ih (dS L a)
      obtain ⟨q1, -, q3⟩ := len_dS L a
      rw [List.foldl_cons, List.length_cons]
      rw [q1] at h1
      omega
  have := key l L0
  simpa [decs, L0] using this
end Go.Proofs.Ytipnmgihbpbonaa.ordAm
