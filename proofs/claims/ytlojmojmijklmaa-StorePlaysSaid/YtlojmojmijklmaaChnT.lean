/- Plain facts of chains: what is seen, trimmed and joined. -/
import Derived.Test.YtlojmojmijklmaaChnM
set_option linter.unusedVariables false
namespace Go.Proofs.Ytlojmojmijklmaa.chnT
open opV chnM

theorem lt_marks {x y z : Ver} (e : mk3 x = mk3 y) : lt z x = lt z y := by unfold lt; rw [e]
theorem marks_of {x y : Ver} (h1 : lt x y = false) (h2 : lt y x = false) : mk3 x = mk3 y := by
  rw [mk_iff]; rw [lt_no] at *; omega
/-- what is seen of a chain, by what it is -/
theorem at_is {l : List Ver} {s : Int} {x : Ver} (hc : Chain l) (hx : x ∈ l) (hs : x.ts ≤ s) (hm : ∀ y ∈ l, y.ts ≤ s → lt x y = false) : atB l s = true ∧ atV l s = x := by
  have hb := at_some hx hs
  obtain ⟨h1, h2, h3⟩ := at_yes hb
  exact ⟨hb, chain_eq hc h1 hx (marks_of (h3 x hx hs) (hm _ h1 h2))⟩
theorem at_none {l : List Ver} {s : Int} (h : ∀ x ∈ l, ¬ x.ts ≤ s) : atB l s = false ∧ atV l s = default := by
  cases hb : atB l s with
  | true => obtain ⟨h1, h2, h3⟩ := at_yes hb; exact absurd h2 (h _ h1)
  | false => exact ⟨rfl, (at_no hb).2⟩
theorem trm_chain {l : List Ver} (s : Int) (h : Chain l) : Chain (trm l s) := List.Pairwise.filter _ h
theorem mem_trm {l : List Ver} {s : Int} {x : Ver} : x ∈ trm l s ↔ x ∈ l ∧ keep l s x = true := by unfold trm; rw [List.mem_filter]
theorem trm_all {l : List Ver} {s : Int} (h : atB l s = false) : trm l s = l := by
  unfold trm
  rw [List.filter_eq_self]
  intro x _
  unfold keep; rw [h]; rfl
theorem trm_trm (l : List Ver) (s : Int) : trm (trm l s) s = trm l s := by
  cases hb : atB l s with
  | false => rw [trm_all hb, trm_all hb]
  | true =>
    obtain ⟨h1, h2, h3⟩ := at_yes hb
    have hV : atV l s ∈ trm l s := mem_trm.2 ⟨h1, by unfold keep; rw [hb, lt_self]; rfl⟩
    have hb2 := at_some hV h2
    obtain ⟨g1, g2, g3⟩ := at_yes hb2
    have e : mk3 (atV (trm l s) s) = mk3 (atV l s) := by
      refine marks_of (g3 _ hV h2) (h3 _ (mem_trm.1 g1).1 g2)
    show (trm l s).filter _ = trm l s
    rw [List.filter_eq_self]
    intro x hx
    have hk := (mem_trm.1 hx).2
    unfold keep at hk ⊢
    rw [hb2, lt_marks e]
    rw [hb] at hk
    exact hk
theorem trm_at {l : List Ver} {f s : Int} (hc : Chain l) (hfs : f ≤ s) : atB (trm l f) s = atB l s ∧ atV (trm l f) s = atV l s := by
  cases hf : atB l f with
  | false => rw [trm_all hf]; exact ⟨rfl, rfl⟩
  | true =>
    obtain ⟨h1, h2, h3⟩ := at_yes hf
    have hb : atB l s = true := at_some h1 (by omega)
    obtain ⟨g1, g2, g3⟩ := at_yes hb
    have hm : atV l s ∈ trm l f := mem_trm.2 ⟨g1, by unfold keep; rw [hf, g3 _ h1 (by omega)]; rfl⟩
    obtain ⟨k1, k2⟩ := at_is (trm_chain f hc) hm g2 (fun y hy hs => g3 y (mem_trm.1 hy).1 hs)
    rw [hb]
    exact ⟨k1, k2⟩
theorem put_at {l : List Ver} {v : Ver} {s : Int} (hc : Chain l) (he : putE l v = 0) (hv : ¬ v.ts ≤ s) : atB (put l v) s = atB l s ∧ atV (put l v) s = atV l s := by
  cases hb : atB l s with
  | false =>
    have h := (at_no hb)
    obtain ⟨k1, k2⟩ := at_none (l := put l v) (s := s) (fun x hx => by
      rcases mem_put.1 hx with rfl | hx
      · exact hv
      · exact h.1 x hx)
    rw [k1, k2, h.2]
    exact ⟨rfl, rfl⟩
  | true =>
    obtain ⟨g1, g2, g3⟩ := at_yes hb
    obtain ⟨k1, k2⟩ := at_is (put_chain hc he) (mem_put.2 (.inr g1)) g2 (fun y hy hs => by
      rcases mem_put.1 hy with rfl | hy
      · exact absurd hs hv
      · exact g3 y hy hs)
    exact ⟨k1, k2⟩
/-! ### Two parts of a chain -/
structure Sub (L : List Ver) (j : Nat) (a : List Ver) : Prop where
  ch : Chain a
  mem : ∀ x ∈ a, ∃ i, i < j ∧ nt L i = x
  le : a.length ≤ j
theorem Sub.nil_ (L : List Ver) : Sub L 0 [] := ⟨List.Pairwise.nil, fun x hx => by simp at hx, by simp⟩
theorem Sub.stay {L a : List Ver} {j : Nat} (h : Sub L j a) : Sub L (j + 1) a := ⟨h.ch, fun x hx => by obtain ⟨i, hi, e⟩ := h.mem x hx; exact ⟨i, by omega, e⟩, by have := h.le; omega⟩
theorem Sub.more {L a : List Ver} {j : Nat} (hc : Chain L) (h : Sub L j a) (hj : j < L.length) : Sub L (j + 1) (a ++ [nt L j]) := by
  refine ⟨?_, fun x hx => ?_, by simp; exact h.le⟩
  · unfold Chain
    rw [List.pairwise_append]
    refine ⟨h.ch, List.pairwise_singleton _ _, fun x hx y hy => ?_⟩
    rw [List.mem_singleton] at hy
    subst hy
    obtain ⟨i, hi, rfl⟩ := h.mem x hx
    exact chain_lt hc hi hj
  · rcases List.mem_append.1 hx with hx | hx
    · obtain ⟨i, hi, e⟩ := h.mem x hx; exact ⟨i, by omega, e⟩
    · rw [List.mem_singleton] at hx; exact ⟨j, by omega, hx.symm⟩
theorem Sub.in_ {L a : List Ver} {j : Nat} (h : Sub L j a) (hj : j ≤ L.length) {x : Ver} (hx : x ∈ a) : x ∈ L := by
  obtain ⟨i, hi, rfl⟩ := h.mem x hx; exact nt_mem (by omega)
def Cov (L : List Ver) (j : Nat) (a b : List Ver) : Prop := ∀ i, i < j → nt L i ∈ a ∨ nt L i ∈ b
theorem joi_all {L a b : List Ver} (hL : Chain L) (ha : Chain a) (hal : ∀ x ∈ a, x ∈ L) (hbl : ∀ x ∈ b, x ∈ L) : ∀ j, j ≤ b.length → ∃ r, joi a b j = some r ∧ Chain r ∧ ∀ x, x ∈ r ↔ x ∈ a ∨ x ∈ b.take j
  | 0, _ => ⟨a, rfl, ha, fun x => by simp⟩
  | j + 1, hj => by
    obtain ⟨r, h1, h2, h3⟩ := joi_all hL ha hal hbl j (by omega)
    have hlt : j < b.length := by omega
    have hy := nt_mem hlt
    have hrl : ∀ x ∈ r, x ∈ L := fun x hx => by
      rcases (h3 x).1 hx with h | h
      · exact hal x h
      · exact hbl x (List.mem_of_mem_take h)
    have hstep : joi a b (j + 1) = (if putE r (nt b j) = 3 then none else if putE r (nt b j) = 0 then some (put r (nt b j)) else some r) := by
      show (match joi a b j with | none => none | some r => _) = _
      rw [h1]
    rcases putE_cases r (nt b j) with he | he | he
    · refine ⟨put r (nt b j), by rw [hstep, if_neg (by omega), if_pos he], put_chain h2 he, fun x => ?_⟩
      rw [mem_put, h3, take_nt hlt, List.mem_append, List.mem_singleton]
      constructor
      · rintro (h | h | h)
        · exact .inr (.inr h)
        · exact .inl h
        · exact .inr (.inl h)
      · rintro (h | h | h)
        · exact .inr (.inl h)
        · exact .inr (.inr h)
        · exact .inl h
    · obtain ⟨x, hx, e1, e2⟩ := putE_three he
      exact absurd (chain_eq hL (hrl x hx) (hbl _ hy) e1) e2
    · refine ⟨r, by rw [hstep, if_neg (by omega), if_neg (by omega)], h2, fun x => ?_⟩
      have hm := putE_eight he
      rw [h3, take_nt hlt, List.mem_append, List.mem_singleton]
      constructor
      · rintro (h | h)
        · exact .inl h
        · exact .inr (.inl h)
      · rintro (h | h | h)
        · exact .inl h
        · exact .inr h
        · rw [h]; exact (h3 _).1 hm
theorem joi_is {L a b : List Ver} (hL : Chain L) (ha : Chain a) (hal : ∀ x ∈ a, x ∈ L) (hbl : ∀ x ∈ b, x ∈ L) (hc : ∀ x ∈ L, x ∈ a ∨ x ∈ b) : joiE a b = 0 ∧ joiL a b = L := by
  obtain ⟨r, h1, h2, h3⟩ := joi_all hL ha hal hbl b.length (Nat.le_refl _)
  have e : r = L := chain_same h2 hL fun x => by
    rw [h3, List.take_length]
    exact ⟨fun h => h.elim (hal x) (hbl x), hc x⟩
  unfold joiE joiL
  rw [h1, e]
  exact ⟨rfl, rfl⟩
end Go.Proofs.Ytlojmojmijklmaa.chnT
