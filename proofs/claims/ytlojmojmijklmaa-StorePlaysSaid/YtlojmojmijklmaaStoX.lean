/- Plain facts of stores: what is refused stays refused; loaded twice is loaded once. -/
import Derived.Test.YtlojmojmijklmaaStoM
set_option linter.unusedVariables false
namespace Go.Proofs.Ytlojmojmijklmaa.stoX
open Go opV chnM chnT stoM

theorem lt_mk {x y z : Ver} (e : mk3 x = mk3 y) : lt x z = lt y z := by unfold lt; rw [e]
theorem lt_up {v a b : Ver} (h : lt v a = true) (hb : lt b a = false) : lt v b = true := by
  cases e : lt v b
  · have := le_trans hb e
    rw [h] at this; cases this
  · rfl
/-- refused for good -/
def Rf (s : St) (v : Ver) : Prop := chk v ≠ 0 ∨ (∃ x ∈ of s.ch v.key, mk3 x = mk3 v) ∨ (atB (of s.ch v.key) s.fl = true ∧ lt v (atV (of s.ch v.key) s.fl) = true)
theorem rf_no {s : St} {v : Ver} (h : Rf s v) : puE s v ≠ 0 := by
  intro he
  obtain ⟨h1, h2, h3⟩ := puE_zero he
  rcases h with h | ⟨x, hx, h⟩ | ⟨h4, h5⟩
  · exact h h1
  · exact (putE_zero.1 h2 x hx) h
  · rw [h4, h5] at h3; cases h3
theorem rf_of {s : St} {v : Ver} (h : puE s v ≠ 0) : Rf s v := by
  by_cases h1 : chk v = 0
  · by_cases h2 : putE (of s.ch v.key) v = 0
    · right; right
      unfold puE at h
      rw [if_neg (by omega), if_neg (by omega)] at h
      by_cases h3 : (atB (of s.ch v.key) s.fl && lt v (atV (of s.ch v.key) s.fl)) = true
      · simpa using h3
      · rw [if_neg h3] at h; exact absurd rfl h
    · right; left
      have h3 : ¬ ∀ x ∈ of s.ch v.key, mk3 x ≠ mk3 v := fun h3 => h2 (putE_zero.2 h3)
      have h4 := Classical.not_forall.1 h3
      obtain ⟨x, hx⟩ := h4
      obtain ⟨h5, h6⟩ := Classical.not_imp.1 hx
      exact ⟨x, h5, Classical.not_not.1 h6⟩
  · exact .inl h1
theorem puS_of {s : St} (h : Inv s) {u : Ver} (hu : puE s u = 0) (k : ByteArray) : of (puS s u).ch k = (if k = u.key then puC s u else of s.ch k) ∧ (puS s u).fl = s.fl := by
  unfold puS
  rw [if_pos hu]
  exact ⟨of_stC h.srt _ _ k, rfl⟩
/-- a mark of a chain that is trimmed: there, or below what is seen -/
theorem mark_trm {l : List Ver} (hc : Chain l) {f : Int} {x v : Ver} (hx : x ∈ l) (e : mk3 x = mk3 v) : (∃ y ∈ trm l f, mk3 y = mk3 v) ∨ (atB (trm l f) f = true ∧ lt v (atV (trm l f) f) = true) := by
  by_cases hk : keep l f x = true
  · exact .inl ⟨x, mem_trm.2 ⟨hx, hk⟩, e⟩
  · right
    obtain ⟨h1, h2⟩ := trm_at (f := f) (s := f) hc (Int.le_refl _)
    rw [h1, h2]
    unfold keep at hk
    simp only [Bool.or_eq_true, Bool.not_eq_true', not_or, Bool.not_eq_false] at hk
    exact ⟨hk.1, by rw [← lt_mk e]; exact hk.2⟩
theorem rf_put {s : St} (h : Inv s) {u v : Ver} (hr : Rf s v) : Rf (puS s u) v := by
  by_cases hu : puE s u = 0
  · obtain ⟨_, hu2, _⟩ := puE_zero hu
    obtain ⟨ho, hf⟩ := puS_of h hu v.key
    unfold Rf
    rw [ho, hf]
    by_cases hk : v.key = u.key
    · rw [if_pos hk]
      have hpc := put_chain (of_chain h u.key) hu2
      rcases hr with hr | ⟨x, hx, e⟩ | ⟨h1, h2⟩
      · exact .inl hr
      · rw [hk] at hx
        exact .inr (mark_trm hpc (mem_put.2 (.inr hx)) e)
      · rw [hk] at h1 h2
        right; right
        unfold puC
        obtain ⟨g1, g2⟩ := trm_at (f := s.fl) (s := s.fl) hpc (Int.le_refl _)
        rw [g1, g2]
        obtain ⟨k1, k2, k3⟩ := at_yes h1
        have hm := mem_put.2 (.inr k1 : atV (of s.ch u.key) s.fl = u ∨ atV (of s.ch u.key) s.fl ∈ of s.ch u.key)
        have hb := at_some hm k2
        exact ⟨hb, lt_up h2 ((at_yes hb).2.2 _ hm k2)⟩
    · rw [if_neg hk]; exact hr
  · unfold puS; rw [if_neg hu]; exact hr
theorem rf_self {s : St} (h : Inv s) (v : Ver) : Rf (puS s v) v := by
  by_cases hu : puE s v = 0
  · obtain ⟨_, hu2, _⟩ := puE_zero hu
    obtain ⟨ho, hf⟩ := puS_of h hu v.key
    unfold Rf
    rw [ho, hf, if_pos rfl]
    exact .inr (mark_trm (put_chain (of_chain h v.key) hu2) (mem_put.2 (.inl rfl)) rfl)
  · unfold puS; rw [if_neg hu]; exact rf_of hu
theorem rf_load {s : St} (h : Inv s) (l : List Ver) : ∀ j, ∀ i, i < j → Rf (loS s l j) (nt l i)
  | 0, i, hi => by omega
  | j + 1, i, hi => by
    have hj := (Inv.load h l j).1
    by_cases e : i = j
    · subst e; exact rf_self hj _
    · exact rf_put hj (rf_load h l j i (by omega))
theorem load_again {s : St} {l : List Ver} (h : ∀ i, i < l.length → Rf s (nt l i)) : ∀ j, j ≤ l.length → loS s l j = s ∧ loN s l j = 0
  | 0, _ => ⟨rfl, rfl⟩
  | j + 1, hj => by
    obtain ⟨h1, h2⟩ := load_again h j (by omega)
    have hn := rf_no (h j (by omega))
    constructor
    · show puS (loS s l j) (nt l j) = s
      rw [h1]; unfold puS; rw [if_neg hn]
    · show loN s l j + _ = 0
      rw [h1, h2, if_neg hn]
theorem load_twice {s : St} (h : Inv s) (l : List Ver) : loS (loS s l l.length) l l.length = loS s l l.length ∧ loN (loS s l l.length) l l.length = 0 :=
  load_again (rf_load h l l.length) l.length (Nat.le_refl _)
end Go.Proofs.Ytlojmojmijklmaa.stoX
