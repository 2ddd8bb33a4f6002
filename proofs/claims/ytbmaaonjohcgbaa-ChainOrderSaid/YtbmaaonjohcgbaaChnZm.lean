/- Plain facts: a chain's versions in another order, put one by one. -/
import Derived.Test.YtbmaaonjohcgbaaChnT
set_option linter.unusedVariables false
namespace Go.Proofs.Ytbmaaonjohcgbaa.chnZm
open opV chnM chnT

/-- the same versions in some order -/
structure Pm (L m : List Ver) : Prop where
  len : m.length = L.length
  mem : ∀ x, x ∈ m ↔ x ∈ L
  ne : ∀ i j, i < m.length → j < m.length → i ≠ j → mk3 (nt m i) ≠ mk3 (nt m j)
theorem Pm.self {L : List Ver} (h : Chain L) : Pm L L := ⟨rfl, fun _ => Iff.rfl, fun i j hi hj hne => by
  rcases Nat.lt_or_gt_of_ne hne with h1 | h1
  · exact lt_ne (chain_lt h h1 hj)
  · exact (lt_ne (chain_lt h h1 hi)).symm⟩
/-- two of them changed places -/
def sws (m : List Ver) (i k : Nat) : List Ver := (m.set i (nt m k)).set k (nt m i)
def sg (i k j : Nat) : Nat := if j = k then i else if j = i then k else j
theorem sws_len (m : List Ver) (i k : Nat) : (sws m i k).length = m.length := by unfold sws; simp
theorem nt_sws {m : List Ver} {i k j : Nat} (hi : i < m.length) (hk : k < m.length) (hj : j < m.length) : nt (sws m i k) j = nt m (sg i k j) := by
  have e : nt (sws m i k) j = (sws m i k)[j]'(by rw [sws_len]; exact hj) := nt_at _
  rw [e]
  unfold sws sg
  rw [List.getElem_set]
  by_cases h1 : j = k
  · subst h1; rw [if_pos rfl, if_pos rfl]
  · rw [if_neg (fun e => h1 e.symm), if_neg h1, List.getElem_set]
    by_cases h2 : j = i
    · subst h2; rw [if_pos rfl, if_pos rfl]
    · rw [if_neg (fun e => h2 e.symm), if_neg h2, nt_at hj]
theorem sg_sg (i k j : Nat) : sg i k (sg i k j) = j := by unfold sg; split <;> (try split) <;> (try split) <;> omega
theorem sg_lt {i k j n : Nat} (hi : i < n) (hk : k < n) (hj : j < n) : sg i k j < n := by unfold sg; split <;> (try split) <;> omega
theorem Pm.swap {L m : List Ver} (h : Pm L m) {i k : Nat} (hi : i < m.length) (hk : k < m.length) : Pm L (sws m i k) := by
  refine ⟨by rw [sws_len]; exact h.len, fun x => ?_, fun a b ha hb hne => ?_⟩
  · rw [← h.mem]
    constructor
    · intro hx
      obtain ⟨j, hj, rfl⟩ := mem_nt hx
      rw [sws_len] at hj
      rw [nt_sws hi hk hj]
      exact nt_mem (sg_lt hi hk hj)
    · intro hx
      obtain ⟨j, hj, rfl⟩ := mem_nt hx
      have := nt_mem (l := sws m i k) (n := sg i k j) (by rw [sws_len]; exact sg_lt hi hk hj)
      rw [nt_sws hi hk (sg_lt hi hk hj), sg_sg] at this
      exact this
  · rw [sws_len] at ha hb
    rw [nt_sws hi hk ha, nt_sws hi hk hb]
    refine h.ne _ _ (sg_lt hi hk ha) (sg_lt hi hk hb) (fun e => hne ?_)
    have := congrArg (sg i k) e
    rwa [sg_sg, sg_sg] at this
/-- what was put so far -/
structure Pr (m : List Ver) (j : Nat) (r : List Ver) : Prop where
  ch : Chain r
  mem : ∀ x, x ∈ r ↔ ∃ i, i < j ∧ nt m i = x
  le : r.length ≤ j
theorem Pr.nil_ (m : List Ver) : Pr m 0 [] := ⟨List.Pairwise.nil, fun x => by simp, by simp⟩
theorem Pr.zero {L m r : List Ver} {j : Nat} (hP : Pm L m) (h : Pr m j r) (hj : j < m.length) : putE r (nt m j) = 0 := by
  rw [putE_zero]
  intro x hx
  obtain ⟨i, hi, rfl⟩ := (h.mem x).1 hx
  exact hP.ne i j (by omega) hj (by omega)
theorem Pr.step {L m r : List Ver} {j : Nat} (hP : Pm L m) (h : Pr m j r) (hj : j < m.length) : Pr m (j + 1) (put r (nt m j)) := by
  refine ⟨put_chain h.ch (h.zero hP hj), fun x => ?_, by rw [put_len]; have := h.le; omega⟩
  rw [mem_put, h.mem]
  constructor
  · rintro (rfl | ⟨i, hi, e⟩)
    · exact ⟨j, by omega, rfl⟩
    · exact ⟨i, by omega, e⟩
  · rintro ⟨i, hi, e⟩
    by_cases h1 : i = j
    · subst h1; exact .inl e.symm
    · exact .inr ⟨i, by omega, e⟩
theorem Pr.end_ {L m r : List Ver} (hL : Chain L) (hP : Pm L m) (h : Pr m m.length r) : r = L := by
  refine chain_same h.ch hL fun x => ?_
  rw [← hP.mem, h.mem]
  constructor
  · rintro ⟨i, hi, rfl⟩; exact nt_mem hi
  · intro hx; exact mem_nt hx
end Go.Proofs.Ytbmaaonjohcgbaa.chnZm
