/- What merged, raised and resized vectors are to one another, plainly. -/
import Derived.Test.YtmhflemmkoiffaaStVH
set_option linter.unusedVariables false
set_option linter.unusedSimpArgs false
namespace Go.Proofs.Ytmhflemmkoiffaa.stVP
open stVA stVB stVC stVD stVF stVH

theorem tm_nonneg {h : Bool} {t : Int} (ht : 0 ≤ t) : 0 ≤ tm h t := by unfold tm; split <;> omega
/-! ### Least times -/
theorem ls_mono {v u : V} (h : ∀ i, i < 4 → hb v i = hb u i ∧ (hb v i = true → tt v i ≤ tt u i)) : (lsS v 4).2 = (lsS u 4).2 ∧ (lsS v 4).1 ≤ (lsS u 4).1 := by
  rcases ls_spec v 4 with ⟨a, b, c⟩ | ⟨a, ⟨i, b1, b2, b3⟩, c⟩
  · rcases ls_spec u 4 with ⟨a', b', c'⟩ | ⟨a', ⟨i', b1', b2', b3'⟩, c'⟩
    · exact ⟨by rw [a, a'], by omega⟩
    · rw [← (h i' b1').1, c i' b1'] at b2'; cases b2'
  · rcases ls_spec u 4 with ⟨a', b', c'⟩ | ⟨a', ⟨i', b1', b2', b3'⟩, c'⟩
    · rw [(h i b1).1, c' i b1] at b2; cases b2
    · have h2 : hb v i' = true := by rw [(h i' b1').1]; exact b2'
      have h3 := c i' b1' h2
      have h4 := (h i' b1').2 h2
      exact ⟨by rw [a, a'], by omega⟩
theorem hb_put (v : V) (j : Nat) (x : Int) (i : Nat) : hb (putT v j x) i = hb v i := by
  unfold hb; split <;> rfl
theorem tt_put {v : V} {j i : Nat} (x : Int) (hi : i < 4) : tt (putT v j x) i = if j = i then x else tt v i := by
  rcases four hi with rfl | rfl | rfl | rfl <;> rfl
theorem tt_plain {v : V} {i : Nat} (hi : i < 4) : tt (plain v) i = tm (hb v i) (tt v i) := by
  rcases four hi with rfl | rfl | rfl | rfl <;> rfl
theorem rs_mono (v : V) (dc t : Int) : (lsS v 4).2 = (lsS (rsV v dc t) 4).2 ∧ (lsS v 4).1 ≤ (lsS (rsV v dc t) 4).1 := by
  refine ls_mono fun i hi => ?_
  unfold rsV
  by_cases h : isM v dc = true
  · rw [if_pos h, hb_put, tt_put _ hi]
    refine ⟨rfl, fun hv => ?_⟩
    have e : tt v i = tt (plain v) i := by rw [tt_plain hi, hv]; rfl
    split
    · rename_i hj; rw [hj, e]; unfold mx; split <;> omega
    · omega
  · rw [if_neg h]
    refine ⟨rfl, fun hv => ?_⟩
    rw [tt_plain hi, hv]
    exact Int.le_refl _
theorem sz_hb (v : V) (e : Int) (g : V) (i : Nat) : hb (szV v e g) i = hb g i := by unfold hb; split <;> rfl
theorem sz_tt {v : V} {e : Int} {g : V} {i : Nat} (hi : i < 4) : tt (szV v e g) i = tm (hb g i) (tm (hb v i) (tt v i)) := by
  rcases four hi with rfl | rfl | rfl | rfl <;> rfl
theorem putH_hb {v : V} {j i : Nat} (x : Bool) (hi : i < 4) : hb (putH v j x) i = if i = j then x else hb v i := by
  rcases four hi with rfl | rfl | rfl | rfl <;> simp only [hb, putH] <;> (split <;> split <;> first | rfl | omega)
theorem sz_less {v : V} {e : Int} {j : Nat} (hj : j < 4) (h : (lsS (szV v e (putH v j false)) 4).2 = true) : (lsS v 4).1 ≤ (lsS (szV v e (putH v j false)) 4).1 := by
  rcases ls_spec (szV v e (putH v j false)) 4 with ⟨a, b, c⟩ | ⟨a, ⟨i, b1, b2, b3⟩, c⟩
  · rw [a] at h; cases h
  · rw [sz_hb, putH_hb _ b1] at b2
    have hv : hb v i = true := by
      split at b2
      · cases b2
      · exact b2
    have hij : ¬ i = j := by intro e; rw [if_pos e] at b2; cases b2
    rw [sz_tt b1, putH_hb _ b1, if_neg hij, hv] at b3
    simp only [tm, if_true] at b3
    rcases ls_spec v 4 with ⟨a', b', c'⟩ | ⟨a', -, c'⟩
    · rw [c' i b1] at hv; cases hv
    · have := c' i b1 hv; omega
theorem sz_none {v : V} {e : Int} {j : Nat} (hj : j < 4) : tt (szV v e (putH v j false)) j = 0 := by
  rw [sz_tt hj, putH_hb _ hj, if_pos rfl]; rfl
end Go.Proofs.Ytmhflemmkoiffaa.stVP
