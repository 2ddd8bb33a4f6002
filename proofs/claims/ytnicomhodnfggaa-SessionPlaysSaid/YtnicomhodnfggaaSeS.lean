/- The steps of a script, plainly; what rises. -/
import Derived.Test.YtnicomhodnfggaaSeM
import Derived.Test.YtnicomhodnfggaaOpO
set_option linter.unusedVariables false
namespace Go.Proofs.Ytnicomhodnfggaa.seS
open Go opV opO chnM seM

def stE (S : Ss) (o : Oq) : Int := if o.kind = 0 then beE S else if o.kind = 1 then wrE S o.key o.val o.gone else if o.kind = 2 then coE S o.ts else if o.kind = 3 then clE S else 0
def stS (S : Ss) (o : Oq) : Ss := if o.kind = 0 then beS S o.t else if o.kind = 1 then wrS S o.key o.val o.gone else if o.kind = 2 then coS S o.ts o.dc o.tx else if o.kind = 3 then clS S else S
section
variable {S : Ss} {o : Oq}
theorem st0 (h : o.kind = 0) : stS S o = beS S o.t ∧ stE S o = beE S := ⟨if_pos h, if_pos h⟩
theorem st1 (h : o.kind = 1) : stS S o = wrS S o.key o.val o.gone ∧ stE S o = wrE S o.key o.val o.gone := by
  unfold stS stE
  rw [if_neg (by omega), if_pos h, if_neg (by omega), if_pos h]
  exact ⟨rfl, rfl⟩
theorem st2 (h : o.kind = 2) : stS S o = coS S o.ts o.dc o.tx ∧ stE S o = coE S o.ts := by
  unfold stS stE
  rw [if_neg (by omega), if_neg (by omega), if_pos h, if_neg (by omega), if_neg (by omega), if_pos h]
  exact ⟨rfl, rfl⟩
theorem st3 (h : o.kind = 3) : stS S o = clS S ∧ stE S o = clE S := by
  unfold stS stE
  rw [if_neg (by omega), if_neg (by omega), if_neg (by omega), if_pos h, if_neg (by omega), if_neg (by omega), if_neg (by omega), if_pos h]
  exact ⟨rfl, rfl⟩
theorem st4 (h0 : o.kind ≠ 0) (h1 : o.kind ≠ 1) (h2 : o.kind ≠ 2) (h3 : o.kind ≠ 3) : stS S o = S ∧ stE S o = 0 := by
  unfold stS stE
  rw [if_neg h0, if_neg h1, if_neg h2, if_neg h3, if_neg h0, if_neg h1, if_neg h2, if_neg h3]
  exact ⟨rfl, rfl⟩
theorem five_ways (k : Int) : k = 0 ∨ k = 1 ∨ k = 2 ∨ k = 3 ∨ (k ≠ 0 ∧ k ≠ 1 ∧ k ≠ 2 ∧ k ≠ 3) := by omega
theorem ok_st (h : S.ok) : (stS S o).ok := by
  rcases five_ways o.kind with e | e | e | e | ⟨e0, e1, e2, e3⟩
  · rw [(st0 e).1]; exact ok_be h
  · rw [(st1 e).1]; exact ok_wr h
  · rw [(st2 e).1]; exact ok_co h
  · rw [(st3 e).1]; exact ok_cl h
  · rw [(st4 e0 e1 e2 e3).1]; exact h
theorem cnt_st (h : S.ok) : (stS S o).cnt ≤ S.cnt + 8 := by
  rcases five_ways o.kind with e | e | e | e | ⟨e0, e1, e2, e3⟩
  · rw [(st0 e).1, cnt_be]; omega
  · rw [(st1 e).1, cnt_wr]; omega
  · rw [(st2 e).1]; exact cnt_co h
  · rw [(st3 e).1]; show S.cnt ≤ _; omega
  · rw [(st4 e0 e1 e2 e3).1]; omega
theorem co_zero {ts : Int} (h : coE S ts = 0) : S.op = true ∧ low S < ts := by
  unfold coE at h
  split at h
  · omega
  · rename_i h2
    split at h
    · omega
    · exact ⟨by simpa using h2, by omega⟩
/-- what rises -/
theorem snap_st : S.snap ≤ (stS S o).snap := by
  rcases five_ways o.kind with e | e | e | e | ⟨e0, e1, e2, e3⟩
  · rw [(st0 e).1]; unfold beS; split; exact Int.le_refl _; simp only; omega
  · rw [(st1 e).1]; unfold wrS; split <;> exact Int.le_refl _
  · rw [(st2 e).1]; unfold coS; split <;> exact Int.le_refl _
  · rw [(st3 e).1]; exact Int.le_refl _
  · rw [(st4 e0 e1 e2 e3).1]; exact Int.le_refl _
theorem low_st : low S ≤ low (stS S o) := by
  rcases five_ways o.kind with e | e | e | e | ⟨e0, e1, e2, e3⟩
  · rw [(st0 e).1]; unfold beS low; split; exact Int.le_refl _; simp only; omega
  · rw [(st1 e).1]; unfold wrS low; split <;> exact Int.le_refl _
  · rw [(st2 e).1]
    unfold coS
    split
    · rename_i hz
      have := (co_zero hz).2
      unfold low at *
      simp only
      omega
    · exact Int.le_refl _
  · rw [(st3 e).1]; exact Int.le_refl _
  · rw [(st4 e0 e1 e2 e3).1]; exact Int.le_refl _
theorem snap_low (S : Ss) : S.snap ≤ low S := by unfold low; omega
theorem co_st (h : o.kind = 2) (hz : stE S o = 0) : low S < o.ts ∧ low (stS S o) = o.ts ∧ (stS S o).op = false := by
  rw [(st2 h).2] at hz
  obtain ⟨h1, h2⟩ := co_zero hz
  rw [(st2 h).1]
  unfold coS
  rw [if_pos hz]
  refine ⟨h2, ?_, rfl⟩
  unfold low at *
  simp only
  omega
end
/-- behind j calls -/
def rn (l : List Oq) : Nat → Ss
  | 0 => S0
  | j + 1 => stS (rn l j) (nt l j)
theorem rn_ok (l : List Oq) : ∀ j, (rn l j).ok
  | 0 => ok_S0
  | j + 1 => ok_st (rn_ok l j)
theorem rn_cnt (l : List Oq) : ∀ j, (rn l j).cnt ≤ 8 * j
  | 0 => Nat.le_refl _
  | j + 1 => by have h1 := rn_cnt l j; have h2 := cnt_st (o := nt l j) (rn_ok l j); unfold rn; omega
end Go.Proofs.Ytnicomhodnfggaa.seS
