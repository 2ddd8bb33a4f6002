/- What calls do to a table's times, plainly: Local and Stable don't fall, Applied but for a join; Stable is not above what a member told. -/
import Derived.Test.YtmhflemmkoiffaaStbH
set_option linter.unusedVariables false
set_option linter.unusedSimpArgs false
namespace Go.Proofs.Ytmhflemmkoiffaa.stbM
open opB stVA stVB stVC stVD stVF stVH stVP stbA stbB stbH

theorem mx_l (a b : Int) : a ≤ mx a b := by unfold mx; split <;> omega
theorem mx_r (a b : Int) : b ≤ mx a b := by unfold mx; split <;> omega
theorem mx_le {a b c : Int} (h1 : a ≤ c) (h2 : b ≤ c) : mx a b ≤ c := by unfold mx; split <;> assumption
theorem mx_mono {a b c d : Int} (h1 : a ≤ c) (h2 : b ≤ d) : mx a b ≤ mx c d := mx_le (Int.le_trans h1 (mx_l c d)) (Int.le_trans h2 (mx_r c d))
/-! ### Local -/
theorem mnS_mono {l m : List Int} : ∀ k, (∀ i, i ≤ k → l.getD i 0 ≤ m.getD i 0) → mnS l k ≤ mnS m k
  | 0, h => h 0 (Nat.le_refl 0)
  | k + 1, h => by
    have h1 := mnS_mono k (fun i hi => h i (by omega))
    have h2 := h (k + 1) (Nat.le_refl _)
    show (if l.getD (k + 1) 0 < mnS l k then l.getD (k + 1) 0 else mnS l k) ≤ (if m.getD (k + 1) 0 < mnS m k then m.getD (k + 1) 0 else mnS m k)
    split <;> split <;> omega
theorem loc_putB (s : Tb) (n t : Int) : loc s ≤ loc (putB s n t) := by
  unfold loc
  have e : (putB s n t).bs.length = s.bs.length := List.length_set ..
  rw [e]
  refine mnS_mono _ fun i hi => ?_
  show s.bs.getD i 0 ≤ (s.bs.set n.toNat (mx (s.bs.getD n.toNat 0) t)).getD i 0
  by_cases hi' : n.toNat = i
  · subst hi'
    by_cases hl : n.toNat < s.bs.length
    · simp only [List.getD_eq_getElem?_getD, List.getElem?_set, if_true, hl]
      exact mx_l _ _
    · simp [List.getD_eq_getElem?_getD, List.getElem?_set, hl]
  · simp [List.getD_eq_getElem?_getD, List.getElem?_set, hi']
/-! ### Raised vectors -/
theorem rs_hb (v : V) (dc x : Int) (i : Nat) : hb (rsV v dc x) i = hb v i := by
  unfold rsV
  split
  · rw [hb_put]; rfl
  · rfl
theorem rs_tt {v : V} {dc x : Int} {i : Nat} (hi : i < 4) (hh : hb v i = true) : tt (rsV v dc x) i = if dc = (i : Int) then mx (tt v i) x else tt v i := by
  have e : tt (plain v) i = tt v i := by rw [tt_plain hi, hh]; rfl
  unfold rsV
  by_cases h : isM v dc = true
  · rw [if_pos h, tt_put _ hi]
    obtain ⟨j, rfl, hj, -⟩ := isM_at h
    rw [show ((j : Int)).toNat = j from rfl]
    by_cases hij : j = i
    · subst hij; rw [if_pos rfl, if_pos rfl, e]
    · rw [if_neg hij, if_neg (by omega), e]
  · rw [if_neg h, e]
    rw [if_neg]
    intro hd
    apply h
    unfold isM
    rw [if_pos (by omega), hd]
    exact hh
/-- the least of fewer and later times -/
theorem ls_sub {v u : V} (h : ∀ i, i < 4 → hb u i = true → hb v i = true ∧ tt v i ≤ tt u i) (hn : ∃ i, i < 4 ∧ hb u i = true) : (lsS v 4).1 ≤ (lsS u 4).1 := by
  obtain ⟨k, hk, hk'⟩ := hn
  rcases ls_spec u 4 with ⟨a, b, c⟩ | ⟨a, ⟨i, b1, b2, b3⟩, c⟩
  · rw [c k hk] at hk'; cases hk'
  · obtain ⟨h1, h2⟩ := h i b1 b2
    rcases ls_spec v 4 with ⟨a', b', c'⟩ | ⟨a', -, c'⟩
    · rw [c' i b1] at h1; cases h1
    · have := c' i b1 h1; omega
theorem ls_nil {v : V} (h : ∀ i, i < 4 → hb v i = false) : (lsS v 4).1 = 0 := by
  rcases ls_spec v 4 with ⟨a, b, c⟩ | ⟨a, ⟨i, b1, b2, b3⟩, c⟩
  · exact b
  · rw [h i b1] at b2; cases b2
theorem lsO_mono {v u : V} {dc x y : Int} (hxy : x ≤ y) (h : ∀ i, i < 4 → hb v i = hb u i ∧ (hb u i = true → tt v i ≤ tt u i)) : lsO v dc x ≤ lsO u dc y := by
  unfold lsO
  by_cases hn : ∃ i, i < 4 ∧ hb u i = true
  · obtain ⟨k, hk, hk'⟩ := hn
    refine ls_sub (fun i hi hu => ?_) ⟨k, hk, by rw [rs_hb]; exact hk'⟩
    rw [rs_hb] at hu ⊢
    obtain ⟨h1, h2⟩ := h i hi
    have h3 := h2 hu
    have hv : hb v i = true := by rw [h1]; exact hu
    refine ⟨hv, ?_⟩
    rw [rs_tt hi hv, rs_tt hi hu]
    split
    · exact mx_mono h3 hxy
    · exact h3
  · have hu : ∀ i, i < 4 → hb u i = false := fun i hi => by
      cases e : hb u i
      · rfl
      · exact absurd ⟨i, hi, e⟩ hn
    rw [ls_nil (v := rsV v dc x) (fun i hi => by rw [rs_hb, (h i hi).1]; exact hu i hi), ls_nil (v := rsV u dc y) (fun i hi => by rw [rs_hb]; exact hu i hi)]
    exact Int.le_refl _
theorem lsO_le {v : V} {dc x : Int} {i : Nat} (hi : i < 4) (hd : dc ≠ (i : Int)) (hh : hb v i = true) : lsO v dc x ≤ tt v i := by
  unfold lsO
  rcases ls_spec (rsV v dc x) 4 with ⟨a, b, c⟩ | ⟨a, -, c⟩
  · have := c i hi; rw [rs_hb, hh] at this; cases this
  · have := c i hi (by rw [rs_hb]; exact hh)
    rw [rs_tt hi hh, if_neg hd] at this
    exact this
/-! ### What rises -/
theorem rise_loc (s : Tb) (o : opB.Op) : loc s ≤ loc (doS s o) := by
  unfold doS
  split
  · unfold beatS
    split
    · exact Int.le_refl _
    · exact loc_putB s _ _
  split
  · unfold gotS; split <;> exact Int.le_refl _
  split
  · unfold toldS; split <;> exact Int.le_refl _
  split
  · unfold joinS; split <;> exact Int.le_refl _
  split
  · unfold leaveS; split <;> exact Int.le_refl _
  · exact Int.le_refl _
theorem rise_st (s : Tb) (o : opB.Op) : s.st ≤ (doS s o).st := by
  unfold doS
  split
  · unfold beatS
    split
    · exact Int.le_refl _
    · exact mx_l _ _
  split
  · unfold gotS
    split
    · exact Int.le_refl _
    · exact mx_l _ _
  split
  · unfold toldS
    split
    · exact Int.le_refl _
    · exact mx_l _ _
  split
  · unfold joinS; split <;> exact Int.le_refl _
  split
  · unfold leaveS
    split
    · exact mx_l _ _
    · exact Int.le_refl _
  · exact mx_l _ _
/-- nobody counts -/
def nob (v : V) : Prop := v.h0 = false ∧ v.h1 = false ∧ v.h2 = false ∧ v.h3 = false
theorem nob_or (v : V) : nob v ∨ ∃ i, i < 4 ∧ hb v i = true := by
  by_cases h : ∃ i, i < 4 ∧ hb v i = true
  · exact .inr h
  · have hf : ∀ i, i < 4 → hb v i = false := fun i hi => by
      cases e : hb v i
      · rfl
      · exact absurd ⟨i, hi, e⟩ h
    exact .inl ⟨hf 0 (by omega), hf 1 (by omega), hf 2 (by omega), hf 3 (by omega)⟩
theorem nob_hb {v : V} (h : nob v) (i : Nat) : hb v i = false := by
  obtain ⟨a, b, c, d⟩ := h
  unfold hb; split <;> assumption
theorem rise_ap (s : Tb) (o : opB.Op) (hk : o.k ≠ 3) : (nob (doS s o).g ∧ ¬ nob s.g) ∨ ap s ≤ ap (doS s o) := by
  unfold doS
  split
  · unfold beatS
    split
    · exact .inr (Int.le_refl _)
    · exact .inr (lsO_mono (loc_putB s _ _) (fun i hi => ⟨rfl, fun _ => Int.le_refl _⟩))
  split
  · unfold gotS
    split
    · exact .inr (Int.le_refl _)
    · refine .inr (lsO_mono (u := rsV s.g o.a o.t) (Int.le_refl (loc s)) (fun i hi => ⟨(rs_hb _ _ _ _).symm, fun hu => ?_⟩))
      rw [rs_hb] at hu
      rw [rs_tt hi hu]
      split
      · exact mx_l _ _
      · exact Int.le_refl _
  split
  · unfold toldS; split <;> exact .inr (Int.le_refl _)
  split
  · unfold leaveS
    split
    · rename_i h4 hE
      have hr : 0 ≤ o.a ∧ o.a < 4 ∧ hb s.g o.a.toNat = true := by
        unfold leaveE at hE
        split at hE
        · cases hE
        · split at hE
          · cases hE
          · rename_i h1 h2
            exact ⟨by omega, by omega, by simpa using h2⟩
      rcases nob_or (szV s.g o.e (putH s.g o.a.toNat false)) with hn | ⟨k, hk4, hk'⟩
      · refine .inl ⟨hn, fun h => ?_⟩
        rw [nob_hb h] at hr
        exact absurd hr.2.2 (by decide)
      · refine .inr ?_
        show lsO s.g s.dc (loc s) ≤ lsO (szV s.g o.e (putH s.g o.a.toNat false)) s.dc (loc s)
        unfold lsO
        refine ls_sub (fun i hi hu => ?_) ⟨k, hk4, by rw [rs_hb]; exact hk'⟩
        rw [rs_hb] at hu ⊢
        have hu' := hu
        rw [sz_hb, putH_hb _ hi] at hu'
        have hne : ¬ i = o.a.toNat := by intro e; rw [if_pos e] at hu'; cases hu'
        rw [if_neg hne] at hu'
        refine ⟨hu', ?_⟩
        rw [rs_tt hi hu', rs_tt hi hu, sz_tt hi, putH_hb _ hi, if_neg hne, hu']
        exact Int.le_refl _
    · exact .inr (Int.le_refl _)
  · exact .inr (Int.le_refl _)
/-! ### What is below -/
/-- who's word, and what was ahead -/
structure Wd where
  told : Int
  ahead : Int
  joined : Int
def w1S (s : Tb) (o : opB.Op) (who : Int) (d : Wd) : Wd :=
  if o.k = 3 ∧ doE s o = 0 then ⟨0, s.st, o.e⟩ else if o.k = 2 ∧ o.a = who ∧ d.joined ≤ o.e then ⟨mx d.told o.t, d.ahead, d.joined⟩ else if o.k < 0 ∨ 4 < o.k then ⟨d.told, mx d.ahead o.t, d.joined⟩ else d
def w2S (s' : Tb) (o : opB.Op) (who : Nat) (d : Wd) : Wd :=
  if hb s'.g who = true then d else ⟨if o.k = 3 then d.told else 0, mx d.ahead s'.st, d.joined⟩
def wdS (s : Tb) (o : opB.Op) (who : Nat) (d : Wd) : Wd := w2S (doS s o) o who (w1S s o who d)
structure Bl (who : Nat) (s : Tb) (d : Wd) : Prop where
  jo : d.joined = s.j
  yes : hb s.g who = true → tt s.u who ≤ d.told ∧ s.st ≤ mx d.told d.ahead
  no : hb s.g who = false → s.st ≤ d.ahead
theorem eq_hb {s : Tb} (h : s.eq) (i : Nat) : hb s.u i = hb s.g i := by
  unfold hb; split
  · exact h.h0
  · exact h.h1
  · exact h.h2
  · exact h.h3
theorem bl_new (who : Nat) (dc : Int) (n : Nat) (g : V) (hw : who < 4) : Bl who (newT dc n g) ⟨0, 0, 0⟩ :=
  ⟨rfl, fun _ => ⟨by rcases four hw with rfl | rfl | rfl | rfl <;> exact Int.le_refl _, by show (0 : Int) ≤ mx 0 0; exact mx_l _ _⟩, fun _ => Int.le_refl _⟩
theorem st_stl {s : Tb} {who : Nat} (hw : who < 4) (hd : s.dc ≠ (who : Int)) (hh : hb s.u who = true) {c : Int} (h1 : s.st ≤ c) (h2 : tt s.u who ≤ c) : (stl s).st ≤ c :=
  mx_le h1 (Int.le_trans (lsO_le hw hd hh) h2)
/-- the end of a step: who's membership is as it was, or not there -/
theorem bl_end {who : Nat} {s' : Tb} {o : opB.Op} {d : Wd} (hj : d.joined = s'.j) (hy : hb s'.g who = true → tt s'.u who ≤ d.told ∧ s'.st ≤ mx d.told d.ahead) : Bl who s' (w2S s' o who d) := by
  unfold w2S
  split
  · rename_i h
    exact ⟨hj, hy, fun h' => by rw [h] at h'; cases h'⟩
  · rename_i h
    exact ⟨hj, fun h' => absurd h' h, fun _ => mx_r _ _⟩
theorem w1_other {s : Tb} {o : opB.Op} {who : Int} {d : Wd} (h1 : ¬ (o.k = 3 ∧ doE s o = 0)) (h2 : ¬ (o.k = 2 ∧ o.a = who ∧ d.joined ≤ o.e)) (h3 : ¬ (o.k < 0 ∨ 4 < o.k)) : w1S s o who d = d := by
  unfold w1S; rw [if_neg h1, if_neg h2, if_neg h3]
theorem bl_step {who : Nat} {s : Tb} {d : Wd} (o : opB.Op) (hw : who < 4) (hd : s.dc ≠ (who : Int)) (hq : s.eq) (h : Bl who s d) : Bl who (doS s o) (wdS s o who d) := by
  have hu := eq_hb hq who
  unfold wdS
  by_cases h0 : o.k = 0
  · have e : doS s o = beatS s o.a o.t := by unfold doS; rw [if_pos h0]
    rw [e, w1_other (by omega) (by omega) (by omega)]
    unfold beatS
    split
    · exact bl_end h.jo h.yes
    · refine bl_end h.jo fun hh => ⟨(h.yes hh).1, ?_⟩
      exact st_stl (s := putB s o.a o.t) hw hd (hu.trans hh) (h.yes hh).2 (Int.le_trans (h.yes hh).1 (mx_l _ _))
  by_cases h1 : o.k = 1
  · have e : doS s o = gotS s o.a o.t := by unfold doS; rw [if_neg h0, if_pos h1]
    rw [e, w1_other (by omega) (by omega) (by omega)]
    unfold gotS
    split
    · exact bl_end h.jo h.yes
    · refine bl_end h.jo fun hh => ?_
      have hh' : hb s.g who = true := by rw [← rs_hb s.g o.a o.t]; exact hh
      exact ⟨(h.yes hh').1, st_stl (s := putG s o.a o.t) hw hd (hu.trans hh') (h.yes hh').2 (Int.le_trans (h.yes hh').1 (mx_l _ _))⟩
  by_cases h2 : o.k = 2
  · have e : doS s o = toldS s o.a o.e o.t := by unfold doS; rw [if_neg h0, if_neg h1, if_pos h2]
    rw [e]
    unfold toldS
    by_cases ha : o.a = s.dc ∨ o.e < s.j
    · rw [if_pos ha, w1_other (by omega) (by have := h.jo; omega) (by omega)]
      exact bl_end h.jo h.yes
    · rw [if_neg ha]
      have hju : d.joined ≤ o.e := by have := h.jo; omega
      by_cases hwho : o.a = who
      · have ew : w1S s o who d = ⟨mx d.told o.t, d.ahead, d.joined⟩ := by
          unfold w1S; rw [if_neg (by omega), if_pos ⟨h2, hwho, hju⟩]
        rw [ew]
        refine bl_end h.jo fun hh => ?_
        have hhu := hu.trans hh
        have et : tt (rsV s.u o.a o.t) who = mx (tt s.u who) o.t := by rw [rs_tt hw hhu, if_pos hwho]
        have hle : tt (rsV s.u o.a o.t) who ≤ mx d.told o.t := by rw [et]; exact mx_mono (h.yes hh).1 (Int.le_refl _)
        refine ⟨hle, st_stl (s := putU s o.a o.t) hw hd (by show hb (rsV s.u o.a o.t) who = true; rw [rs_hb]; exact hhu) ?_ (Int.le_trans hle (mx_l _ _))⟩
        exact Int.le_trans (h.yes hh).2 (mx_mono (mx_l _ _) (Int.le_refl _))
      · rw [w1_other (by omega) (by omega) (by omega)]
        refine bl_end h.jo fun hh => ?_
        have hhu := hu.trans hh
        have et : tt (rsV s.u o.a o.t) who = tt s.u who := by rw [rs_tt hw hhu, if_neg hwho]
        have hle : tt (rsV s.u o.a o.t) who ≤ d.told := by rw [et]; exact (h.yes hh).1
        exact ⟨hle, st_stl (s := putU s o.a o.t) hw hd (by show hb (rsV s.u o.a o.t) who = true; rw [rs_hb]; exact hhu) (h.yes hh).2 (Int.le_trans hle (mx_l _ _))⟩
  by_cases h3 : o.k = 3
  · have e : doS s o = joinS s o.a o.e := by unfold doS; rw [if_neg h0, if_neg h1, if_neg h2, if_pos h3]
    have e2 : doE s o = joinE s o.a o.e := by unfold doE; rw [if_pos h3]
    rw [e]
    unfold joinS
    by_cases hE : joinE s o.a o.e = 0
    · rw [if_pos hE]
      have ew : w1S s o who d = ⟨0, s.st, o.e⟩ := by unfold w1S; rw [if_pos ⟨h3, by rw [e2]; exact hE⟩]
      rw [ew]
      refine bl_end rfl fun hh => ⟨?_, mx_r _ _⟩
      show tt (newV o.e _) who ≤ 0
      rcases four hw with rfl | rfl | rfl | rfl <;> exact Int.le_refl _
    · rw [if_neg hE, w1_other (by rw [e2]; exact fun x => hE x.2) (by omega) (by omega)]
      exact bl_end h.jo h.yes
  by_cases h4 : o.k = 4
  · have e : doS s o = leaveS s o.a o.e := by unfold doS; rw [if_neg h0, if_neg h1, if_neg h2, if_neg h3, if_pos h4]
    rw [e, w1_other (by omega) (by omega) (by omega)]
    unfold leaveS
    split
    · refine bl_end h.jo fun hh => ?_
      have hh2 : (if who = o.a.toNat then false else hb s.g who) = true := by
        rw [← putH_hb (v := s.g) (j := o.a.toNat) (i := who) false hw, ← sz_hb s.g o.e]; exact hh
      have hne : ¬ who = o.a.toNat := by intro e; rw [if_pos e] at hh2; cases hh2
      rw [if_neg hne] at hh2
      have et : tt (szV s.u o.e (putH s.g o.a.toNat false)) who = tt s.u who := by
        rw [sz_tt hw, putH_hb _ hw, if_neg hne, hh2, hu, hh2]; rfl
      have hle : tt (szV s.u o.e (putH s.g o.a.toNat false)) who ≤ d.told := by rw [et]; exact (h.yes hh2).1
      exact ⟨hle, st_stl (s := szT s o.a.toNat false o.e) hw hd (by show hb (szV s.u o.e (putH s.g o.a.toNat false)) who = true; rw [sz_hb, putH_hb _ hw, if_neg hne]; exact hh2) (h.yes hh2).2 (Int.le_trans hle (mx_l _ _))⟩
    · exact bl_end h.jo h.yes
  · have e : doS s o = liftS s o.t := by unfold doS; rw [if_neg h0, if_neg h1, if_neg h2, if_neg h3, if_neg h4]
    have ew : w1S s o who d = ⟨d.told, mx d.ahead o.t, d.joined⟩ := by unfold w1S; rw [if_neg (by omega), if_neg (by omega), if_pos (by omega)]
    rw [e, ew]
    refine bl_end h.jo fun hh => ⟨(h.yes hh).1, mx_le ?_ ?_⟩
    · exact Int.le_trans (h.yes hh).2 (mx_mono (Int.le_refl _) (mx_l _ _))
    · exact Int.le_trans (mx_r d.ahead o.t) (mx_r _ _)
/-- what the law asks -/
theorem bl_asks {who : Nat} {s : Tb} {d : Wd} (h : Bl who s d) : ¬ mx d.told d.ahead < s.st := by
  cases e : hb s.g who
  · have := h.no e; have := mx_r d.told d.ahead; omega
  · have := (h.yes e).2; omega
theorem dc_do (s : Tb) (o : opB.Op) : (doS s o).dc = s.dc := by
  unfold doS beatS gotS toldS joinS leaveS
  repeat' split
  all_goals rfl
end Go.Proofs.Ytmhflemmkoiffaa.stbM
