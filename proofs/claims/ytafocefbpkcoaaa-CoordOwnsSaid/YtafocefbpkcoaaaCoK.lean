/- Plain facts of votes and ends; what the calls keep. -/
import Derived.Test.YtafocefbpkcoaaaCoL
set_option linter.unusedVariables false
set_option linter.unusedSimpArgs false
namespace Go.Proofs.Ytafocefbpkcoaaa.coK
open opV chnM coO coM coL coG

section
variable {vt : List Vt} {rs : List SR} {n m t : Int} {x : En} {os : Ens} {tx low : Int} {sh : List Sh}
theorem top_0 (vt : List Vt) : 0 ≤ top vt := by
  have h : ∀ (l : List Vt) (a : Int), a ≤ l.foldl (fun a v => max a v.t) a := by
    intro l
    induction l with
    | nil => intro a; exact Int.le_refl _
    | cons v l ih => intro a; exact Int.le_trans (by omega) (ih (max a v.t))
  exact h vt 0
theorem top_le {B : Int} (h0 : 0 ≤ B) (h : ∀ v ∈ vt, v.t ≤ B) : top vt ≤ B := by
  have h2 : ∀ (l : List Vt) (a : Int), a ≤ B → (∀ v ∈ l, v.t ≤ B) → l.foldl (fun a v => max a v.t) a ≤ B := by
    intro l
    induction l with
    | nil => intro a h _; exact h
    | cons v l ih => intro a h k; exact ih _ (by have := k v (List.mem_cons_self ..); show max a v.t ≤ B; omega) fun u hu => k u (List.mem_cons_of_mem _ hu)
  exact h2 vt 0 h0 h
theorem top_mem_le {v : Vt} (h : v ∈ vt) : v.t ≤ top vt := by
  have h2 : ∀ (l : List Vt) (a : Int), a ≤ l.foldl (fun a v => max a v.t) a ∧ ∀ v ∈ l, v.t ≤ l.foldl (fun a v => max a v.t) a := by
    intro l
    induction l with
    | nil => intro a; exact ⟨Int.le_refl _, fun v hv => by cases hv⟩
    | cons u l ih =>
      intro a
      obtain ⟨h1, h2⟩ := ih (max a u.t)
      refine ⟨Int.le_trans (by omega) h1, fun v hv => ?_⟩
      rcases List.mem_cons.1 hv with rfl | hv
      · exact Int.le_trans (by omega) h1
      · exact h2 v hv
  exact (h2 vt 0).2 v h
theorem endV_none (h : hasV vt n = false) : endV vt n = false := by
  unfold hasV at h
  unfold endV
  cases hf : fnV vt n with
  | none => rfl
  | some v => rw [hf] at h; cases h
theorem endV_app (v : Vt) (hv : v.en = false) : endV (vt ++ [v]) n = endV vt n := by
  unfold endV
  rw [fnV_app]
  cases hf : fnV vt n with
  | some u => rfl
  | none => by_cases e : v.node = n <;> simp [e, hv]
theorem ends_app (v : Vt) (hv : v.en = false) : ends (vt ++ [v]) = ends vt := by
  unfold ends; rw [List.countP_append]; simp [hv]
/-- a node has voted -/
theorem sdl_vote (hd : (rs.map (·.node)).Nodup) {k : Nat} {r : SR} (hr : rs[k]? = some r) (h : hasV vt r.node = false) (t : Int) : sdl (vt ++ [⟨r.node, t, false⟩]) rs = (sdl vt rs).set k ⟨r, true, endV vt r.node⟩ := by
  refine List.ext_getElem? fun i => ?_
  unfold sdl
  rw [List.getElem?_set, List.getElem?_map, List.getElem?_map, List.length_map]
  have hk := (List.getElem?_eq_some_iff.1 hr).1
  by_cases e : k = i
  · subst e
    rw [if_pos rfl, if_pos hk, hr]
    simp only [Option.map_some, Option.some.injEq, Sd.mk.injEq, true_and]
    exact ⟨by rw [hasV_app]; simp, endV_app _ rfl⟩
  · rw [if_neg e]
    cases hi : rs[i]? with
    | none => rfl
    | some s =>
      have hne : s.node ≠ r.node := fun e2 => e (by
        have h1 : (rs.map (·.node))[k]? = some r.node := by rw [List.getElem?_map, hr]; rfl
        have h2 : (rs.map (·.node))[i]? = some r.node := by rw [List.getElem?_map, hi]; simp [e2]
        exact (List.getElem?_inj (by simpa using hk) hd).1 (h1.trans h2.symm))
      simp only [Option.map_some, Option.some.injEq, Sd.mk.injEq, true_and]
      exact ⟨by rw [hasV_app, decide_eq_false (show ¬ r.node = s.node from fun e2 => hne e2.symm), Bool.or_false], endV_app _ rfl⟩
/-! ### A node has ended -/
def mrk (vt : List Vt) (n : Int) : List Vt := vt.map fun v => if v.node = n then { v with en := true } else v
theorem enX_vt (x : En) (n : Int) : (enX x n).vt = mrk x.vt n := rfl
theorem mark_nodes : (mrk vt n).map (·.node) = vt.map (·.node) := by
  unfold mrk
  rw [List.map_map]
  refine List.map_congr_left fun v _ => ?_
  simp only [Function.comp]
  split <;> rfl
theorem mark_has : hasV (mrk vt n) m = hasV vt m := by rw [Bool.eq_iff_iff, hasV_iff, hasV_iff, mark_nodes]
theorem fnV_mark : fnV (mrk vt n) m = (fnV vt m).map fun v => if v.node = n then { v with en := true } else v := by
  unfold mrk
  induction vt with
  | nil => rfl
  | cons a l ih =>
    rw [List.map_cons]
    unfold fnV
    have e : (if a.node = n then { a with en := true } else a).node = a.node := by split <;> rfl
    rw [e]
    by_cases h : a.node = m
    · rw [if_pos h, if_pos h]; rfl
    · rw [if_neg h, if_neg h]; exact ih
theorem mark_end (h : hasV vt n = true) : endV (mrk vt n) m = (endV vt m || decide (m = n)) := by
  unfold endV
  rw [fnV_mark]
  cases hf : fnV vt m with
  | none =>
    have : m ≠ n := fun e => by subst e; unfold hasV at h; rw [hf] at h; cases h
    simp [this]
  | some v =>
    have hv := (fnV_mem hf).2
    by_cases e : m = n
    · subst e; simp [hv]
    · have hn : ¬ v.node = n := fun e2 => e (hv.symm.trans e2)
      rw [decide_eq_false e, Bool.or_false, Option.map_some, if_neg hn]
theorem mark_ends (hd : (vt.map (·.node)).Nodup) (h : hasV vt n = true) (he : endV vt n = false) : ends (mrk vt n) = ends vt + 1 := by
  unfold ends mrk
  induction vt with
  | nil => cases h
  | cons a l ih =>
    obtain ⟨h1, h2⟩ := List.nodup_cons.1 (show (a.node :: l.map (·.node)).Nodup from hd)
    rw [List.map_cons, List.countP_cons, List.countP_cons]
    by_cases e : a.node = n
    · have hl : l.map (fun v => if v.node = n then { v with en := true } else v) = l := by
        conv => rhs; rw [← List.map_id l]
        refine List.map_congr_left fun v hv => if_neg fun e2 => h1 ?_
        rw [e, ← e2]
        exact List.mem_map.2 ⟨v, hv, rfl⟩
      rw [hl, if_pos e]
      unfold endV fnV at he
      rw [if_pos e] at he
      have hae : a.en = false := by simpa using he
      simp [hae]
    · rw [if_neg e]
      have h' : hasV l n = true := by unfold hasV fnV at h; rw [if_neg e] at h; exact h
      have he' : endV l n = false := by unfold endV fnV at he; rw [if_neg e] at he; exact he
      have := ih h2 h' he'
      omega
theorem sdl_end (hd : (rs.map (·.node)).Nodup) {k : Nat} {r : SR} (hr : rs[k]? = some r) (h : hasV vt r.node = true) : sdl (mrk vt r.node) rs = (sdl vt rs).set k ⟨r, hasV vt r.node, true⟩ := by
  refine List.ext_getElem? fun i => ?_
  unfold sdl
  rw [List.getElem?_set, List.getElem?_map, List.getElem?_map, List.length_map]
  have hk := (List.getElem?_eq_some_iff.1 hr).1
  by_cases e : k = i
  · subst e
    rw [if_pos rfl, if_pos hk, hr]
    simp only [Option.map_some, Option.some.injEq, Sd.mk.injEq, true_and]
    exact ⟨mark_has, by rw [mark_end h]; simp⟩
  · rw [if_neg e]
    cases hi : rs[i]? with
    | none => rfl
    | some s =>
      have hne : s.node ≠ r.node := fun e2 => e (by
        have h1 : (rs.map (·.node))[k]? = some r.node := by rw [List.getElem?_map, hr]; rfl
        have h2 : (rs.map (·.node))[i]? = some r.node := by rw [List.getElem?_map, hi]; simp [e2]
        exact (List.getElem?_inj (by simpa using hk) hd).1 (h1.trans h2.symm))
      simp only [Option.map_some, Option.some.injEq, Sd.mk.injEq, true_and]
      exact ⟨mark_has, by rw [mark_end h]; simp [hne]⟩
theorem ends_all : ends vt = vt.length ↔ vt.all (·.en) = true := by unfold ends; rw [List.countP_eq_length, List.all_eq_true]
theorem ends_le (vt : List Vt) : ends vt ≤ vt.length := List.countP_le_length
theorem mark_len : (mrk vt n).length = vt.length := by simp [mrk]
/-! ### What the calls keep -/
theorem ok_mem (h : ok os) (hf : fnE os tx = some x) : okX x ∧ x.tx = tx := ⟨h.ea x (fnE_mem hf).1, (fnE_mem hf).2⟩
theorem okx_vote (h : okX x) (hi : inS x.sh n = true) (hv : hasV x.vt n = false) (ht : x.low < t) (h1 : t < 18446744073709551616) : okX (voX x n t) := by
  refine { h with vd := ?_, vi := fun v hv => ?_, vl := fun v hv => ?_, vm := fun v hv => ?_ }
  · show ((x.vt ++ [(⟨n, t, false⟩ : Vt)]).map (·.node)).Nodup
    rw [List.map_append, List.nodup_append]
    refine ⟨h.vd, by simp, fun a ha b hb e => ?_⟩
    simp at hb
    subst hb e
    rw [hasV_iff.2 ha] at hv; cases hv
  · rcases List.mem_append.1 (show v ∈ x.vt ++ [⟨n, t, false⟩] from hv) with hv | hv
    · exact h.vi v hv
    · rw [List.mem_singleton.1 hv]; exact hi
  · rcases List.mem_append.1 (show v ∈ x.vt ++ [⟨n, t, false⟩] from hv) with hv | hv
    · exact h.vl v hv
    · rw [List.mem_singleton.1 hv]; exact ht
  · rcases List.mem_append.1 (show v ∈ x.vt ++ [⟨n, t, false⟩] from hv) with hv | hv
    · exact h.vm v hv
    · rw [List.mem_singleton.1 hv]; exact h1
theorem mark_mem {v : Vt} (h : v ∈ mrk vt n) : ∃ u ∈ vt, v.node = u.node ∧ v.t = u.t := by
  obtain ⟨u, hu, rfl⟩ := List.mem_map.1 h
  refine ⟨u, hu, ?_⟩
  split <;> exact ⟨rfl, rfl⟩
theorem okx_end (h : okX x) (n : Int) : okX (enX x n) := by
  refine { h with vd := ?_, vi := fun v hv => ?_, vl := fun v hv => ?_, vm := fun v hv => ?_ }
  · rw [enX_vt, mark_nodes]; exact h.vd
  · obtain ⟨u, hu, e1, e2⟩ := mark_mem hv
    rw [e1]; exact h.vi u hu
  · obtain ⟨u, hu, e1, e2⟩ := mark_mem hv
    rw [e2]; exact h.vl u hu
  · obtain ⟨u, hu, e1, e2⟩ := mark_mem hv
    rw [e2]; exact h.vm u hu
theorem ok_put {x' : En} (h : ok os) (hf : fnE os tx = some x) (e : x'.tx = x.tx) (hx : okX x') : ok (upd os tx x') := by
  have hm := fnE_mem hf
  refine ⟨?_, fun y hy => ?_, fun y hy => ?_⟩
  · have : (upd os tx x').map (·.tx) = os.map (·.tx) := by
      unfold upd
      rw [List.map_map]
      refine List.map_congr_left fun y hy => ?_
      simp only [Function.comp]
      split
      · rename_i h1; rw [e, hm.2, h1]
      · rfl
    unfold DifE
    rw [this]
    exact h.df
  · obtain ⟨z, hz, rfl⟩ := List.mem_map.1 hy
    split
    · exact hx
    · exact h.ea z hz
  · obtain ⟨z, hz, rfl⟩ := List.mem_map.1 hy
    split
    · rw [e]; exact h.tx x hm.1
    · exact h.tx z hz
theorem ok_rm (h : ok os) (tx : Int) : ok (rmE os tx) := by
  refine ⟨?_, fun y hy => h.ea y (List.mem_filter.1 hy).1, fun y hy => h.tx y (List.mem_filter.1 hy).1⟩
  exact List.Nodup.sublist (List.Sublist.map _ List.filter_sublist) h.df
theorem ok_start (h : ok os) (x0 : 0 ≤ tx) (x1 : tx < 18446744073709551616) (l0 : 0 ≤ low) (hs : sh.length ≤ 6) (hv : ∀ s ∈ sh, s.vs.length ≤ 8) : ok (stS os tx low sh) := by
  unfold stS
  split
  · rename_i he
    unfold stE at he
    split at he
    · omega
    · rename_i h1
      split at he
      · omega
      · rename_i h2
        split at he
        · rename_i h3
          have hno : fnE os tx = none := by simpa using h2
          have hx : okX ⟨tx, low, sh, []⟩ := { nd := h3, ne := h1, vd := List.nodup_nil, vi := fun v hv => (by cases hv), vl := fun v hv => (by cases hv), l0 := l0, vm := fun v hv => (by cases hv), sz := hs, sv := hv }
          refine ⟨?_, fun y hy => ?_, fun y hy => ?_⟩
          · unfold DifE
            rw [List.map_append, List.nodup_append]
            refine ⟨h.df, by simp, fun a ha b hb e => ?_⟩
            simp at hb
            subst hb e
            obtain ⟨z, hz, e2⟩ := List.mem_map.1 ha
            exact fnE_none.1 hno z hz e2
          · rcases List.mem_append.1 hy with hy | hy
            · exact h.ea y hy
            · rw [List.mem_singleton.1 hy]; exact hx
          · rcases List.mem_append.1 hy with hy | hy
            · exact h.tx y hy
            · rw [List.mem_singleton.1 hy]; exact ⟨x0, x1⟩
        · omega
  · exact h
theorem ok_vote (h : ok os) (n : Int) (h1 : t < 18446744073709551616) : ok (voS os tx n t) := by
  unfold voS
  cases hf : fnE os tx with
  | none => exact h
  | some x =>
    simp only
    split
    · rename_i he
      unfold voE at he
      rw [hf] at he
      simp only at he
      split at he
      · omega
      · rename_i h2
        split at he
        · omega
        · rename_i h3
          split at he
          · omega
          · rename_i h4
            exact ok_put h hf rfl (okx_vote (ok_mem h hf).1 (by simpa using h2) (by simpa using h3) (by omega) h1)
    · exact h
theorem ok_end (h : ok os) (tx n : Int) : ok (enS os tx n) := by
  unfold enS
  cases hf : fnE os tx with
  | none => exact h
  | some x =>
    simp only
    split
    · split
      · exact ok_rm h tx
      · exact ok_put h hf rfl (okx_end (ok_mem h hf).1 n)
    · exact h
theorem stS_len : (stS os tx low sh).length ≤ os.length + 1 := by unfold stS; split <;> simp
theorem voS_len : (voS os tx n t).length = os.length := by
  unfold voS upd
  cases fnE os tx with
  | none => rfl
  | some x => simp only; split <;> simp
theorem enS_len : (enS os tx n).length ≤ os.length := by
  unfold enS upd rmE
  cases fnE os tx with
  | none => exact Nat.le_refl _
  | some x =>
    simp only
    split
    · split
      · exact List.length_filter_le _ _
      · simp
    · exact Nat.le_refl _
end
end Go.Proofs.Ytafocefbpkcoaaa.coK
