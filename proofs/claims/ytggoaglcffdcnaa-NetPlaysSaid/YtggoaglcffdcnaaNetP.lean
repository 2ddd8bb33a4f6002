/- The document's net, plainly, and what it has to do with the program's. -/
import Derived.Test.YtggoaglcffdcnaaNetT
namespace Go.Proofs.Ytggoaglcffdcnaa.netP
open netA netB netC netE netG netS

structure Dk where
  f : Nat
  t : Nat
  b : List Nat
  sp : Bool
def Dk.pk (x : Dk) : List Nat × Bool := (x.b, x.sp)
structure Dn where
  row : List Dk
  lost : Nat
def mt (f t : Int) (x : Dk) : Bool := decide ((x.f : Int) = f ∧ (x.t : Int) = t)
theorem mt_iff {f t : Int} {x : Dk} : mt f t x = true ↔ (x.f : Int) = f ∧ (x.t : Int) = t := by unfold mt; rw [decide_eq_true_eq]
def cnt (f t : Int) (l : List Dk) : Nat := (l.filter (mt f t)).length
theorem cnt_app (f t : Int) (a b : List Dk) : cnt f t (a ++ b) = cnt f t a + cnt f t b := by unfold cnt; rw [List.filter_append, List.length_append]
theorem cnt_le (f t : Int) (l : List Dk) : cnt f t l ≤ l.length := List.length_filter_le _ _
theorem take_snoc {α : Type} (l : List α) {k : Nat} {x : α} (h : l[k]? = some x) : l.take (k + 1) = l.take k ++ [x] := by
  rw [List.take_add_one, h]; rfl
theorem cnt_step (f t : Int) (l : List Dk) {k : Nat} {x : Dk} (h : l[k]? = some x) : cnt f t (l.take (k + 1)) = cnt f t (l.take k) + if mt f t x = true then 1 else 0 := by
  rw [take_snoc l h, cnt_app]
  congr 1
  unfold cnt
  by_cases e : mt f t x = true
  · rw [if_pos e, List.filter_cons_of_pos e]; rfl
  · rw [if_neg e, List.filter_cons_of_neg e]; rfl
/-- the place of the i-th packet of a way -/
def idx (f t : Int) : List Dk → Nat → Option Nat
  | [], _ => none
  | x :: r, i => if mt f t x = true then (match i with | 0 => some 0 | i + 1 => (idx f t r i).map (· + 1)) else (idx f t r i).map (· + 1)
theorem idx_of {f t : Int} : ∀ {l : List Dk} {k i : Nat} {x : Dk}, l[k]? = some x → mt f t x = true → cnt f t (l.take k) = i → idx f t l i = some k
  | [], _, _, _, h, _, _ => by simp at h
  | y :: r, 0, i, x, h, hm, hc => by
    simp only [List.getElem?_cons_zero, Option.some.injEq] at h
    subst h
    have : i = 0 := by rw [← hc]; rfl
    subst this
    simp only [idx, if_pos hm]
  | y :: r, k + 1, i, x, h, hm, hc => by
    have h' : r[k]? = some x := by simpa using h
    rw [List.take_succ_cons, show y :: r.take k = [y] ++ r.take k from rfl, cnt_app] at hc
    by_cases e : mt f t y = true
    · have e1 : cnt f t [y] = 1 := by unfold cnt; rw [List.filter_cons_of_pos e]; rfl
      obtain ⟨j, rfl⟩ : ∃ j, i = j + 1 := ⟨i - 1, by omega⟩
      have := idx_of h' hm (show cnt f t (r.take k) = j by omega)
      simp only [idx, if_pos e, this, Option.map_some]
    · have e1 : cnt f t [y] = 0 := by unfold cnt; rw [List.filter_cons_of_neg e]; rfl
      have := idx_of h' hm (show cnt f t (r.take k) = i by omega)
      simp only [idx, if_neg e, this, Option.map_some]
theorem idx_none {f t : Int} : ∀ {l : List Dk} {i : Nat}, cnt f t l ≤ i → idx f t l i = none
  | [], _, _ => rfl
  | y :: r, i, h => by
    rw [show y :: r = [y] ++ r from rfl, cnt_app] at h
    by_cases e : mt f t y = true
    · have e1 : cnt f t [y] = 1 := by unfold cnt; rw [List.filter_cons_of_pos e]; rfl
      obtain ⟨j, rfl⟩ : ∃ j, i = j + 1 := ⟨i - 1, by omega⟩
      simp only [idx, if_pos e, idx_none (show cnt f t r ≤ j by omega), Option.map_none]
    · have e1 : cnt f t [y] = 0 := by unfold cnt; rw [List.filter_cons_of_neg e]; rfl
      simp only [idx, if_neg e, idx_none (show cnt f t r ≤ i by omega), Option.map_none]
/-- What stands at the place that idx tells: the list parts there. -/
theorem idx_parts {f t : Int} : ∀ {l : List Dk} {i j : Nat}, idx f t l i = some j → ∃ x, l = l.take j ++ x :: l.drop (j + 1) ∧ l[j]? = some x ∧ mt f t x = true ∧ cnt f t (l.take j) = i
  | [], _, _, h => by cases h
  | y :: r, i, j, h => by
    unfold idx at h
    by_cases e : mt f t y = true
    · rw [if_pos e] at h
      rcases i with _ | i
      · cases h
        exact ⟨y, rfl, rfl, e, rfl⟩
      · change Option.map (· + 1) (idx f t r i) = some j at h
        cases h2 : idx f t r i with
        | none => rw [h2] at h; cases h
        | some j' =>
          rw [h2] at h
          cases h
          obtain ⟨x, h1, h3, h4, h5⟩ := idx_parts h2
          refine ⟨x, by simpa using h1, by simpa using h3, h4, ?_⟩
          rw [List.take_succ_cons, show y :: r.take j' = [y] ++ r.take j' from rfl, cnt_app, h5]
          have e1 : cnt f t [y] = 1 := by unfold cnt; rw [List.filter_cons_of_pos e]; rfl
          omega
    · rw [if_neg e] at h
      cases h2 : idx f t r i with
      | none => rw [h2] at h; cases h
      | some j' =>
        rw [h2] at h
        cases h
        obtain ⟨x, h1, h3, h4, h5⟩ := idx_parts h2
        refine ⟨x, by simpa using h1, by simpa using h3, h4, ?_⟩
        rw [List.take_succ_cons, show y :: r.take j' = [y] ++ r.take j' from rfl, cnt_app, h5]
        have e1 : cnt f t [y] = 0 := by unfold cnt; rw [List.filter_cons_of_neg e]; rfl
        omega
theorem idx_some {f t : Int} {l : List Dk} {i : Nat} (h : i < cnt f t l) : ∃ j, idx f t l i = some j := by
  cases e : idx f t l i with
  | some j => exact ⟨j, rfl⟩
  | none =>
    exfalso
    have key : ∀ (l : List Dk) (i : Nat), idx f t l i = none → cnt f t l ≤ i := by
      intro l
      induction l with
      | nil => intro i _; simp [cnt]
      | cons y r ih =>
        intro i h
        rw [show y :: r = [y] ++ r from rfl, cnt_app]
        unfold idx at h
        by_cases e : mt f t y = true
        · have e1 : cnt f t [y] = 1 := by unfold cnt; rw [List.filter_cons_of_pos e]; rfl
          rw [if_pos e] at h
          rcases i with _ | i
          · cases h
          · change Option.map (· + 1) (idx f t r i) = none at h
            have := ih i (by cases h2 : idx f t r i with
              | none => rfl
              | some j => rw [h2] at h; cases h)
            omega
        · have e1 : cnt f t [y] = 0 := by unfold cnt; rw [List.filter_cons_of_neg e]; rfl
          rw [if_neg e] at h
          have := ih i (by cases h2 : idx f t r i with
            | none => rfl
            | some j => rw [h2] at h; cases h)
          omega
    have := key l i e
    omega
/-- what is found -/
def fnd (f t a : Int) (l : List Dk) : Option Nat := if a < 0 then none else idx f t l a.toNat
/-! ### The one and the other -/
def wayOf (f t : Int) (l : List Dk) : List (List Nat × Bool) := (l.filter (mt f t)).map Dk.pk
structure Rel (s : Ns) (d : Dn) : Prop where
  row : ∀ a b : Nat, a ≤ 20 → b ≤ 20 → s.row (a * 21 + b) = wayOf a b d.row
  lost : s.lost = d.lost
  ok : ∀ x ∈ d.row, x.f ≤ 20 ∧ x.t ≤ 20 ∧ x.f ≠ x.t
theorem Rel.new : Rel nsZ ⟨[], 0⟩ := ⟨fun _ _ _ _ => rfl, rfl, fun _ h => by cases h⟩
variable {s : Ns} {d : Dn} {f t : Int}
theorem Rel.way (h : Rel s d) (hw : IsWay f t) : s.row (wn f t) = wayOf f t d.row := by
  obtain ⟨a, b, rfl, rfl, h1, h2, _, e⟩ := hw.nat
  rw [e]; exact h.row a b h1 h2
theorem wayOf_len (f t : Int) (l : List Dk) : (wayOf f t l).length = cnt f t l := by unfold wayOf cnt; rw [List.length_map]
theorem wayOf_app (f t : Int) (a b : List Dk) : wayOf f t (a ++ b) = wayOf f t a ++ wayOf f t b := by unfold wayOf; rw [List.filter_append, List.map_append]
theorem wayOf_yes {x : Dk} (h : mt f t x = true) : wayOf f t [x] = [x.pk] := by unfold wayOf; rw [List.filter_cons_of_pos h]; rfl
theorem wayOf_no {x : Dk} (h : ¬ mt f t x = true) : wayOf f t [x] = [] := by unfold wayOf; rw [List.filter_cons_of_neg h]; rfl
theorem wn_nat {a b : Nat} (ha : a ≤ 20) (hb : b ≤ 20) {x : Dk} (hx : IsWay x.f x.t) : (a * 21 + b = wn x.f x.t) ↔ mt a b x = true := by
  rw [mt_iff]
  unfold IsWay at hx
  unfold wn
  omega
/-- A packet stands last. -/
def addD (d : Dn) (x : Dk) : Dn := ⟨d.row ++ [x], d.lost⟩
theorem Rel.add (h : Rel s d) (x : Dk) (hx : IsWay x.f x.t) : Rel (addS s (wn x.f x.t) x.pk) (addD d x) := by
  refine ⟨fun a b ha hb => ?_, h.lost, fun y hy => ?_⟩
  · show upd s.row _ _ _ = wayOf a b (d.row ++ [x])
    rw [wayOf_app]
    by_cases e : a * 21 + b = wn x.f x.t
    · have hm := (wn_nat ha hb hx).1 e
      rw [e, upd_same, wayOf_yes hm, ← e, h.row a b ha hb]
    · have hm : ¬ mt a b x = true := fun c => e ((wn_nat ha hb hx).2 c)
      rw [upd_other _ _ e, wayOf_no hm, List.append_nil, h.row a b ha hb]
  · rcases List.mem_append.1 hy with hy | hy
    · exact h.ok y hy
    · rw [List.mem_singleton.1 hy]
      unfold IsWay at hx
      omega
/-- A packet is gone. -/
def delD (d : Dn) (j : Nat) : Dn := ⟨d.row.eraseIdx j, d.lost⟩
theorem wayOf_del {i j : Nat} (hj : idx f t d.row i = some j) (a b : Int) : wayOf a b (d.row.eraseIdx j) = if f = a ∧ t = b then (wayOf a b d.row).eraseIdx i else wayOf a b d.row := by
  obtain ⟨x, h1, h2, h3, h4⟩ := idx_parts hj
  rw [mt_iff] at h3
  have e0 : d.row.eraseIdx j = d.row.take j ++ d.row.drop (j + 1) := List.eraseIdx_eq_take_drop_succ ..
  have e1 : wayOf a b d.row = wayOf a b (d.row.take j) ++ (wayOf a b [x] ++ wayOf a b (d.row.drop (j + 1))) := by
    conv => lhs; rw [h1, show x :: d.row.drop (j + 1) = [x] ++ d.row.drop (j + 1) from rfl, wayOf_app, wayOf_app]
  rw [e0, wayOf_app, e1]
  by_cases e : f = a ∧ t = b
  · obtain ⟨rfl, rfl⟩ := e
    rw [if_pos ⟨rfl, rfl⟩, wayOf_yes (mt_iff.2 h3), List.eraseIdx_append_of_length_le (by rw [wayOf_len, h4]; exact Nat.le_refl _), wayOf_len, h4, Nat.sub_self]
    rfl
  · rw [if_neg e, wayOf_no (fun c => e (by rw [mt_iff] at c; omega)), List.nil_append]
theorem Rel.del (h : Rel s d) (hw : IsWay f t) {i j : Nat} (hj : idx f t d.row i = some j) : Rel (delS s (wn f t) i) (delD d j) := by
  refine ⟨fun a b ha hb => ?_, h.lost, fun y hy => h.ok y (List.mem_of_mem_eraseIdx hy)⟩
  show upd s.row _ _ _ = wayOf a b (d.row.eraseIdx j)
  rw [wayOf_del hj]
  obtain ⟨a', b', rfl, rfl, h1, h2, h3, e0⟩ := hw.nat
  by_cases e : a' = a ∧ b' = b
  · obtain ⟨rfl, rfl⟩ := e
    rw [if_pos ⟨rfl, rfl⟩, e0, upd_same, h.row a' b' ha hb]
  · rw [if_neg (by omega), e0, upd_other _ _ (by omega), h.row a b ha hb]
/-- A packet is another one of the same way. -/
def setD (d : Dn) (j : Nat) (x : Dk) : Dn := ⟨d.row.set j x, d.lost⟩
theorem Rel.set (h : Rel s d) (hw : IsWay f t) {i j : Nat} (hj : idx f t d.row i = some j) {x : Dk} (hx : mt f t x = true) : Rel (setS s (wn f t) i x.pk) (setD d j x) := by
  obtain ⟨y, h1, h2, h3, h4⟩ := idx_parts hj
  have hjl := (List.getElem?_eq_some_iff.1 h2).1
  rw [mt_iff] at h3 hx
  have e0 : d.row.set j x = d.row.take j ++ x :: d.row.drop (j + 1) := by rw [List.set_eq_take_append_cons_drop, if_pos hjl]
  refine ⟨fun a b ha hb => ?_, h.lost, fun z hz => ?_⟩
  · show upd s.row _ _ _ = wayOf a b (d.row.set j x)
    have e1 : wayOf a b d.row = wayOf a b (d.row.take j) ++ (wayOf a b [y] ++ wayOf a b (d.row.drop (j + 1))) := by
      conv => lhs; rw [h1, show y :: d.row.drop (j + 1) = [y] ++ d.row.drop (j + 1) from rfl, wayOf_app, wayOf_app]
    rw [e0, show x :: d.row.drop (j + 1) = [x] ++ d.row.drop (j + 1) from rfl, wayOf_app, wayOf_app]
    obtain ⟨a', b', rfl, rfl, g1, g2, g3, g0⟩ := hw.nat
    by_cases e : a' = a ∧ b' = b
    · obtain ⟨rfl, rfl⟩ := e
      have e2 := h.row a' b' ha hb
      rw [g0, upd_same, e2, e1, wayOf_yes (mt_iff.2 h3), wayOf_yes (mt_iff.2 hx), List.set_append_right _ _ (by rw [wayOf_len, h4]; exact Nat.le_refl _), wayOf_len, h4, Nat.sub_self]
      rfl
    · rw [g0, upd_other _ _ (by omega), h.row a b ha hb, e1, wayOf_no (fun c => e (by rw [mt_iff] at c; omega)), wayOf_no (fun c => e (by rw [mt_iff] at c; omega))]
  · rcases List.mem_or_eq_of_mem_set hz with hz | rfl
    · exact h.ok z hz
    · unfold IsWay at hw; omega
def lostD (d : Dn) : Dn := ⟨d.row, d.lost + 1⟩
theorem Rel.lose (h : Rel s d) : Rel (lostS s) (lostD d) := ⟨h.row, by show s.lost + 1 = d.lost + 1; rw [h.lost], h.ok⟩
theorem Rel.len (h : Rel s d) (hw : IsWay f t) : (s.row (wn f t)).length = cnt f t d.row := by rw [h.way hw, wayOf_len]
theorem Rel.pkt (h : Rel s d) (hw : IsWay f t) {i j : Nat} (hj : idx f t d.row i = some j) : ∃ x, d.row[j]? = some x ∧ mt f t x = true ∧ pkt s (wn f t) i = x.pk ∧ i < cnt f t d.row ∧ (x.f : Int) = f ∧ (x.t : Int) = t := by
  obtain ⟨x, h1, h2, h3, h4⟩ := idx_parts hj
  have e1 : wayOf f t d.row = wayOf f t (d.row.take j) ++ (wayOf f t [x] ++ wayOf f t (d.row.drop (j + 1))) := by
    conv => lhs; rw [h1, show x :: d.row.drop (j + 1) = [x] ++ d.row.drop (j + 1) from rfl, wayOf_app, wayOf_app]
  refine ⟨x, h2, h3, ?_, ?_, (mt_iff.1 h3).1, (mt_iff.1 h3).2⟩
  · unfold netE.pkt
    rw [h.way hw, e1, wayOf_yes h3, List.getD_eq_getElem?_getD, List.getElem?_append_right (by rw [wayOf_len, h4]; exact Nat.le_refl _), wayOf_len, h4, Nat.sub_self]
    rfl
  · rw [← wayOf_len, e1, wayOf_yes h3, List.length_append, wayOf_len, h4]
    simp
end Go.Proofs.Ytggoaglcffdcnaa.netP
