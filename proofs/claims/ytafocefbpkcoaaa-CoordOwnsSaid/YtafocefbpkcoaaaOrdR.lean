/- Rows of versions in memory: those that came in, those of the call's own. -/
import Derived.Test.YtafocefbpkcoaaaChnA
import Derived.Laws.OwnMore
set_option linter.unusedVariables false
namespace Go.Proofs.Ytafocefbpkcoaaa.chnR
open Go.ChangeShapes Go.WideShapes Go.ChangeAt Go.RowKit Go.Deep
open opV chnM gen chnA

def fl (l : List Ver) : List Value := (l.map cL).flatten
theorem fl_nil : fl [] = [] := rfl
theorem fl_cons (x : Ver) (l : List Ver) : fl (x :: l) = cL x ++ fl l := rfl
theorem fl_app (a b : List Ver) : fl (a ++ b) = fl a ++ fl b := by simp [fl]
theorem fl_one (x : Ver) : fl [x] = cL x := by simp [fl]
theorem fl_len : ∀ l : List Ver, (fl l).length = l.length * 6
  | [] => by simp [fl]
  | x :: l => by rw [fl_cons, List.length_append, cL_len, fl_len l, List.length_cons]; omega
theorem fl_get : ∀ {l : List Ver} {i j : Nat} {x : Ver} {u : Value}, l[i]? = some x → (cL x)[j]? = some u → (fl l)[i * 6 + j]? = some u
  | [], _, _, _, _, h, _ => by simp at h
  | a :: r, 0, j, x, u, h, hu => by
    simp only [List.getElem?_cons_zero, Option.some.injEq] at h
    subst h
    have := (List.getElem?_eq_some_iff.1 hu).1
    rw [fl_cons, Nat.zero_mul, Nat.zero_add, List.getElem?_append_left this]
    exact hu
  | a :: r, i + 1, j, x, u, h, hu => by
    rw [fl_cons, List.getElem?_append_right (by rw [cL_len]; omega), cL_len, show (i + 1) * 6 + j - 6 = i * 6 + j by omega]
    exact fl_get (by simpa using h) hu
theorem fl_all (l : List Ver) : ∀ u ∈ fl l, u.oneCell' = true := by
  intro u hu
  obtain ⟨y, hy, hu⟩ := List.mem_flatten.1 hu
  obtain ⟨x, _, rfl⟩ := List.mem_map.1 hy
  exact cL_one x u hu
theorem fl_take (l : List Ver) (k : Nat) : fl (l.take k) = (fl l).take (k * 6) := by
  by_cases h : k ≤ l.length
  · have e : fl l = fl (l.take k) ++ fl (l.drop k) := by rw [← fl_app, List.take_append_drop]
    rw [e, List.take_left' (by rw [fl_len, List.length_take, Nat.min_eq_left h])]
  · rw [List.take_of_length_le (by omega), List.take_of_length_le (by rw [fl_len]; omega)]
theorem fl_drop (l : List Ver) (k : Nat) : fl (l.drop k) = (fl l).drop (k * 6) := by
  by_cases h : k ≤ l.length
  · have e : fl l = fl (l.take k) ++ fl (l.drop k) := by rw [← fl_app, List.take_append_drop]
    rw [e, List.drop_left' (by rw [fl_len, List.length_take, Nat.min_eq_left h])]
  · rw [List.drop_of_length_le (by omega), List.drop_of_length_le (by rw [fl_len]; omega)]; rfl
/-- the cell k of the row l, whatever k -/
theorem fl_at {l : List Ver} {k : Nat} {u : Value} (h : (fl l)[k]? = some u) : ∃ i j, k = i * 6 + j ∧ j < 6 ∧ i < l.length ∧ (cL (nt l i))[j]? = some u := by
  have hk := (List.getElem?_eq_some_iff.1 h).1
  rw [fl_len] at hk
  refine ⟨k / 6, k % 6, by omega, by omega, by omega, ?_⟩
  have hi : k / 6 < l.length := by omega
  have hj : k % 6 < (cL (nt l (k / 6))).length := by rw [cL_len]; omega
  have h2 := fl_get (l := l) (i := k / 6) (j := k % 6) (x := nt l (k / 6)) (u := (cL (nt l (k / 6)))[k % 6]) (by rw [List.getElem?_eq_getElem hi, nt_at hi]) (by rw [List.getElem?_eq_getElem hj])
  rw [show k / 6 * 6 + k % 6 = k by omega, h] at h2
  rw [List.getElem?_eq_getElem hj, h2]
theorem V6.at {b o j : Nat} {v : Ver} {w : World} {u : Value} (h : V6 b o v w) (hu : (cL v)[j]? = some u) : w.cell? ⟨b, o + j, none⟩ = some u := by
  obtain ⟨h0, h1, h2, h3, h4, h5⟩ := h
  have hj : j < 6 := by have := (List.getElem?_eq_some_iff.1 hu).1; rw [cL_len] at this; exact this
  have hj' : j = 0 ∨ j = 1 ∨ j = 2 ∨ j = 3 ∨ j = 4 ∨ j = 5 := by omega
  rcases hj' with rfl | rfl | rfl | rfl | rfl | rfl <;> (simp only [cL, List.getElem?_cons_zero, List.getElem?_cons_succ, Option.some.injEq] at hu; subst hu; assumption)
theorem V6.of {b o : Nat} {v : Ver} {w : World} (h : ∀ j u, (cL v)[j]? = some u → w.cell? ⟨b, o + j, none⟩ = some u) : V6 b o v w := ⟨h 0 _ rfl, h 1 _ rfl, h 2 _ rfl, h 3 _ rfl, h 4 _ rfl, h 5 _ rfl⟩

/-! ### A row that may be read -/
structure HV (w : World) (A : Option Addr) (c : Nat) (l : List Ver) : Prop where
  row : l.length = 0 ∨ ∃ b off, A = some ⟨b, off, none⟩ ∧ b < w.heap.size ∧ ∀ i, i < l.length → V6 b (off + i * 6) (nt l i) w
  nil_ : A = none → c = 0
  le : l.length ≤ c
  top : c ≤ 9223372036854775807
  sm : l.length * 64 ≤ 140737488355328
section
variable {w w1 : World} {A : Option Addr} {c B base base' : Nat} {l : List Ver}
theorem HV.step (h : HV w A c l) (hb : Below B w w1) (hB : w.heap.size ≤ B) : HV w1 A c l := by
  refine { h with row := h.row.imp id ?_ }
  rintro ⟨b, off, e, hlt, hc⟩
  exact ⟨b, off, e, by have := hb.size; omega, fun i hi => (hc i hi).step hb hB⟩
theorem HV.below (h : HV w A c l) (hb : Below w.heap.size w w1) : HV w1 A c l := h.step hb (Nat.le_refl _)
theorem HV.at (h : HV w A c l) {i : Nat} (hi : i < l.length) : ∃ b off, A = some ⟨b, off, none⟩ ∧ b < w.heap.size ∧ V6 b (off + i * 6) (nt l i) w := by
  rcases h.row with h | ⟨b, off, h1, h2, h3⟩
  · omega
  · exact ⟨b, off, h1, h2, h3 i hi⟩
theorem HV.stand (h : HV w A c l) : Stand w A l.length (fl l) := by
  rcases h.row with h0 | ⟨b, off, e, _, hc⟩
  · exact .inl h0
  · refine .inr ⟨_, e, fun k u hu => ?_⟩
    obtain ⟨i, j, rfl, hj, hi, hu⟩ := fl_at hu
    rw [add_plain, show off + (i * 6 + j) = off + i * 6 + j by omega]
    exact V6.at (hc i hi) hu
theorem HV.of_vq {n : Nat} (h : VQ w A n l) (hn : A = none → c = 0) (hl : n ≤ c) (hc : c ≤ 9223372036854775807) (hs : c * 64 ≤ 140737488351232) : HV w A c l := by
  obtain ⟨rfl, h2⟩ := h
  refine ⟨h2.imp id ?_, hn, hl, hc, by omega⟩
  rintro ⟨b, off, e, hlt, hq⟩
  exact ⟨b, off, e, hlt, fun i hi => (hq i hi).1⟩
/-- a part of it -/
theorem HV.sub (h : HV w A c l) {i j : Nat} (hi : i ≤ j) (hj : j ≤ l.length) : (∃ A' c', HV w A' c' ((l.take j).drop i)) := by
  have hl : ((l.take j).drop i).length = j - i := by simp; omega
  rcases h.row with h0 | ⟨b, off, e, hlt, hc⟩
  · exact ⟨none, 0, ⟨.inl (by omega), fun _ => rfl, by omega, by omega, by omega⟩⟩
  · refine ⟨some ⟨b, off + i * 6, none⟩, j - i, ⟨.inr ⟨b, off + i * 6, rfl, hlt, fun k hk => ?_⟩, fun e => (by cases e), by omega, by have := h.le; have := h.top; omega, by have := h.sm; omega⟩⟩
    have : nt ((l.take j).drop i) k = nt l (i + k) := by
      rw [nt_at hk, nt_at (by omega), List.getElem_drop, List.getElem_take]
    rw [this, show off + i * 6 + k * 6 = off + (i + k) * 6 by omega]
    exact hc (i + k) (by omega)

/-! ### A row of the call's own -/
def GV (w : World) (base : Nat) (A : Option Addr) (c : Nat) (l : List Ver) : Prop := w.ownsRow base 64 6 (.slice A l.length c) l.length (fl l)
theorem own_block {w w' : World} {base n sz : Nat} {t : TypeId} {v : Value} {xs : List Value} (h : w.ownsRow base t sz v n xs) (e : ∀ k, v.ownBlock = some k → w'.heap[k]? = w.heap[k]?) : w'.ownsRow base t sz v n xs := by
  refine ⟨h.1, ?_⟩
  rcases h.2 with h | ⟨g, cap, cur, rfl, h1, h2, h3⟩
  · exact .inl h
  · exact .inr ⟨g, cap, cur, rfl, h1, (e g rfl).trans h2, h3⟩
theorem own_more {w : World} {base base' n sz : Nat} {t : TypeId} {v : Value} {xs : List Value} (h : w.ownsRow base t sz v n xs) (hb : base' ≤ base) : w.ownsRow base' t sz v n xs := by
  refine ⟨h.1, ?_⟩
  rcases h.2 with h | ⟨g, cap, cur, rfl, h1, h2, h3⟩
  · exact .inl h
  · exact .inr ⟨g, cap, cur, rfl, by omega, h2, h3⟩
theorem GV.more (h : GV w base A c l) (hb : base' ≤ base) : GV w base' A c l := own_more h hb
theorem GV.block (h : GV w base A c l) (e : ∀ k, (Value.slice A l.length c).ownBlock = some k → w1.heap[k]? = w.heap[k]?) : GV w1 base A c l := own_block h e
theorem GV.below (h : GV w base A c l) (hB : Below w.heap.size w w1) : GV w1 base A c l := h.block fun k e => hB.block k (h.lt k e).2
theorem GV.drew (h : GV w base A c l) : GV w.drew base A c l := h
theorem GV.nil_ (w : World) (base : Nat) : GV w base none 0 [] := World.ownsRow_nil _ _ _ 6
theorem GV.cap (h : GV w base A c l) : l.length ≤ c ∧ c ≤ 9223372036854775807 ∧ (A = none → c = 0) := by
  rcases h.2 with ⟨e, _⟩ | ⟨g, cap, cur, e, _, hg, hnc, hcm, hcs, htk⟩
  · simp only [Value.slice.injEq] at e
    obtain ⟨rfl, e2, rfl⟩ := e
    exact ⟨by omega, by omega, fun _ => rfl⟩
  · simp only [Value.slice.injEq] at e
    obtain ⟨rfl, e2, rfl⟩ := e
    exact ⟨hnc, by unfold maxLen at hcm; omega, fun h => by cases h⟩
theorem GV.hv (h : GV w base A c l) (hs : l.length * 64 ≤ 140737488355328) : HV w A c l := by
  have hc := h.cap
  refine ⟨?_, hc.2.2, hc.1, hc.2.1, hs⟩
  rcases h.2 with ⟨e, h0⟩ | ⟨g, cap, cur, e, _, hg, hnc, hcm, hcs, htk⟩
  · exact .inl h0
  · have h' := h
    unfold GV at h'
    rw [e] at h'
    simp only [Value.slice.injEq] at e
    obtain ⟨rfl, e2, rfl⟩ := e
    refine .inr ⟨g, 0, rfl, (Array.getElem?_eq_some_iff.1 hg).1, fun i hi => V6.of fun j u hu => ?_⟩
    have hj : j < 6 := by have := (List.getElem?_eq_some_iff.1 hu).1; rw [cL_len] at this; exact this
    rw [Nat.zero_add, h'.cellAt (i * 6 + j) (by omega)]
    exact fl_get (by rw [List.getElem?_eq_getElem hi, nt_at hi]) hu
theorem GV.other (h : GV w base A c l) {b : Nat} (hb : b < base) (i : Nat) (x : Value) : GV (w.setCell ⟨b, i, none⟩ x) base A c l :=
  h.block fun k e => Below.heap_setCell _ _ _ _ (by have := (h.lt k e).1; show k ≠ b; omega)
end
/-- What a call answers: an error, and a row in new memory. -/
def TV (E : Nat) (l : List Ver) (w : World) (e : Ending) (w' : World) : Prop :=
  ∃ A c, e = .returned (.tuple #[.slice A l.length c, .int .i64 E]) ∧ GV w' w.heap.size A c l ∧ Below w.heap.size w w'
/-- .. a row alone -/
def RV (l : List Ver) (w : World) (e : Ending) (w' : World) : Prop :=
  ∃ A c, e = .returned (.slice A l.length c) ∧ GV w' w.heap.size A c l ∧ Below w.heap.size w w'
theorem infoV : (Try.prog.info? 64).map (fun i => (i.zero, i.size, i.bytes)) = some (some (.agg #[.string { data := #[] }, .string { data := #[] }, .bool false, .int .u64 0, .int .i64 0, .int .i64 0]), 6, 64) := by kernel_rfl
end Go.Proofs.Ytafocefbpkcoaaa.chnR
