/- Rows of things of k cells each: those that may be read, those of the call's own. -/
import Derived.Test.YtafocefbpkcoaaaOrdC
import Derived.Deep.OwnRows
set_option linter.unusedVariables false
set_option linter.unusedSimpArgs false
namespace Go.Proofs.Ytafocefbpkcoaaa.coG
open Go.ChangeShapes Go.WideShapes Go.ChangeAt Go.RowKit Go.Deep
open gen

structure Shape (α : Type) where
  t : TypeId
  k : Nat
  f : α → List Value
  hk : ∀ x, (f x).length = k
  k0 : 0 < k
  h1 : ∀ x, ∀ u ∈ f x, u.oneCell' = true
section
variable {α : Type} (S : Shape α)
def Shape.fl (l : List α) : List Value := (l.map S.f).flatten
theorem Shape.fl_nil : S.fl [] = [] := rfl
theorem Shape.fl_cons (x : α) (l : List α) : S.fl (x :: l) = S.f x ++ S.fl l := rfl
theorem Shape.fl_app (a b : List α) : S.fl (a ++ b) = S.fl a ++ S.fl b := by simp [Shape.fl]
theorem Shape.fl_one (x : α) : S.fl [x] = S.f x := by simp [Shape.fl]
theorem Shape.fl_len : ∀ l : List α, (S.fl l).length = l.length * S.k
  | [] => by simp [Shape.fl]
  | x :: l => by rw [S.fl_cons, List.length_append, S.hk, Shape.fl_len l, List.length_cons, Nat.add_mul, Nat.one_mul, Nat.add_comm]
theorem Shape.fl_get : ∀ {l : List α} {i j : Nat} {x : α} {u : Value}, l[i]? = some x → (S.f x)[j]? = some u → (S.fl l)[i * S.k + j]? = some u
  | [], _, _, _, _, h, _ => by simp at h
  | a :: r, 0, j, x, u, h, hu => by
    simp only [List.getElem?_cons_zero, Option.some.injEq] at h
    subst h
    have := (List.getElem?_eq_some_iff.1 hu).1
    rw [S.fl_cons, Nat.zero_mul, Nat.zero_add, List.getElem?_append_left this]
    exact hu
  | a :: r, i + 1, j, x, u, h, hu => by
    have e : (i + 1) * S.k + j - S.k = i * S.k + j := by rw [Nat.add_mul, Nat.one_mul]; omega
    rw [S.fl_cons, List.getElem?_append_right (by rw [S.hk, Nat.add_mul, Nat.one_mul]; omega), S.hk, e]
    exact Shape.fl_get (by simpa using h) hu
theorem Shape.fl_all (l : List α) : ∀ u ∈ S.fl l, u.oneCell' = true := by
  intro u hu
  obtain ⟨y, hy, hu⟩ := List.mem_flatten.1 hu
  obtain ⟨x, _, rfl⟩ := List.mem_map.1 hy
  exact S.h1 x u hu
theorem Shape.fl_take (l : List α) (k : Nat) : S.fl (l.take k) = (S.fl l).take (k * S.k) := by
  by_cases h : k ≤ l.length
  · have e : S.fl l = S.fl (l.take k) ++ S.fl (l.drop k) := by rw [← S.fl_app, List.take_append_drop]
    rw [e, List.take_left' (by rw [S.fl_len, List.length_take, Nat.min_eq_left h])]
  · rw [List.take_of_length_le (by omega), List.take_of_length_le (by rw [S.fl_len]; exact Nat.mul_le_mul_right _ (by omega))]
theorem Shape.fl_drop (l : List α) (k : Nat) : S.fl (l.drop k) = (S.fl l).drop (k * S.k) := by
  by_cases h : k ≤ l.length
  · have e : S.fl l = S.fl (l.take k) ++ S.fl (l.drop k) := by rw [← S.fl_app, List.take_append_drop]
    rw [e, List.drop_left' (by rw [S.fl_len, List.length_take, Nat.min_eq_left h])]
  · rw [List.drop_of_length_le (by omega), List.drop_of_length_le (by rw [S.fl_len]; exact Nat.mul_le_mul_right _ (by omega))]; rfl
/-- the cell n of the row l, whatever n -/
theorem Shape.fl_at {l : List α} {n : Nat} {u : Value} (h : (S.fl l)[n]? = some u) : ∃ i j x, n = i * S.k + j ∧ j < S.k ∧ l[i]? = some x ∧ (S.f x)[j]? = some u := by
  have hn := (List.getElem?_eq_some_iff.1 h).1
  rw [S.fl_len] at hn
  have hi : n / S.k < l.length := Nat.div_lt_of_lt_mul (by rw [Nat.mul_comm]; exact hn)
  have hj := Nat.mod_lt n S.k0
  have e : n / S.k * S.k + n % S.k = n := Nat.div_add_mod' n S.k
  have hx : l[n / S.k]? = some l[n / S.k] := List.getElem?_eq_getElem hi
  have hl : n % S.k < (S.f l[n / S.k]).length := by rw [S.hk]; exact hj
  have h2 := S.fl_get hx (List.getElem?_eq_getElem hl)
  rw [e, h] at h2
  exact ⟨n / S.k, n % S.k, _, e.symm, hj, hx, by rw [List.getElem?_eq_getElem hl, h2]⟩
theorem Shape.fl_set {l : List α} {i j : Nat} {x y : α} {u : Value} (hx : l[i]? = some x) (hy : S.f y = (S.f x).set j u) (hj : j < S.k) : (S.fl l).set (i * S.k + j) u = S.fl (l.set i y) := by
  induction l generalizing i with
  | nil => simp at hx
  | cons a l ih =>
    cases i with
    | zero =>
      simp only [List.getElem?_cons_zero, Option.some.injEq] at hx
      subst hx
      rw [List.set_cons_zero, S.fl_cons, S.fl_cons, Nat.zero_mul, Nat.zero_add, List.set_append_left _ _ (by rw [S.hk]; exact hj), hy]
    | succ i =>
      have e : (i + 1) * S.k + j - S.k = i * S.k + j := by rw [Nat.add_mul, Nat.one_mul]; omega
      rw [List.set_cons_succ, S.fl_cons, S.fl_cons, List.set_append_right _ _ (by rw [S.hk, Nat.add_mul, Nat.one_mul]; omega), S.hk, e, ih (by simpa using hx)]

/-! ### A row that may be read -/
structure Rd (w : World) (A : Option Addr) (c : Nat) (l : List α) : Prop where
  row : l = [] ∨ ∃ b off, A = some ⟨b, off, none⟩ ∧ b < w.heap.size ∧ ∀ i j x u, l[i]? = some x → (S.f x)[j]? = some u → w.cell? ⟨b, off + i * S.k + j, none⟩ = some u
  le : l.length ≤ c
  top : c ≤ 9223372036854775807
end
section
variable {α : Type} {S : Shape α} {w w1 : World} {A A' : Option Addr} {c c' B base base' : Nat} {l l' : List α}
theorem Rd.of_block (h : Rd S w A c l) (hs : w.heap.size ≤ w1.heap.size) (hb : l = [] ∨ ∀ y, A = some y → w1.heap[y.block]? = w.heap[y.block]?) : Rd S w1 A c l := by
  refine { h with row := ?_ }
  rcases h.row with h0 | ⟨b, off, e, hlt, hc⟩
  · exact .inl h0
  · rcases hb with h0 | hb
    · exact .inl h0
    · exact .inr ⟨b, off, e, by omega, fun i j x u hx hu => (World.cell?_of_block (a := ⟨b, off + i * S.k + j, none⟩) (hb ⟨b, off, none⟩ e)).trans (hc i j x u hx hu)⟩
theorem Rd.lt (h : Rd S w A c l) (h0 : l ≠ []) {y : Addr} (e : A = some y) : y.block < w.heap.size := by
  rcases h.row with h1 | ⟨b, off, e2, hlt, _⟩
  · exact absurd h1 h0
  · rw [e] at e2; cases e2; exact hlt
theorem Rd.step (h : Rd S w A c l) (hb : Below B w w1) (hB : w.heap.size ≤ B) : Rd S w1 A c l := by
  by_cases h0 : l = []
  · exact h.of_block (by have := hb.size; omega) (.inl h0)
  · exact h.of_block (by have := hb.size; omega) (.inr fun y e => hb.block _ (by have := h.lt h0 e; omega))
theorem Rd.below (h : Rd S w A c l) (hb : Below w.heap.size w w1) : Rd S w1 A c l := h.step hb (Nat.le_refl _)
theorem Rd.at_ (h : Rd S w A c l) {i : Nat} {x : α} (hx : l[i]? = some x) : ∃ b off, A = some ⟨b, off, none⟩ ∧ b < w.heap.size ∧ ∀ j u, (S.f x)[j]? = some u → w.cell? ⟨b, off + i * S.k + j, none⟩ = some u := by
  rcases h.row with rfl | ⟨b, off, e, hlt, hc⟩
  · simp at hx
  · exact ⟨b, off, e, hlt, fun j u hu => hc i j x u hx hu⟩
theorem Rd.stand (h : Rd S w A c l) : Stand w A l.length (S.fl l) := by
  rcases h.row with rfl | ⟨b, off, e, _, hc⟩
  · exact .inl rfl
  · refine .inr ⟨_, e, fun n u hu => ?_⟩
    obtain ⟨i, j, x, rfl, hj, hx, hu⟩ := S.fl_at hu
    rw [add_plain, show off + (i * S.k + j) = off + i * S.k + j by omega]
    exact hc i j x u hx hu
theorem Rd.nil_ (w : World) : Rd S w none 0 [] := ⟨.inl rfl, Nat.le_refl _, by omega⟩

/-! ### A row of the call's own -/
def Own (S : Shape α) (w : World) (base : Nat) (A : Option Addr) (c : Nat) (l : List α) : Prop := w.ownsRow base S.t S.k (.slice A l.length c) l.length (S.fl l)
theorem own_block {w w' : World} {base n sz : Nat} {t : TypeId} {v : Value} {xs : List Value} (h : w.ownsRow base t sz v n xs) (e : ∀ k, v.ownBlock = some k → w'.heap[k]? = w.heap[k]?) : w'.ownsRow base t sz v n xs := by
  refine ⟨h.1, ?_⟩
  rcases h.2 with h | ⟨g, cap, cur, rfl, h1, h2, h3⟩
  · exact .inl h
  · exact .inr ⟨g, cap, cur, rfl, h1, (e g rfl).trans h2, h3⟩
theorem own_more {w : World} {base base' n sz : Nat} {t : TypeId} {v : Value} {xs : List Value} (h : w.ownsRow base t sz v n xs) (hb : base' ≤ base) : w.ownsRow base' t sz v n xs := by
  refine ⟨h.1, ?_⟩
  rcases h.2 with h | ⟨g, cap, cur, rfl, h1, h2, h3⟩
  · exact .inl h
  · exact .inr ⟨g, cap, cur, rfl, by omega, h2, h3⟩
def Ty (w : World) (k : Nat) (t : TypeId) : Prop := ∃ cur, w.heap[k]? = some (.cells cur t (0, 0))
theorem Own.block (h : Own S w base A c l) (e : ∀ k, (Value.slice A l.length c).ownBlock = some k → w1.heap[k]? = w.heap[k]?) : Own S w1 base A c l := own_block h e
theorem Own.more (h : Own S w base A c l) (hb : base' ≤ base) : Own S w base' A c l := own_more h hb
theorem Own.lt (h : Own S w base A c l) {k : Nat} (e : (Value.slice A l.length c).ownBlock = some k) : base ≤ k ∧ k < w.heap.size ∧ Ty w k S.t := by
  rcases h.2 with ⟨e1, _⟩ | ⟨g, cap, cur, e1, hb, hg, _⟩
  · rw [e1] at e; cases e
  · rw [e1] at e
    simp only [Value.ownBlock] at e
    cases e
    exact ⟨hb, (Array.getElem?_eq_some_iff.1 hg).1, cur, hg⟩
theorem Own.below (h : Own S w base A c l) (hB : Below w.heap.size w w1) : Own S w1 base A c l := h.block fun k e => hB.block k (h.lt e).2.1
theorem Own.nil_ (S : Shape α) (w : World) (base : Nat) : Own S w base none 0 [] := World.ownsRow_nil _ _ _ S.k
theorem Own.cap (h : Own S w base A c l) : l.length ≤ c ∧ c ≤ 9223372036854775807 := by
  rcases h.2 with ⟨e, h0⟩ | ⟨g, cap, cur, e, _, hg, hnc, hcm, hcs, htk⟩
  · simp only [Value.slice.injEq] at e
    obtain ⟨rfl, e2, rfl⟩ := e
    exact ⟨by omega, by omega⟩
  · simp only [Value.slice.injEq] at e
    obtain ⟨rfl, e2, rfl⟩ := e
    exact ⟨hnc, by unfold maxLen at hcm; omega⟩
theorem Own.at_ (h : Own S w base A c l) {i : Nat} {x : α} (hx : l[i]? = some x) : ∃ g, A = some ⟨g, 0, none⟩ ∧ base ≤ g ∧ g < w.heap.size ∧ (∀ j u, (S.f x)[j]? = some u → w.cell? ⟨g, i * S.k + j, none⟩ = some u) ∧ ∀ o, w.frozen? ⟨g, o, none⟩ = false := by
  have hi : i < l.length := (List.getElem?_eq_some_iff.1 hx).1
  have hl := S.fl_len l
  have h' := h
  rcases h.2 with ⟨e, h0⟩ | ⟨g, cap, cur, e, hb, hg, _⟩
  · have h0' := h0; omega
  · unfold Own at h'
    rw [e] at h'
    simp only [Value.slice.injEq] at e
    obtain ⟨rfl, e2, rfl⟩ := e
    refine ⟨g, rfl, hb, (Array.getElem?_eq_some_iff.1 hg).1, fun j u hu => ?_, fun o => World.ownsRow.frozenAt h' o⟩
    have hlt := (List.getElem?_eq_some_iff.1 (S.fl_get hx hu)).1
    rw [h'.cellAt (i * S.k + j) (by omega)]
    exact S.fl_get hx hu
theorem Own.rd (h : Own S w base A c l) : Rd S w A c l := by
  refine ⟨?_, h.cap.1, h.cap.2⟩
  by_cases h0 : l = []
  · exact .inl h0
  · obtain ⟨g, rfl, _, hlt, _⟩ := h.at_ (i := 0) (List.getElem?_eq_getElem (List.length_pos_iff.2 h0))
    refine .inr ⟨g, 0, rfl, hlt, fun i j x u hx hu => ?_⟩
    obtain ⟨g', e, _, _, h3, _⟩ := h.at_ hx
    cases e
    rw [Nat.zero_add]
    exact h3 j u hu
/-- One cell of an element is put anew. -/
theorem Own.set {g i j : Nat} {x y : α} {u : Value} (h : Own S w base (some ⟨g, 0, none⟩) c l) (hx : l[i]? = some x) (hy : S.f y = (S.f x).set j u) (hj : j < S.k) : Own S (w.setCell ⟨g, i * S.k + j, none⟩ u) base (some ⟨g, 0, none⟩) c (l.set i y) := by
  have h1 := (World.ownsRow.stored h (i * S.k + j) u).1
  rw [S.fl_set hx hy hj] at h1
  unfold Own
  rw [List.length_set]
  exact h1
/-- What append answers. -/
theorem Own.of_app {n m : Nat} {ys : List Value} (hn : l.length = n) (hm : l'.length = m) (hy : ys = S.fl l') (h : w.ownsRow base S.t S.k (.slice A (n + m) c) (n + m) (S.fl l ++ ys)) : Own S w base A c (l ++ l') := by
  unfold Own
  rw [List.length_append, hn, hm, S.fl_app, ← hy]
  exact h
theorem Own.of_app1 {x : α} (h : w.ownsRow base S.t S.k (.slice A (l.length + 1) c) (l.length + 1) (S.fl l ++ S.f x)) : Own S w base A c (l ++ [x]) := Own.of_app rfl rfl (S.fl_one x).symm h
end
theorem Ty.ne {w : World} {k k2 : Nat} {t t2 : TypeId} (h : Ty w k t) (h2 : Ty w k2 t2) (hne : t ≠ t2) : k ≠ k2 := by
  rintro rfl
  obtain ⟨c1, e1⟩ := h
  obtain ⟨c2, e2⟩ := h2
  rw [e1] at e2
  simp at e2
  exact hne e2.2
theorem Ty.of_row {w : World} {p n : Nat} {t : TypeId} {f : Nat → Value} (h : w.rowIs p t n f) : Ty w p t := by obtain ⟨c, hc, _⟩ := h; exact ⟨c, hc⟩
theorem Ty.lt {w : World} {k : Nat} {t : TypeId} (h : Ty w k t) : k < w.heap.size := by obtain ⟨c, e⟩ := h; exact (Array.getElem?_eq_some_iff.1 e).1
section
variable {H : Type} {P : Program} {kT : TypeId} {R : Value → Option (DataW H × List MemPlace)} {w w1 : World} {b n : Nat} {D : DataW H}
theorem Ty.nmap {k : Nat} {t : TypeId} (h : Ty w k t) (h2 : w.ownsMap P kT R b n D) : k ≠ b := by
  rintro rfl
  obtain ⟨c1, e1⟩ := h
  obtain ⟨es, cl, e2, _⟩ := h2
  rw [e1] at e2
  cases e2
theorem map_block (h : w.ownsMap P kT R b n D) (e : w1.heap[b]? = w.heap[b]?) : w1.ownsMap P kT R b n D := by
  obtain ⟨es, cl, hb, hr⟩ := h
  exact ⟨es, cl, e.trans hb, hr⟩
end
end Go.Proofs.Ytafocefbpkcoaaa.coG
