/- What the document's Split and Merge have made so far: the boxes, and the two rows that grow. -/
import Derived.Test.YtpijljbkdfjhcaaSpnKr
import Derived.Deep.CutRange
set_option linter.unusedVariables false
namespace Go.Proofs.Ytpijljbkdfjhcaa.spnCo
open Go.ChangeShapes Go.WideShapes Go.ChangeAt Go.RowKit Go.Deep
open spnM spnA spnB spnC spnN spnP spnD spnE spnF spnG spnH spnI spnJ spnK spnKr gen

/-! ### Lists -/
theorem del_on {α : Type} [Inhabited α] (l : List α) (j q : Nat) (hq : q < l.length) (hj : q ≠ j) : delA (l.take (q + 1)) j = delA (l.take q) j ++ [nt l q] := by
  rw [take_nt hq]
  have hl : (l.take q).length = q := by simp; omega
  generalize l.take q = a at *
  unfold delA
  by_cases h : j < q
  · rw [List.take_append_of_le_length (by omega), List.drop_append_of_le_length (by omega), List.append_assoc]
  · rw [List.take_of_length_le (by simp; omega), List.drop_eq_nil_of_le (by simp; omega), List.take_of_length_le (by omega), List.drop_eq_nil_of_le (by omega)]
    simp
theorem del_at {α : Type} [Inhabited α] (l : List α) (j : Nat) : delA (l.take (j + 1)) j = delA (l.take j) j := by
  unfold delA
  rw [List.take_take, List.take_take, List.drop_eq_nil_of_le (by simp; omega), List.drop_eq_nil_of_le (by simp; omega)]
  congr 2
  omega
theorem del_le {α : Type} (l : List α) (j q : Nat) : (delA (l.take q) j).length ≤ q := by unfold delA; simp; omega
theorem take_more {α : Type} (l : List α) (q : Nat) (h : l.length ≤ q) : l.take (q + 1) = l.take q := by rw [List.take_of_length_le (by omega), List.take_of_length_le h]
/-- a list into which x came at j, as far as place q -/
def spA {α : Type} (l : List α) (j q : Nat) (x : α) : List α := if j < q then insA (l.take q) j x else l.take q
theorem sp_low {α : Type} [Inhabited α] (l : List α) (j q : Nat) (x : α) (hq : q < l.length) (hj : q < j) : spA l j (q + 1) x = spA l j q x ++ [nt l q] := by
  unfold spA; rw [if_neg (by omega), if_neg (by omega), take_nt hq]
theorem sp_high {α : Type} [Inhabited α] (l : List α) (j q : Nat) (x : α) (hq : q < l.length) (hj : j < q) : spA l j (q + 1) x = spA l j q x ++ [nt l q] := by
  unfold spA; rw [if_pos (by omega), if_pos hj, take_nt hq]
  have hl : (l.take q).length = q := by simp; omega
  generalize l.take q = a at *
  unfold insA
  rw [List.take_append_of_le_length (by omega), List.drop_append_of_le_length (by omega), List.append_assoc, List.cons_append]
theorem sp_at {α : Type} [Inhabited α] (l : List α) (j : Nat) (x : α) (hq : j < l.length) : spA l j (j + 1) x = spA l j j x ++ [x] ++ [nt l j] := by
  unfold spA; rw [if_pos (by omega), if_neg (by omega), take_nt hq]
  have hl : (l.take j).length = j := by simp; omega
  generalize l.take j = a at *
  unfold insA
  rw [List.take_append_of_le_length (by omega), List.take_of_length_le (by omega), List.drop_append_of_le_length (by omega), List.drop_eq_nil_of_le (by omega)]
  simp
theorem sp_end {α : Type} (l : List α) (j : Nat) (x : α) (hq : j = l.length) : spA l j (j + 1) x = spA l j j x ++ [x] := by
  unfold spA; rw [if_pos (by omega), if_neg (by omega), List.take_of_length_le (by omega), List.take_of_length_le (by omega)]
  unfold insA
  rw [List.take_of_length_le (by omega), List.drop_eq_nil_of_le (by omega)]
theorem sp_more {α : Type} (l : List α) (j q : Nat) (x : α) (h : l.length ≤ q) (hj : j < q) : spA l j (q + 1) x = spA l j q x := by
  unfold spA; rw [if_pos (by omega), if_pos hj, take_more l q h]
theorem sp_le {α : Type} (l : List α) (j q : Nat) (x : α) : (spA l j q x).length ≤ q + 1 := by unfold spA insA; split <;> simp <;> omega
/-! ### Memory -/
structure OS (w : World) (bm b8 b9 base : Nat) (u v : Value) (xs : List ByteArray) (ys : List Int) (X : World) : Prop where
  m4 : B2 bm u v X
  m8 : B2 b8 (.slice none 0 0) (.slice none 0 0) X
  ob : ∃ D1 d1 D2 d2, B2 b9 (.slice D1 xs.length d1) (.slice D2 ys.length d2) X ∧ GM X base D1 d1 D2 d2 ⟨xs, ys⟩
  bel : Below w.heap.size w X
  lt : bm < base ∧ b8 < base ∧ b9 < base ∧ base ≤ X.heap.size ∧ w.heap.size ≤ bm ∧ w.heap.size ≤ b8 ∧ w.heap.size ≤ b9 ∧ bm ≠ b9 ∧ b8 ≠ b9
section
variable {w X X1 w9 : World} {bm b8 b9 base d1 d2 c9 : Nat} {u v : Value} {xs : List ByteArray} {ys : List Int} {D1 D2 A9 : Option Addr}
theorem set0 {b : Nat} {u v u' : Value} (h : B2 b u v X) : B2 b u' v (X.setCell ⟨b, 0, none⟩ u') := (h.set 0 u').congr fun i hi => by
  have : i = 0 ∨ i = 1 := by omega
  rcases this with rfl | rfl <;> simp
theorem set1 {b : Nat} {u v v' : Value} (h : B2 b u v X) : B2 b u v' (X.setCell ⟨b, 1, none⟩ v') := (h.set 1 v').congr fun i hi => by
  have : i = 0 ∨ i = 1 := by omega
  rcases this with rfl | rfl <;> simp
theorem OS.below (h : OS w bm b8 b9 base u v xs ys X) (hB : Below X.heap.size X X1) : OS w bm b8 b9 base u v xs ys X1 := by
  obtain ⟨D1, d1, D2, d2, hb, hG⟩ := h.ob
  obtain ⟨l1, l2, l3, l4, l5⟩ := h.lt
  exact ⟨h.m4.below hB, h.m8.below hB, ⟨D1, d1, D2, d2, hb.below hB, hG.below hB⟩, trans0 h.bel hB, l1, l2, l3, Nat.le_trans l4 hB.size, l5⟩
theorem OS.addI (h : OS w bm b8 b9 base u v xs ys X) (hb : B2 b9 (.slice D1 xs.length d1) (.slice D2 ys.length d2) X) (hG : GM X base D1 d1 D2 d2 ⟨xs, ys⟩) (hB : Below X.heap.size X X1) {x : Int}
    (ho : w9.ownsRow base 3 1 (.slice A9 (ys.length + 1) c9) (ys.length + 1) (ys.map (Value.int .i64) ++ [.int .i64 x])) (hg : X1.grownBy w9 (Value.slice D2 ys.length d2).ownBlock) :
    B2 b9 (.slice D1 xs.length d1) (.slice D2 ys.length d2) w9 ∧ OS w bm b8 b9 base u v xs (ys ++ [x]) (w9.setCell ⟨b9, 1, none⟩ (.slice A9 (ys.length + 1) c9)) := by
  obtain ⟨l1, l2, l3, l4, l5, l6, l7, l8, l9⟩ := h.lt
  have hG1 := hG.below hB
  have hs := hB.size
  have hs9 := hg.size
  have keep : ∀ b, b < base → w9.heap[b]? = X.heap[b]? := fun b hb' => (hg.block b (by omega) (fun e => by have := (hG1.ns.lt b e.symm).1; omega)).trans (hB.block b (by omega))
  have hb9 := hb.of_block (keep b9 l3)
  have hcs : w9.ownsRow base 9 1 (.slice D1 xs.length d1) xs.length (xs.map Value.string) := own_block hG1.cs fun k e => hg.block k (hG1.cs.lt k e).2 fun e2 => own_apart hG1.cs hG1.ns (by decide) e e2.symm
  have hl : (ys ++ [x]).length = ys.length + 1 := by simp
  have hm : (ys ++ [x]).map (Value.int .i64) = ys.map (Value.int .i64) ++ [.int .i64 x] := by simp
  refine ⟨hb9, (h.m4.of_block (keep bm l1)).setOther (a := ⟨b9, 1, none⟩) l8 _, (h.m8.of_block (keep b8 l2)).setOther (a := ⟨b9, 1, none⟩) l9 _, ⟨D1, d1, A9, c9, ?_, ?_⟩, ?_, l1, l2, l3, ?_, l5, l6, l7, l8, l9⟩
  · rw [hl]; exact set1 hb9
  · have : GM w9 base D1 d1 A9 c9 ⟨xs, ys ++ [x]⟩ := ⟨hcs, by show w9.ownsRow _ _ 1 (.slice A9 (ys ++ [x]).length c9) (ys ++ [x]).length ((ys ++ [x]).map (Value.int .i64)); rw [hl, hm]; exact ho⟩
    exact this.other l3 1 _
  · exact ((trans0 h.bel hB).grown hg (trans0 h.bel hB).size (fun k e => by have := (hG1.ns.lt k e).1; omega)).setCell (p := ⟨b9, 1, none⟩) l7 _
  · simp; omega
theorem OS.addS (h : OS w bm b8 b9 base u v xs ys X) (hb : B2 b9 (.slice D1 xs.length d1) (.slice D2 ys.length d2) X) (hG : GM X base D1 d1 D2 d2 ⟨xs, ys⟩) (hB : Below X.heap.size X X1) {x : ByteArray}
    (ho : w9.ownsRow base 9 1 (.slice A9 (xs.length + 1) c9) (xs.length + 1) (xs.map Value.string ++ [.string x])) (hg : X1.grownBy w9 (Value.slice D1 xs.length d1).ownBlock) :
    B2 b9 (.slice D1 xs.length d1) (.slice D2 ys.length d2) w9 ∧ OS w bm b8 b9 base u v (xs ++ [x]) ys (w9.setCell ⟨b9, 0, none⟩ (.slice A9 (xs.length + 1) c9)) := by
  obtain ⟨l1, l2, l3, l4, l5, l6, l7, l8, l9⟩ := h.lt
  have hG1 := hG.below hB
  have hs := hB.size
  have hs9 := hg.size
  have keep : ∀ b, b < base → w9.heap[b]? = X.heap[b]? := fun b hb' => (hg.block b (by omega) (fun e => by have := (hG1.cs.lt b e.symm).1; omega)).trans (hB.block b (by omega))
  have hb9 := hb.of_block (keep b9 l3)
  have hns : w9.ownsRow base 3 1 (.slice D2 ys.length d2) ys.length (ys.map (Value.int .i64)) := own_block hG1.ns fun k e => hg.block k (hG1.ns.lt k e).2 fun e2 => own_apart hG1.ns hG1.cs (by decide) e e2.symm
  have hl : (xs ++ [x]).length = xs.length + 1 := by simp
  have hm : (xs ++ [x]).map Value.string = xs.map Value.string ++ [.string x] := by simp
  refine ⟨hb9, (h.m4.of_block (keep bm l1)).setOther (a := ⟨b9, 0, none⟩) l8 _, (h.m8.of_block (keep b8 l2)).setOther (a := ⟨b9, 0, none⟩) l9 _, ⟨A9, c9, D2, d2, ?_, ?_⟩, ?_, l1, l2, l3, ?_, l5, l6, l7, l8, l9⟩
  · rw [hl]; exact set0 hb9
  · have : GM w9 base A9 c9 D2 d2 ⟨xs ++ [x], ys⟩ := ⟨by show w9.ownsRow _ _ 1 (.slice A9 (xs ++ [x]).length c9) (xs ++ [x]).length ((xs ++ [x]).map Value.string); rw [hl, hm]; exact ho, hns⟩
    exact this.other l3 0 _
  · exact ((trans0 h.bel hB).grown hg (trans0 h.bel hB).size (fun k e => by have := (hG1.cs.lt k e).1; omega)).setCell (p := ⟨b9, 0, none⟩) l7 _
  · simp; omega
/-- .. told at the end -/
theorem OS.tells (h : OS w bm b8 b9 base u v xs ys X) (hb : B2 b9 (.slice D1 xs.length d1) (.slice D2 ys.length d2) X) (hG : GM X base D1 d1 D2 d2 ⟨xs, ys⟩) :
    Tells 0 ⟨xs, ys⟩ w (.returned (.tuple #[.agg #[.slice D1 xs.length d1, .slice D2 ys.length d2], .int .i64 0])) ((X.setCell ⟨b8, 0, none⟩ (.slice D1 xs.length d1)).setCell ⟨b8, 1, none⟩ (.slice D2 ys.length d2)) :=
  ⟨D1, d1, D2, d2, rfl, (hG.set2 h.lt.2.1 _ _).more (Nat.le_trans h.lt.2.2.2.2.1 (Nat.le_of_lt h.lt.1)), below2 h.bel h.lt.2.2.2.2.2.1 _ _⟩
theorem OS.new {W1 : World} {t : TypeId} (h4 : B2 bm u v W1) (h8 : B2 b8 (.slice none 0 0) (.slice none 0 0) W1) (hB : Below w.heap.size w W1) (h5 : w.heap.size ≤ bm) (h6 : w.heap.size ≤ b8) :
    OS w bm b8 W1.heap.size (W1.heap.size + 1) u v [] [] (W1.alloc (.cells #[.slice none 0 0, .slice none 0 0] 26)) := by
  have hl4 := h4.lt
  have hl8 := h8.lt
  have := hB.size
  exact ⟨h4.below (al0 _ _), h8.below (al0 _ _), ⟨none, 0, none, 0, B2.new _ _ _, GM.non_ _ _⟩, trans0 hB (al0 _ _), by omega, by omega, by omega, by simp, h5, h6, this, by omega, by omega⟩
end
end Go.Proofs.Ytpijljbkdfjhcaa.spnCo
