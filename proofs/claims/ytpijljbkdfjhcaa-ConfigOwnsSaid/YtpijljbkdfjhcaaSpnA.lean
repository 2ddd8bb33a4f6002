/- What a walk is told of texts that are held against one another, of rows of one-celled things, and of a map in memory. -/
import Derived.Test.YtpijljbkdfjhcaaRows
import Derived.Test.YtpijljbkdfjhcaaSpnM
import Derived.WalkKit
import Derived.ProofKit
import Derived.OwnWalk
import Derived.Below
import Derived.Lib.Hide
import Derived.Lib.SmallJoins
import Derived.LoopTactic
import Derived.RangeFuncFrom
import Derived.Deep.OwnRows
namespace Go.Proofs.Ytpijljbkdfjhcaa.spnA
open Go.ChangeShapes Go.WideShapes Go.ChangeAt Go.RowKit
open spnM

theorem bin_slt (t : TypeId) (a b : ByteArray) : binOp .lss t (.string a) (.string b) = pure (.bool (slt a b)) := by simp [binOp, Op.stringOp, slt]
theorem bin_sle (t : TypeId) (a b : ByteArray) : binOp .leq t (.string a) (.string b) = pure (.bool (sle a b)) := by simp [binOp, Op.stringOp, slt, sle, seq]
theorem bin_sge (t : TypeId) (a b : ByteArray) : binOp .geq t (.string a) (.string b) = pure (.bool (!slt a b)) := by simp [binOp, Op.stringOp, slt]
theorem bin_seq (t : TypeId) (a b : ByteArray) : binOp .eql t (.string a) (.string b) = pure (.bool (seq a b)) := by simp [binOp, Op.stringOp, seq]
theorem bin_sne (t : TypeId) (a b : ByteArray) : binOp .neq t (.string a) (.string b) = pure (.bool (!seq a b)) := by simp [binOp, Op.stringOp, seq]

theorem wrap_in (n : Int) (h1 : -9223372036854775808 ≤ n) (h2 : n ≤ 9223372036854775807) : IntKind.i64.wrap n = n := IntWalk.i64_in _ ⟨h1, h2⟩
theorem al0 (w : World) (o : Obj) : Below w.heap.size w (w.alloc o) := (Below.refl _ _).alloc (Nat.le_refl _) o
theorem trans0 {w w1 w2 : World} (h1 : Below w.heap.size w w1) (h2 : Below w1.heap.size w1 w2) : Below w.heap.size w w2 := h1.trans (h2.mono h1.size)
theorem below_drew (w : World) : Below w.heap.size w w.drew := (Below.refl _ _).drew
theorem undrew {w w' : World} (h : Below w.drew.heap.size w.drew w') : Below w.heap.size w w' := ⟨h.os, h.tape, h.output, h.size, h.block⟩
theorem keep_cell {W W' : World} (hB : Below W.heap.size W W') {b o : Nat} {v : Value} (h : W.cell? ⟨b, o, none⟩ = some v) : W'.cell? ⟨b, o, none⟩ = some v :=
  (hB.cell (p := ⟨b, o, none⟩) (World.block_lt_of_cell? _ _ h)).trans h
theorem keep_frozen {W W' : World} (hB : Below W.heap.size W W') {b o : Nat} {v : Value} (h : W.cell? ⟨b, o, none⟩ = some v) (hf : W.frozen? ⟨b, o, none⟩ = false) : W'.frozen? ⟨b, o, none⟩ = false :=
  (hB.frozen (p := ⟨b, o, none⟩) (World.block_lt_of_cell? _ _ h)).trans hf
theorem cell_box (w : World) (v : Value) (t : TypeId) : (w.alloc (.cells #[v] t)).cell? ⟨w.heap.size, 0, none⟩ = some v := cell_of_row _ _ 0 #[v] t (0, 0) (heap_alloc_new w _)
theorem frozen_box (w : World) (v : Value) (t : TypeId) : (w.alloc (.cells #[v] t)).frozen? ⟨w.heap.size, 0, none⟩ = false := by simp
theorem cells2 (w : World) (u v : Value) (t : TypeId) : (w.alloc (.cells #[u, v] t)).cell? ⟨w.heap.size, 0, none⟩ = some u ∧ (w.alloc (.cells #[u, v] t)).cell? ⟨w.heap.size, 1, none⟩ = some v :=
  ⟨cell_of_row _ _ 0 #[u, v] t (0, 0) (heap_alloc_new w _), cell_of_row _ _ 1 #[u, v] t (0, 0) (heap_alloc_new w _)⟩
theorem cells3 (w : World) (u v x : Value) (t : TypeId) : (w.alloc (.cells #[u, v, x] t)).cell? ⟨w.heap.size, 0, none⟩ = some u ∧ (w.alloc (.cells #[u, v, x] t)).cell? ⟨w.heap.size, 1, none⟩ = some v ∧ (w.alloc (.cells #[u, v, x] t)).cell? ⟨w.heap.size, 2, none⟩ = some x :=
  ⟨cell_of_row _ _ 0 #[u, v, x] t (0, 0) (heap_alloc_new w _), cell_of_row _ _ 1 #[u, v, x] t (0, 0) (heap_alloc_new w _), cell_of_row _ _ 2 #[u, v, x] t (0, 0) (heap_alloc_new w _)⟩

/-! ### Rows -/
def nt {α : Type} [Inhabited α] (l : List α) (i : Nat) : α := l.getD i default
section
variable {α : Type} [Inhabited α] {f : α → Value} {w w1 : World} {a : Option Addr} {n : Nat} {l : List α}
theorem nt_at (h : n < l.length) : nt l n = l[n] := getD_at h _
theorem take_nt (h : n < l.length) : l.take (n + 1) = l.take n ++ [nt l n] := by rw [List.take_succ_eq_append_getElem h, nt_at h]
/-- The n cells at a are l. -/
def RL (f : α → Value) (w : World) (a : Option Addr) (n : Nat) (l : List α) : Prop :=
  l.length = n ∧ (n = 0 ∨ ∃ b off, a = some ⟨b, off, none⟩ ∧ b < w.heap.size ∧ ∀ i, i < n → w.cell? ⟨b, off + i, none⟩ = some (f (nt l i)))
theorem RL.at (h : RL f w a n l) {i : Nat} (hi : i < n) : ∃ b off, a = some ⟨b, off, none⟩ ∧ b < w.heap.size ∧ ∀ i, i < n → w.cell? ⟨b, off + i, none⟩ = some (f (nt l i)) := by
  rcases h.2 with h | h
  · omega
  · exact h
theorem RL.step {B : Nat} (h : RL f w a n l) (hb : Below B w w1) (hB : w.heap.size ≤ B) : RL f w1 a n l := by
  refine ⟨h.1, h.2.imp id ?_⟩
  rintro ⟨b, off, rfl, hlt, hc⟩
  refine ⟨b, off, rfl, by have := hb.size; omega, fun i hi => ?_⟩
  rw [hb.cell (p := ⟨b, off + i, none⟩) (show b < B by omega)]
  exact hc i hi
theorem RL.below (h : RL f w a n l) (hb : Below w.heap.size w w1) : RL f w1 a n l := h.step hb (Nat.le_refl _)
theorem RL.nil_ (f : α → Value) (w : World) (a : Option Addr) : RL f w a 0 [] := ⟨rfl, .inl rfl⟩
theorem RL.kept {W W' : World} {row : Option Nat} (h : RL f W a n l) (hg : W.grownBy W' row) (hr : ∀ r, row = some r → ∃ o : Obj, W.heap[r]? = some o ∧ o.isCells = false) : RL f W' a n l := by
  refine ⟨h.1, h.2.imp id ?_⟩
  rintro ⟨b, off, e, hlt, hc⟩
  exact ⟨b, off, e, by have := hg.size; omega, fun i hi => cell_kept (hc i hi) hg hr⟩
theorem RL.same (h : RL f w a n l) (hk : ∀ b off, a = some ⟨b, off, none⟩ → w1.heap[b]? = w.heap[b]?) : RL f w1 a n l := by
  refine ⟨h.1, ?_⟩
  rcases h.2 with h0 | ⟨b, off, e, hlt, hc⟩
  · exact .inl h0
  · by_cases h0 : n = 0
    · exact .inl h0
    · have hc' : ∀ i, i < n → w1.cell? ⟨b, off + i, none⟩ = some (f (nt l i)) := fun i hi => (World.cell?_of_block (a := ⟨b, off + i, none⟩) (hk b off e)).trans (hc i hi)
      exact .inr ⟨b, off, e, World.block_lt_of_cell? _ _ (hc' 0 (by omega)), hc'⟩
end

/-! ### A map in memory -/
def sv : ByteArray → Value := Value.string
def iv : Int → Value := Value.int .i64
/-- the map's value -/
def mv (A1 : Option Addr) (c1 : Nat) (A2 : Option Addr) (c2 : Nat) (m : M) : Value := .agg #[.slice A1 m.cs.length c1, .slice A2 m.ns.length c2]
structure HM (w : World) (A1 : Option Addr) (c1 : Nat) (A2 : Option Addr) (c2 : Nat) (m : M) : Prop where
  cs : RL Value.string w A1 m.cs.length m.cs
  ns : RL (Value.int .i64) w A2 m.ns.length m.ns
  n1 : A1 = none → c1 = 0
  n2 : A2 = none → c2 = 0
  l1 : m.cs.length ≤ c1
  l2 : m.ns.length ≤ c2
  b1 : c1 ≤ 9223372036854775807
  b2 : c2 ≤ 9223372036854775807
  s1 : m.cs.length * 16 ≤ 140737488351232
  s2 : m.ns.length * 8 ≤ 140737488351232
section
variable {w w1 : World} {A1 A2 : Option Addr} {c1 c2 B : Nat} {m : M}
theorem HM.step (h : HM w A1 c1 A2 c2 m) (hb : Below B w w1) (hB : w.heap.size ≤ B) : HM w1 A1 c1 A2 c2 m := { h with cs := h.cs.step hb hB, ns := h.ns.step hb hB }
theorem HM.below (h : HM w A1 c1 A2 c2 m) (hb : Below w.heap.size w w1) : HM w1 A1 c1 A2 c2 m := h.step hb (Nat.le_refl _)
end

/-! ### A map of the call's own -/
structure GM (w : World) (base : Nat) (A1 : Option Addr) (c1 : Nat) (A2 : Option Addr) (c2 : Nat) (m : M) : Prop where
  cs : w.ownsRow base 9 1 (.slice A1 m.cs.length c1) m.cs.length (m.cs.map Value.string)
  ns : w.ownsRow base 3 1 (.slice A2 m.ns.length c2) m.ns.length (m.ns.map (Value.int .i64))
theorem own_block {w w' : World} {base n sz : Nat} {t : TypeId} {v : Value} {xs : List Value} (h : w.ownsRow base t sz v n xs) (e : ∀ k, v.ownBlock = some k → w'.heap[k]? = w.heap[k]?) : w'.ownsRow base t sz v n xs := by
  refine ⟨h.1, ?_⟩
  rcases h.2 with h | ⟨g, cap, cur, rfl, h1, h2, h3⟩
  · exact .inl h
  · exact .inr ⟨g, cap, cur, rfl, h1, (e g rfl).trans h2, h3⟩
theorem own_more {w : World} {base base' n sz : Nat} {t : TypeId} {v : Value} {xs : List Value} (h : w.ownsRow base t sz v n xs) (hb : base' ≤ base) : w.ownsRow base' t sz v n xs := by
  refine ⟨h.1, ?_⟩
  rcases h.2 with h | ⟨g, cap, cur, rfl, h1, h2, h3⟩
  · exact .inl h
  · exact .inr ⟨g, cap, cur, rfl, by omega, h2, h3⟩
theorem own_below {w w' : World} {base n sz : Nat} {t : TypeId} {v : Value} {xs : List Value} (h : w.ownsRow base t sz v n xs) (hB : Below w.heap.size w w') : w'.ownsRow base t sz v n xs :=
  own_block h fun k e => hB.block k (h.lt k e).2
/-- A block has one type. -/
theorem own_apart {w : World} {b1 b2 n k s1 s2 : Nat} {t e : TypeId} {v u : Value} {xs ys : List Value} (h : w.ownsRow b1 t s1 v n xs) (ho : w.ownsRow b2 e s2 u k ys) (hne : t ≠ e) {b : Nat} (hb : v.ownBlock = some b) : u.ownBlock ≠ some b := by
  rcases h.2 with ⟨rfl, _⟩ | ⟨g, cap, cur, rfl, _, hg, _⟩
  · cases hb
  · rcases ho.2 with ⟨rfl, _⟩ | ⟨g', cap', cur', rfl, _, hg', _⟩
    · intro e; cases e
    · intro e1
      have e2 : g' = b := by simpa [Value.ownBlock] using e1
      have e3 : g = b := by simpa [Value.ownBlock] using hb
      subst e2 e3
      rw [hg] at hg'
      simp at hg'
      exact hne hg'.2
theorem row_apart {w : World} {p n k base sz : Nat} {t e : TypeId} {f : Nat → Value} {v : Value} {xs : List Value} (h : w.rowIs p t n f) (ho : w.ownsRow base e sz v k xs) (hne : t ≠ e) : v.ownBlock ≠ some p := by
  obtain ⟨c, hc, -, -⟩ := h
  rcases ho.2 with ⟨rfl, _⟩ | ⟨g, cap, cur, rfl, _, hg, _⟩
  · intro e; cases e
  · intro e1
    have e2 : g = p := by simpa [Value.ownBlock] using e1
    subst e2
    rw [hc] at hg
    simp at hg
    exact hne hg.2
theorem own_rl {α : Type} [Inhabited α] {f : α → Value} {w : World} {base n c : Nat} {t : TypeId} {A : Option Addr} {l : List α} (h : w.ownsRow base t 1 (.slice A n c) n (l.map f)) : RL f w A n l := by
  have hl : l.length = n := by have := h.1; simp at this; omega
  refine ⟨hl, ?_⟩
  rcases h.2 with ⟨e, rfl⟩ | ⟨g, cap, cur, e, _, hg, hnc, hcm, hcs, htk⟩
  · exact .inl rfl
  · cases e
    refine .inr ⟨g, 0, rfl, (Array.getElem?_eq_some_iff.1 hg).1, fun i hi => ?_⟩
    rw [Nat.zero_add, h.cellAt i (by omega), List.getElem?_map, List.getElem?_eq_getElem (by omega), nt_at (by omega)]
    rfl
theorem own_cap {w : World} {base n c : Nat} {t : TypeId} {A : Option Addr} {xs : List Value} (h : w.ownsRow base t 1 (.slice A n c) n xs) : n ≤ c ∧ c ≤ 9223372036854775807 ∧ (A = none → c = 0) := by
  rcases h.2 with ⟨e, rfl⟩ | ⟨g, cap, cur, e, _, hg, hnc, hcm, hcs, htk⟩
  · cases e; exact ⟨by omega, by omega, fun _ => rfl⟩
  · cases e; exact ⟨hnc, by unfold maxLen at hcm; omega, fun h => by cases h⟩
section
variable {w w1 : World} {A1 A2 : Option Addr} {c1 c2 base base' : Nat} {m : M}
theorem GM.hm (h : GM w base A1 c1 A2 c2 m) (h1 : m.cs.length * 16 ≤ 140737488351232) (h2 : m.ns.length * 8 ≤ 140737488351232) : HM w A1 c1 A2 c2 m :=
  ⟨own_rl h.cs, own_rl h.ns, (own_cap h.cs).2.2, (own_cap h.ns).2.2, (own_cap h.cs).1, (own_cap h.ns).1, (own_cap h.cs).2.1, (own_cap h.ns).2.1, h1, h2⟩
theorem GM.below (h : GM w base A1 c1 A2 c2 m) (hB : Below w.heap.size w w1) : GM w1 base A1 c1 A2 c2 m := ⟨own_below h.cs hB, own_below h.ns hB⟩
theorem GM.more (h : GM w base A1 c1 A2 c2 m) (hb : base' ≤ base) : GM w base' A1 c1 A2 c2 m := ⟨own_more h.cs hb, own_more h.ns hb⟩
theorem GM.other (h : GM w base A1 c1 A2 c2 m) {b : Nat} (hb : b < base) (i : Nat) (x : Value) : GM (w.setCell ⟨b, i, none⟩ x) base A1 c1 A2 c2 m :=
  ⟨own_block h.cs fun k e => Below.heap_setCell _ _ _ _ (by have := (h.cs.lt k e).1; show k ≠ b; omega), own_block h.ns fun k e => Below.heap_setCell _ _ _ _ (by have := (h.ns.lt k e).1; show k ≠ b; omega)⟩
theorem GM.non_ (w : World) (base : Nat) : GM w base none 0 none 0 non := ⟨World.ownsRow_nil _ _ _ 1, World.ownsRow_nil _ _ _ 1⟩
/-- What a call answers that makes a map. -/
def Gives (m : M) (w : World) (e : Ending) (w' : World) : Prop :=
  ∃ A1 c1 A2 c2, e = .returned (.agg #[.slice A1 m.cs.length c1, .slice A2 m.ns.length c2]) ∧ GM w' w.heap.size A1 c1 A2 c2 m ∧ Below w.heap.size w w'
/-- .. and an error beside it. -/
def Tells (E : Nat) (m : M) (w : World) (e : Ending) (w' : World) : Prop :=
  ∃ A1 c1 A2 c2, e = .returned (.tuple #[.agg #[.slice A1 m.cs.length c1, .slice A2 m.ns.length c2], .int .i64 E]) ∧ GM w' w.heap.size A1 c1 A2 c2 m ∧ Below w.heap.size w w'
/-- two cells of one block, which may be written -/
abbrev B2 (b : Nat) (u v : Value) (w : World) : Prop := w.rowIs b 26 2 (fun i => if i = 0 then u else v)
theorem B2.cells {b : Nat} {u v : Value} (h : B2 b u v w) : w.cell? ⟨b, 0, none⟩ = some u ∧ w.cell? ⟨b, 1, none⟩ = some v ∧ w.frozen? ⟨b, 0, none⟩ = false ∧ w.frozen? ⟨b, 1, none⟩ = false :=
  ⟨h.cell (i := 0) (by omega), h.cell (i := 1) (by omega), h.frozen 0, h.frozen 1⟩
theorem B2.below {b : Nat} {u v : Value} (h : B2 b u v w) (hB : Below w.heap.size w w1) : B2 b u v w1 := h.of_block (hB.block b h.lt)
theorem B2.new (w : World) (u v : Value) : B2 w.heap.size u v (w.alloc (.cells #[u, v] 26)) := by
  have h := World.rowIs_alloc w #[u, v] 26 (fun i => if i = 0 then u else v) (fun i hi => ?_)
  · exact h
  · have : i = 0 ∨ i = 1 := by simp at hi; omega
    rcases this with rfl | rfl <;> rfl
theorem B2.set2 {b b' : Nat} {u v : Value} (h : B2 b u v w) (hb : b ≠ b') (x y : Value) : B2 b u v ((w.setCell ⟨b', 0, none⟩ x).setCell ⟨b', 1, none⟩ y) :=
  (h.setOther (a := ⟨b', 0, none⟩) hb x).setOther (a := ⟨b', 1, none⟩) hb y
theorem B2.put {b : Nat} {u v : Value} (h : B2 b u v w) (x y : Value) : B2 b x y ((w.setCell ⟨b, 0, none⟩ x).setCell ⟨b, 1, none⟩ y) :=
  ((h.set 0 x).set 1 y).congr fun i hi => by
    have : i = 0 ∨ i = 1 := by omega
    rcases this with rfl | rfl <;> simp
theorem below2 {B b i j : Nat} {w0 w : World} (h : Below B w0 w) (hb : B ≤ b) (x y : Value) : Below B w0 ((w.setCell ⟨b, i, none⟩ x).setCell ⟨b, j, none⟩ y) :=
  (h.setCell (p := ⟨b, i, none⟩) hb x).setCell (p := ⟨b, j, none⟩) hb y
theorem GM.set2 (h : GM w base A1 c1 A2 c2 m) {b : Nat} (hb : b < base) (x y : Value) : GM ((w.setCell ⟨b, 0, none⟩ x).setCell ⟨b, 1, none⟩ y) base A1 c1 A2 c2 m := (h.other hb 0 x).other hb 1 y
end
end Go.Proofs.Ytpijljbkdfjhcaa.spnA
