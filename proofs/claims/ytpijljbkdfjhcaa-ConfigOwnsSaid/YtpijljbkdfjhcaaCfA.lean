/- A configuration: plainly; its cells; a box of one in memory. -/
import Derived.Test.YtpijljbkdfjhcaaSpnA
import Derived.Laws.Rows
import Derived.Laws.ResultCell
import Derived.Laws.OwnMore
import Derived.Deep.RegionHeld3
import Derived.Deep.QuietTactic
import Derived.Deep.RegionLaw
import Derived.BigQuiet
import Derived.Lib.LazyBuf
import Derived.Deep.DeepCutAuto
set_option linter.unusedVariables false
set_option maxRecDepth 100000
namespace Go.Proofs.Ytpijljbkdfjhcaa.cfA
open Go.ChangeShapes Go.WideShapes Go.ChangeAt Go.RowKit Go.Deep
open spnM spnA

/-- a configuration -/
structure Cf where
  pool : Int
  nodes : Int
  me : Nat → Bool
  ms : Nat → M
  mo : Nat → Int
/-- where a map lies -/
structure Ar where
  A1 : Option Addr
  c1 : Nat
  A2 : Option Addr
  c2 : Nat
abbrev nAr : Ar := ⟨none, 0, none, 0⟩
abbrev Wh := Nat → Ar
def upd {α : Type} (f : Nat → α) (i : Nat) (x : α) : Nat → α := fun j => if j = i then x else f j
theorem upd_same {α : Type} (f : Nat → α) (i : Nat) (x : α) : upd f i x i = x := by unfold upd; rw [if_pos rfl]
theorem upd_other {α : Type} (f : Nat → α) {i j : Nat} (x : α) (h : j ≠ i) : upd f i x j = f j := by unfold upd; rw [if_neg h]
/-- its cells -/
def cS (s : Cf) (a : Wh) : Array Value := #[.int .i64 s.pool, .int .i64 s.nodes, .bool (s.me 0), .bool (s.me 1), .bool (s.me 2), .bool (s.me 3), .slice (a 0).A1 (s.ms 0).cs.length (a 0).c1, .slice (a 0).A2 (s.ms 0).ns.length (a 0).c2, .slice (a 1).A1 (s.ms 1).cs.length (a 1).c1, .slice (a 1).A2 (s.ms 1).ns.length (a 1).c2, .slice (a 2).A1 (s.ms 2).cs.length (a 2).c1, .slice (a 2).A2 (s.ms 2).ns.length (a 2).c2, .slice (a 3).A1 (s.ms 3).cs.length (a 3).c1, .slice (a 3).A2 (s.ms 3).ns.length (a 3).c2, .int .i64 (s.mo 0), .int .i64 (s.mo 1), .int .i64 (s.mo 2), .int .i64 (s.mo 3), .int .i64 (s.mo 4), .int .i64 (s.mo 5), .int .i64 (s.mo 6), .int .i64 (s.mo 7), .int .i64 (s.mo 8), .int .i64 (s.mo 9), .int .i64 (s.mo 10), .int .i64 (s.mo 11), .int .i64 (s.mo 12), .int .i64 (s.mo 13), .int .i64 (s.mo 14), .int .i64 (s.mo 15), .int .i64 (s.mo 16), .int .i64 (s.mo 17), .int .i64 (s.mo 18), .int .i64 (s.mo 19), .int .i64 (s.mo 20)]
theorem cS_size (s : Cf) (a : Wh) : (cS s a).size = 35 := rfl
theorem cS_one (s : Cf) (a : Wh) : (cS s a).all (·.oneCell') = true := by unfold cS; kernel_rfl
theorem cS_congr {s s' : Cf} {a a' : Wh} (h1 : s.pool = s'.pool) (h2 : s.nodes = s'.nodes) (h3 : ∀ i, i < 4 → s.me i = s'.me i) (h4 : ∀ i, i < 4 → s.ms i = s'.ms i) (h5 : ∀ i, i < 21 → s.mo i = s'.mo i) (h6 : ∀ i, i < 4 → a i = a' i) : cS s a = cS s' a' := by
  unfold cS
  rw [h1, h2, h3 0 (by omega), h3 1 (by omega), h3 2 (by omega), h3 3 (by omega), h4 0 (by omega), h4 1 (by omega), h4 2 (by omega), h4 3 (by omega), h5 0 (by omega), h5 1 (by omega), h5 2 (by omega), h5 3 (by omega), h5 4 (by omega), h5 5 (by omega), h5 6 (by omega), h5 7 (by omega), h5 8 (by omega), h5 9 (by omega), h5 10 (by omega), h5 11 (by omega), h5 12 (by omega), h5 13 (by omega), h5 14 (by omega), h5 15 (by omega), h5 16 (by omega), h5 17 (by omega), h5 18 (by omega), h5 19 (by omega), h5 20 (by omega), h6 0 (by omega), h6 1 (by omega), h6 2 (by omega), h6 3 (by omega)]
theorem four {j : Nat} (h : j < 4) : j = 0 ∨ j = 1 ∨ j = 2 ∨ j = 3 := by omega
theorem many {j : Nat} (h : j < 21) : j = 0 ∨ j = 1 ∨ j = 2 ∨ j = 3 ∨ j = 4 ∨ j = 5 ∨ j = 6 ∨ j = 7 ∨ j = 8 ∨ j = 9 ∨ j = 10 ∨ j = 11 ∨ j = 12 ∨ j = 13 ∨ j = 14 ∨ j = 15 ∨ j = 16 ∨ j = 17 ∨ j = 18 ∨ j = 19 ∨ j = 20 := by omega
section
variable (s : Cf) (a : Wh)
theorem cS_0 : (cS s a)[0]? = some (.int .i64 s.pool) := rfl
theorem cS_1 : (cS s a)[1]? = some (.int .i64 s.nodes) := rfl
theorem cS_me {j : Nat} (h : j < 4) : (cS s a)[2 + j]? = some (.bool (s.me j)) := by rcases four h with rfl | rfl | rfl | rfl <;> rfl
theorem cS_m1 {j : Nat} (h : j < 4) : (cS s a)[6 + j * 2]? = some (.slice (a j).A1 (s.ms j).cs.length (a j).c1) := by rcases four h with rfl | rfl | rfl | rfl <;> rfl
theorem cS_m2 {j : Nat} (h : j < 4) : (cS s a)[6 + j * 2 + 1]? = some (.slice (a j).A2 (s.ms j).ns.length (a j).c2) := by rcases four h with rfl | rfl | rfl | rfl <;> rfl
theorem cS_mo {j : Nat} (h : j < 21) : (cS s a)[14 + j]? = some (.int .i64 (s.mo j)) := by rcases many h with rfl | rfl | rfl | rfl | rfl | rfl | rfl | rfl | rfl | rfl | rfl | rfl | rfl | rfl | rfl | rfl | rfl | rfl | rfl | rfl | rfl <;> rfl
theorem set_me {j : Nat} (h : j < 4) (x : Bool) : (cS s a).setIfInBounds (2 + j) (.bool x) = cS { s with me := upd s.me j x } a := by rcases four h with rfl | rfl | rfl | rfl <;> rfl
theorem set_mo {j : Nat} (h : j < 21) (x : Int) : (cS s a).setIfInBounds (14 + j) (.int .i64 x) = cS { s with mo := upd s.mo j x } a := by rcases many h with rfl | rfl | rfl | rfl | rfl | rfl | rfl | rfl | rfl | rfl | rfl | rfl | rfl | rfl | rfl | rfl | rfl | rfl | rfl | rfl | rfl <;> rfl
theorem set_ma {j : Nat} (h : j < 4) (A1 : Option Addr) (c1 : Nat) (A2 : Option Addr) (c2 : Nat) (m : M) : ((cS s a).setIfInBounds (6 + j * 2) (.slice A1 m.cs.length c1)).setIfInBounds (6 + j * 2 + 1) (.slice A2 m.ns.length c2) = cS { s with ms := upd s.ms j m } (upd a j ⟨A1, c1, A2, c2⟩) := by rcases four h with rfl | rfl | rfl | rfl <;> rfl
end
/-- a box of one -/
def SB (T : TypeId) (b : Nat) (s : Cf) (a : Wh) (w : World) : Prop := w.heap[b]? = some (.cells (cS s a) T (0, 0))
section
variable {T : TypeId} {b B : Nat} {s : Cf} {a : Wh} {w w1 : World}
theorem SB.heap (h : SB T b s a w) : w.heap[b]? = some (.cells (cS s a) T (0, 0)) := h
theorem SB.lt (h : SB T b s a w) : b < w.heap.size := (Array.getElem?_eq_some_iff.1 h).1
theorem SB.new (T : TypeId) (s : Cf) (a : Wh) (w : World) : SB T w.heap.size s a (w.alloc (.cells (cS s a) T)) := heap_alloc_new w _
theorem SB.below (h : SB T b s a w) (hB : Below w.heap.size w w1) : SB T b s a w1 := (hB.block b h.lt).trans h
theorem SB.drew (h : SB T b s a w) : SB T b s a w.drew := h
theorem SB.fz (h : SB T b s a w) (i : Nat) : w.frozen? ⟨b, i, none⟩ = false := frozen_of_row w b i _ T h
theorem SB.c0 (h : SB T b s a w) : w.cell? ⟨b, 0, none⟩ = some (.int .i64 s.pool) := (cell_of_row w b _ _ T (0, 0) h).trans (cS_0 s a)
theorem SB.c1 (h : SB T b s a w) : w.cell? ⟨b, 1, none⟩ = some (.int .i64 s.nodes) := (cell_of_row w b _ _ T (0, 0) h).trans (cS_1 s a)
theorem SB.me (h : SB T b s a w) {j : Nat} (hj : j < 4) : w.cell? ⟨b, 2 + j, none⟩ = some (.bool (s.me j)) := (cell_of_row w b _ _ T (0, 0) h).trans (cS_me s a hj)
theorem SB.m1 (h : SB T b s a w) {j : Nat} (hj : j < 4) : w.cell? ⟨b, 6 + j * 2, none⟩ = some (.slice (a j).A1 (s.ms j).cs.length (a j).c1) := (cell_of_row w b _ _ T (0, 0) h).trans (cS_m1 s a hj)
theorem SB.m2 (h : SB T b s a w) {j : Nat} (hj : j < 4) : w.cell? ⟨b, 6 + j * 2 + 1, none⟩ = some (.slice (a j).A2 (s.ms j).ns.length (a j).c2) := (cell_of_row w b _ _ T (0, 0) h).trans (cS_m2 s a hj)
theorem SB.mo (h : SB T b s a w) {j : Nat} (hj : j < 21) : w.cell? ⟨b, 14 + j, none⟩ = some (.int .i64 (s.mo j)) := (cell_of_row w b _ _ T (0, 0) h).trans (cS_mo s a hj)
theorem SB.setMe (h : SB T b s a w) {j : Nat} (hj : j < 4) (x : Bool) : SB T b { s with me := upd s.me j x } a (w.setCell ⟨b, 2 + j, none⟩ (.bool x)) := by
  have := heap_setCell_same w b (2 + j) _ T (.bool x) h
  rwa [set_me s a hj x] at this
theorem SB.setMo (h : SB T b s a w) {j : Nat} (hj : j < 21) (x : Int) : SB T b { s with mo := upd s.mo j x } a (w.setCell ⟨b, 14 + j, none⟩ (.int .i64 x)) := by
  have := heap_setCell_same w b (14 + j) _ T (.int .i64 x) h
  rwa [set_mo s a hj x] at this
theorem SB.setMa (h : SB T b s a w) {j : Nat} (hj : j < 4) (A1 : Option Addr) (c1 : Nat) (A2 : Option Addr) (c2 : Nat) (m : M) : SB T b { s with ms := upd s.ms j m } (upd a j ⟨A1, c1, A2, c2⟩) ((w.setCell ⟨b, 6 + j * 2, none⟩ (.slice A1 m.cs.length c1)).setCell ⟨b, 6 + j * 2 + 1, none⟩ (.slice A2 m.ns.length c2)) := by
  have := heap_setCell_same _ b (6 + j * 2 + 1) _ T (.slice A2 m.ns.length c2) (heap_setCell_same w b (6 + j * 2) _ T (.slice A1 m.cs.length c1) h)
  rwa [set_ma s a hj] at this
theorem SB.other (h : SB T b s a w) {b' : Nat} (hb : b ≠ b') (i : Nat) (v : Value) : SB T b s a (w.setCell ⟨b', i, none⟩ v) := (heap_setCell_other w ⟨b', i, none⟩ b v hb).trans h
theorem SB.setRow (h : SB T b s a w) (s' : Cf) (a' : Wh) : SB T b s' a' (w.setRow b (cS s' a')) := setRow_heap w b _ _ T _ h
theorem SB.rowOther (h : SB T b s a w) {b' : Nat} (hb : b ≠ b') (c : Array Value) : SB T b s a (w.setRow b' c) := (setRow_other w b' b c hb).trans h
theorem below_setRow' {B b : Nat} {w0 w : World} (h : Below B w0 w) (hb : B ≤ b) (c : Array Value) : Below B w0 (w.setRow b c) :=
  ⟨h.os, h.tape, h.output, by rw [size_setRow]; exact h.size, fun i hi => (setRow_other w b i c (by omega)).trans (h.block i hi)⟩
end
end Go.Proofs.Ytpijljbkdfjhcaa.cfA
