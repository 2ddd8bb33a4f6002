/- Commits in memory: rows of them, those that may be read, those of the call's own. -/
import Derived.Test.YtafocefbpkcoaaaOrdE
set_option linter.unusedVariables false
namespace Go.Proofs.Ytafocefbpkcoaaa.ordA
open Go.ChangeShapes Go.WideShapes Go.ChangeAt Go.RowKit Go.Deep
open opV chnM gen chnA chnR

/-- a commit, plainly: its mark, its versions -/
abbrev Rc := (Int × Int × Int) × List Ver
/-- a commit, and where its versions lie -/
structure MR where
  ts : Int
  dc : Int
  tx : Int
  vs : List Ver
  A : Option Addr
  c : Nat
instance : Inhabited MR := ⟨⟨0, 0, 0, [], none, 0⟩⟩
def MR.k (m : MR) : Int × Int × Int := (m.ts, m.dc, m.tx)
def MR.r (m : MR) : Rc := (m.k, m.vs)
/-- its cells, its value -/
def cR (m : MR) : List Value := [.int .u64 m.ts, .int .i64 m.dc, .int .i64 m.tx, .slice m.A m.vs.length m.c]
abbrev rv (m : MR) : Value := .agg #[.int .u64 m.ts, .int .i64 m.dc, .int .i64 m.tx, .slice m.A m.vs.length m.c]
theorem cR_len (m : MR) : (cR m).length = 4 := rfl
theorem cR_one (m : MR) : ∀ u ∈ cR m, u.oneCell' = true := by
  intro u hu
  simp only [cR, List.mem_cons, List.not_mem_nil, or_false] at hu
  rcases hu with rfl | rfl | rfl | rfl <;> rfl
/-- A commit lies at o of block b. -/
abbrev R4 (b o : Nat) (m : MR) (w : World) : Prop :=
  w.cell? ⟨b, o, none⟩ = some (.int .u64 m.ts) ∧ w.cell? ⟨b, o + 1, none⟩ = some (.int .i64 m.dc) ∧ w.cell? ⟨b, o + 2, none⟩ = some (.int .i64 m.tx) ∧ w.cell? ⟨b, o + 3, none⟩ = some (.slice m.A m.vs.length m.c)
theorem R4.keep {b o : Nat} {v : MR} {w w1 : World} (h : R4 b o v w) (hk : ∀ o, w1.cell? ⟨b, o, none⟩ = w.cell? ⟨b, o, none⟩) : R4 b o v w1 := by
  unfold R4 at *; rw [hk, hk, hk, hk]; exact h
theorem R4.lt {b o : Nat} {v : MR} {w : World} (h : R4 b o v w) : b < w.heap.size := World.block_lt_of_cell? _ _ h.1
theorem R4.below {b o : Nat} {v : MR} {w w1 : World} (h : R4 b o v w) (hb : Below w.heap.size w w1) : R4 b o v w1 := h.keep fun o => hb.cell (p := ⟨b, o, none⟩) h.lt
theorem R4.step {b o B : Nat} {v : MR} {w w1 : World} (h : R4 b o v w) (hb : Below B w w1) (hB : w.heap.size ≤ B) : R4 b o v w1 := h.keep fun o => hb.cell (p := ⟨b, o, none⟩) (Nat.lt_of_lt_of_le h.lt hB)
theorem R4.new (w : World) (m : MR) (t : TypeId) : R4 w.heap.size 0 m (w.alloc (.cells #[.int .u64 m.ts, .int .i64 m.dc, .int .i64 m.tx, .slice m.A m.vs.length m.c] t)) := by
  have h := fun (j : Nat) (u : Value) (hu : (#[.int .u64 m.ts, .int .i64 m.dc, .int .i64 m.tx, .slice m.A m.vs.length m.c] : Array Value)[j]? = some u) =>
    (cell_of_row _ _ j _ t (0, 0) (heap_alloc_new w (.cells #[.int .u64 m.ts, .int .i64 m.dc, .int .i64 m.tx, .slice m.A m.vs.length m.c] t))).trans hu
  exact ⟨h 0 _ rfl, h 1 _ rfl, h 2 _ rfl, h 3 _ rfl⟩
theorem R4.of_block {b o : Nat} {v : MR} {w w1 : World} (h : R4 b o v w) (e : w1.heap[b]? = w.heap[b]?) : R4 b o v w1 := h.keep fun o => World.cell?_of_block (a := ⟨b, o, none⟩) e
def gl (l : List MR) : List Value := (l.map cR).flatten
theorem gl_nil : gl [] = [] := rfl
theorem gl_cons (x : MR) (l : List MR) : gl (x :: l) = cR x ++ gl l := rfl
theorem gl_app (a b : List MR) : gl (a ++ b) = gl a ++ gl b := by simp [gl]
theorem gl_one (x : MR) : gl [x] = cR x := by simp [gl]
theorem gl_len : ∀ l : List MR, (gl l).length = l.length * 4
  | [] => by simp [gl]
  | x :: l => by rw [gl_cons, List.length_append, cR_len, gl_len l, List.length_cons]; omega
theorem gl_get : ∀ {l : List MR} {i j : Nat} {x : MR} {u : Value}, l[i]? = some x → (cR x)[j]? = some u → (gl l)[i * 4 + j]? = some u
  | [], _, _, _, _, h, _ => by simp at h
  | a :: r, 0, j, x, u, h, hu => by
    simp only [List.getElem?_cons_zero, Option.some.injEq] at h
    subst h
    have := (List.getElem?_eq_some_iff.1 hu).1
    rw [gl_cons, Nat.zero_mul, Nat.zero_add, List.getElem?_append_left this]
    exact hu
  | a :: r, i + 1, j, x, u, h, hu => by
    rw [gl_cons, List.getElem?_append_right (by rw [cR_len]; omega), cR_len, show (i + 1) * 4 + j - 4 = i * 4 + j by omega]
    exact gl_get (by simpa using h) hu
theorem gl_all (l : List MR) : ∀ u ∈ gl l, u.oneCell' = true := by
  intro u hu
  obtain ⟨y, hy, hu⟩ := List.mem_flatten.1 hu
  obtain ⟨x, _, rfl⟩ := List.mem_map.1 hy
  exact cR_one x u hu
theorem gl_take (l : List MR) (k : Nat) : gl (l.take k) = (gl l).take (k * 4) := by
  by_cases h : k ≤ l.length
  · have e : gl l = gl (l.take k) ++ gl (l.drop k) := by rw [← gl_app, List.take_append_drop]
    rw [e, List.take_left' (by rw [gl_len, List.length_take, Nat.min_eq_left h])]
  · rw [List.take_of_length_le (by omega), List.take_of_length_le (by rw [gl_len]; omega)]
theorem gl_drop (l : List MR) (k : Nat) : gl (l.drop k) = (gl l).drop (k * 4) := by
  by_cases h : k ≤ l.length
  · have e : gl l = gl (l.take k) ++ gl (l.drop k) := by rw [← gl_app, List.take_append_drop]
    rw [e, List.drop_left' (by rw [gl_len, List.length_take, Nat.min_eq_left h])]
  · rw [List.drop_of_length_le (by omega), List.drop_of_length_le (by rw [gl_len]; omega)]; rfl
/-- the cell k of the row l, whatever k -/
theorem gl_at {l : List MR} {k : Nat} {u : Value} (h : (gl l)[k]? = some u) : ∃ i j, k = i * 4 + j ∧ j < 4 ∧ i < l.length ∧ (cR (nt l i))[j]? = some u := by
  have hk := (List.getElem?_eq_some_iff.1 h).1
  rw [gl_len] at hk
  refine ⟨k / 4, k % 4, by omega, by omega, by omega, ?_⟩
  have hi : k / 4 < l.length := by omega
  have hj : k % 4 < (cR (nt l (k / 4))).length := by rw [cR_len]; omega
  have h2 := gl_get (l := l) (i := k / 4) (j := k % 4) (x := nt l (k / 4)) (u := (cR (nt l (k / 4)))[k % 4]) (by rw [List.getElem?_eq_getElem hi, nt_at hi]) (by rw [List.getElem?_eq_getElem hj])
  rw [show k / 4 * 4 + k % 4 = k by omega, h] at h2
  rw [List.getElem?_eq_getElem hj, h2]
theorem R4.at {b o j : Nat} {v : MR} {w : World} {u : Value} (h : R4 b o v w) (hu : (cR v)[j]? = some u) : w.cell? ⟨b, o + j, none⟩ = some u := by
  obtain ⟨h0, h1, h2, h3⟩ := h
  have hj : j < 4 := by have := (List.getElem?_eq_some_iff.1 hu).1; rw [cR_len] at this; exact this
  have hj' : j = 0 ∨ j = 1 ∨ j = 2 ∨ j = 3 := by omega
  rcases hj' with rfl | rfl | rfl | rfl <;> (simp only [cR, List.getElem?_cons_zero, List.getElem?_cons_succ, Option.some.injEq] at hu; subst hu; assumption)
theorem R4.of {b o : Nat} {v : MR} {w : World} (h : ∀ j u, (cR v)[j]? = some u → w.cell? ⟨b, o + j, none⟩ = some u) : R4 b o v w := ⟨h 0 _ rfl, h 1 _ rfl, h 2 _ rfl, h 3 _ rfl⟩

/-! ### A row that may be read -/
structure HR (w : World) (A : Option Addr) (c : Nat) (l : List MR) : Prop where
  row : l.length = 0 ∨ ∃ b off, A = some ⟨b, off, none⟩ ∧ b < w.heap.size ∧ ∀ i, i < l.length → R4 b (off + i * 4) (nt l i) w
  nil_ : A = none → c = 0
  le : l.length ≤ c
  top : c ≤ 9223372036854775807
  sm : l.length * 48 ≤ 140737488355328
section
variable {w w1 : World} {A : Option Addr} {c B base base' : Nat} {l : List MR}
theorem HR.step (h : HR w A c l) (hb : Below B w w1) (hB : w.heap.size ≤ B) : HR w1 A c l := by
  refine { h with row := h.row.imp id ?_ }
  rintro ⟨b, off, e, hlt, hc⟩
  exact ⟨b, off, e, by have := hb.size; omega, fun i hi => (hc i hi).step hb hB⟩
theorem HR.below (h : HR w A c l) (hb : Below w.heap.size w w1) : HR w1 A c l := h.step hb (Nat.le_refl _)
theorem HR.at (h : HR w A c l) {i : Nat} (hi : i < l.length) : ∃ b off, A = some ⟨b, off, none⟩ ∧ b < w.heap.size ∧ R4 b (off + i * 4) (nt l i) w := by
  rcases h.row with h | ⟨b, off, h1, h2, h3⟩
  · omega
  · exact ⟨b, off, h1, h2, h3 i hi⟩
theorem HR.stand (h : HR w A c l) : Stand w A l.length (gl l) := by
  rcases h.row with h0 | ⟨b, off, e, _, hc⟩
  · exact .inl h0
  · refine .inr ⟨_, e, fun k u hu => ?_⟩
    obtain ⟨i, j, rfl, hj, hi, hu⟩ := gl_at hu
    rw [add_plain, show off + (i * 4 + j) = off + i * 4 + j by omega]
    exact R4.at (hc i hi) hu
/-- a part of it -/
theorem HR.sub (h : HR w A c l) {i j : Nat} (hi : i ≤ j) (hj : j ≤ l.length) : (∃ A' c', HR w A' c' ((l.take j).drop i)) := by
  have hl : ((l.take j).drop i).length = j - i := by simp; omega
  rcases h.row with h0 | ⟨b, off, e, hlt, hc⟩
  · exact ⟨none, 0, ⟨.inl (by omega), fun _ => rfl, by omega, by omega, by omega⟩⟩
  · refine ⟨some ⟨b, off + i * 4, none⟩, j - i, ⟨.inr ⟨b, off + i * 4, rfl, hlt, fun k hk => ?_⟩, fun e => (by cases e), by omega, by have := h.le; have := h.top; omega, by have := h.sm; omega⟩⟩
    have : nt ((l.take j).drop i) k = nt l (i + k) := by
      rw [nt_at hk, nt_at (by omega), List.getElem_drop, List.getElem_take]
    rw [this, show off + i * 4 + k * 4 = off + (i + k) * 4 by omega]
    exact hc (i + k) (by omega)

/-! ### A row of the call's own -/
def GR (w : World) (base : Nat) (A : Option Addr) (c : Nat) (l : List MR) : Prop := w.ownsRow base 98 4 (.slice A l.length c) l.length (gl l)
theorem GR.more (h : GR w base A c l) (hb : base' ≤ base) : GR w base' A c l := own_more h hb
theorem GR.block (h : GR w base A c l) (e : ∀ k, (Value.slice A l.length c).ownBlock = some k → w1.heap[k]? = w.heap[k]?) : GR w1 base A c l := own_block h e
theorem GR.below (h : GR w base A c l) (hB : Below w.heap.size w w1) : GR w1 base A c l := h.block fun k e => hB.block k (h.lt k e).2
theorem GR.drew (h : GR w base A c l) : GR w.drew base A c l := h
theorem GR.nil_ (w : World) (base : Nat) : GR w base none 0 [] := World.ownsRow_nil _ _ _ 4
theorem GR.cap (h : GR w base A c l) : l.length ≤ c ∧ c ≤ 9223372036854775807 ∧ (A = none → c = 0) := by
  rcases h.2 with ⟨e, _⟩ | ⟨g, cap, cur, e, _, hg, hnc, hcm, hcs, htk⟩
  · simp only [Value.slice.injEq] at e
    obtain ⟨rfl, e2, rfl⟩ := e
    exact ⟨by omega, by omega, fun _ => rfl⟩
  · simp only [Value.slice.injEq] at e
    obtain ⟨rfl, e2, rfl⟩ := e
    exact ⟨hnc, by unfold maxLen at hcm; omega, fun h => by cases h⟩
theorem GR.hv (h : GR w base A c l) (hs : l.length * 48 ≤ 140737488355328) : HR w A c l := by
  have hc := h.cap
  refine ⟨?_, hc.2.2, hc.1, hc.2.1, hs⟩
  rcases h.2 with ⟨e, h0⟩ | ⟨g, cap, cur, e, _, hg, hnc, hcm, hcs, htk⟩
  · exact .inl h0
  · have h' := h
    unfold GR at h'
    rw [e] at h'
    simp only [Value.slice.injEq] at e
    obtain ⟨rfl, e2, rfl⟩ := e
    refine .inr ⟨g, 0, rfl, (Array.getElem?_eq_some_iff.1 hg).1, fun i hi => R4.of fun j u hu => ?_⟩
    have hj : j < 4 := by have := (List.getElem?_eq_some_iff.1 hu).1; rw [cR_len] at this; exact this
    rw [Nat.zero_add, h'.cellAt (i * 4 + j) (by omega)]
    exact gl_get (by rw [List.getElem?_eq_getElem hi, nt_at hi]) hu
theorem GR.other (h : GR w base A c l) {b : Nat} (hb : b < base) (i : Nat) (x : Value) : GR (w.setCell ⟨b, i, none⟩ x) base A c l :=
  h.block fun k e => Below.heap_setCell _ _ _ _ (by have := (h.lt k e).1; show k ≠ b; omega)
end
/-! ### A box of a commit, which may be written -/
abbrev P4 (b : Nat) (m : MR) (w : World) : Prop := w.rowIs b 98 4 (fun i => (cR m).getD i undef)
abbrev put4 (w : World) (b : Nat) (m : MR) : World := (((w.setCell ⟨b, 0, none⟩ (.int .u64 m.ts)).setCell ⟨b, 1, none⟩ (.int .i64 m.dc)).setCell ⟨b, 2, none⟩ (.int .i64 m.tx)).setCell ⟨b, 3, none⟩ (.slice m.A m.vs.length m.c)
section
variable {b B : Nat} {v u : MR} {w w0 w1 : World}
theorem P4.r4 (h : P4 b v w) : R4 b 0 v w := ⟨h.cell (i := 0) (by omega), h.cell (i := 1) (by omega), h.cell (i := 2) (by omega), h.cell (i := 3) (by omega)⟩
theorem P4.fz (h : P4 b v w) : w.frozen? ⟨b, 0, none⟩ = false ∧ w.frozen? ⟨b, 1, none⟩ = false ∧ w.frozen? ⟨b, 2, none⟩ = false ∧ w.frozen? ⟨b, 3, none⟩ = false := ⟨h.frozen 0, h.frozen 1, h.frozen 2, h.frozen 3⟩
theorem P4.below (h : P4 b v w) (hB : Below w.heap.size w w1) : P4 b v w1 := h.of_block (hB.block b h.lt)
theorem four {i : Nat} (hi : i < 4) : i = 0 ∨ i = 1 ∨ i = 2 ∨ i = 3 := by omega
theorem P4.new (w : World) (m : MR) : P4 w.heap.size m (w.alloc (.cells #[.int .u64 m.ts, .int .i64 m.dc, .int .i64 m.tx, .slice m.A m.vs.length m.c] 98)) := by
  have h := World.rowIs_alloc w #[.int .u64 m.ts, .int .i64 m.dc, .int .i64 m.tx, .slice m.A m.vs.length m.c] 98 (fun i => (cR m).getD i undef) (fun i hi => ?_)
  · exact h
  · rcases four (i := i) (by simpa using hi) with rfl | rfl | rfl | rfl <;> rfl
theorem P4.put (h : P4 b u w) (v : MR) : P4 b v (put4 w b v) :=
  ((((h.set 0 _).set 1 _).set 2 _).set 3 _).congr fun i hi => by rcases four hi with rfl | rfl | rfl | rfl <;> rfl
theorem P4.put3 (h : P4 b u w) (A : Option Addr) (c : Nat) : P4 b { u with A := A, c := c } (w.setCell ⟨b, 3, none⟩ (.slice A u.vs.length c)) :=
  (h.set 3 _).congr fun i hi => by rcases four hi with rfl | rfl | rfl | rfl <;> rfl
theorem put4_below (h : Below B w0 w) (hb : B ≤ b) (v : MR) : Below B w0 (put4 w b v) :=
  (((h.setCell (p := ⟨b, 0, none⟩) hb _).setCell (p := ⟨b, 1, none⟩) hb _).setCell (p := ⟨b, 2, none⟩) hb _).setCell (p := ⟨b, 3, none⟩) hb _
theorem put4_other {g k : Nat} (h : k ≠ g) (w : World) (v : MR) : (put4 w g v).heap[k]? = w.heap[k]? := by
  unfold put4
  rw [Below.heap_setCell _ _ _ _ h, Below.heap_setCell _ _ _ _ h, Below.heap_setCell _ _ _ _ h, Below.heap_setCell _ _ _ _ h]
end
theorem infoR : (Try.prog.info? 98).map (fun i => (i.zero, i.size, i.bytes)) = some (some (.agg #[.int .u64 0, .int .i64 0, .int .i64 0, .slice none 0 0]), 4, 48) := by kernel_rfl
end Go.Proofs.Ytafocefbpkcoaaa.ordA
