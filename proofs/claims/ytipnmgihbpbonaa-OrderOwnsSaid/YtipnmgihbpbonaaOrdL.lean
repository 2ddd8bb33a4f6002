/- A log in memory: worlds that change at blocks of one color alone; versions that nobody changes; a log, and what becomes of it where one of its rows, or its bound, is put anew. -/
import Derived.Test.YtipnmgihbpbonaaOrdM
import Derived.Test.YtipnmgihbpbonaaOrdCr
import Derived.Deep.OwnRows
set_option linter.unusedVariables false
set_option linter.unusedSimpArgs false
set_option maxRecDepth 100000
namespace Go.Proofs.Ytipnmgihbpbonaa.ordL
open Go.ChangeShapes Go.WideShapes Go.ChangeAt Go.RowKit Go.Deep
open opV chnM gen chnA chnR chnE ordA ordB ordC ordM

/-! ### Worlds that change at blocks of one color -/
structure Chg (col : Nat → Nat) (c : Nat) (w w' : World) : Prop where
  os : w'.os = w.os
  tape : w'.tape = w.tape
  output : w'.output = w.output
  size : w.heap.size ≤ w'.heap.size
  block : ∀ k, k < w.heap.size → col k ≠ c → w'.heap[k]? = w.heap[k]?
/-- the colors of what was there stay -/
def Ext (w : World) (col col' : Nat → Nat) : Prop := ∀ k, k < w.heap.size → col' k = col k
theorem Ext.refl (w : World) (col : Nat → Nat) : Ext w col col := fun _ _ => rfl
theorem Ext.trans {w w1 : World} {c0 c1 c2 : Nat → Nat} (h1 : Ext w c0 c1) (hs : w.heap.size ≤ w1.heap.size) (h2 : Ext w1 c1 c2) : Ext w c0 c2 := fun k hk => (h2 k (by omega)).trans (h1 k hk)
theorem Chg.refl (col : Nat → Nat) (c : Nat) (w : World) : Chg col c w w := ⟨rfl, rfl, rfl, Nat.le_refl _, fun _ _ _ => rfl⟩
theorem Chg.of_below {w w' : World} (col : Nat → Nat) (c : Nat) (h : Below w.heap.size w w') : Chg col c w w' := ⟨h.os, h.tape, h.output, h.size, fun k hk _ => h.block k hk⟩
theorem Chg.trans {col col' : Nat → Nat} {c : Nat} {w w1 w2 : World} (h : Chg col c w w1) (he : Ext w col col') (h2 : Chg col' c w1 w2) : Chg col c w w2 :=
  ⟨h2.os.trans h.os, h2.tape.trans h.tape, h2.output.trans h.output, Nat.le_trans h.size h2.size, fun k hk hc => (h2.block k (Nat.lt_of_lt_of_le hk h.size) (by rw [he k hk]; exact hc)).trans (h.block k hk hc)⟩
theorem Chg.tran {col : Nat → Nat} {c : Nat} {w w1 w2 : World} (h : Chg col c w w1) (h2 : Chg col c w1 w2) : Chg col c w w2 := h.trans (Ext.refl _ _) h2
theorem Chg.then {col : Nat → Nat} {c : Nat} {w w1 w2 : World} (h : Chg col c w w1) (h2 : Below w1.heap.size w1 w2) : Chg col c w w2 := h.tran (Chg.of_below _ _ h2)
theorem Chg.below {col : Nat → Nat} {c B : Nat} {w w' : World} (h : Chg col c w w') (hB : B ≤ w.heap.size) (hc : ∀ k, k < B → col k ≠ c) : Below B w w' :=
  ⟨h.os, h.tape, h.output, h.size, fun k hk => h.block k (by omega) (hc k hk)⟩
theorem Chg.grown {col : Nat → Nat} {c : Nat} {w w' : World} {row : Option Nat} (hg : w.grownBy w' row) (hr : ∀ k, row = some k → col k = c) : Chg col c w w' :=
  ⟨hg.os, hg.tape, hg.output, hg.size, fun k hk hc => hg.block k hk (fun e => hc (hr k e.symm))⟩
theorem Chg.setCell {col : Nat → Nat} {c : Nat} {w0 w : World} (h : Chg col c w0 w) {p : Addr} (hp : col p.block = c) (u : Value) : Chg col c w0 (w.setCell p u) :=
  h.tran ⟨rfl, rfl, rfl, by rw [World.size_setCell]; exact Nat.le_refl _, fun k _ hc => Below.heap_setCell w p u k (fun e => hc (by rw [e]; exact hp))⟩
theorem Chg.alloc {col : Nat → Nat} {c : Nat} {w0 w : World} (h : Chg col c w0 w) (o : Obj) : Chg col c w0 (w.alloc o) := h.then ((Below.refl _ _).alloc (Nat.le_refl _) o)
theorem Chg.drew {col : Nat → Nat} {c : Nat} {w0 w : World} (h : Chg col c w0 w) : Chg col c w0 w.drew := ⟨h.os, h.tape, h.output, h.size, h.block⟩
def Fresh (col : Nat → Nat) (w : World) : Prop := ∀ k, w.heap.size ≤ k → col k = 0
theorem Fresh.up {col : Nat → Nat} {w w1 : World} (h : Fresh col w) (hs : w.heap.size ≤ w1.heap.size) : Fresh col w1 := fun k hk => h k (by omega)
/-! ### Versions that nobody changes any more -/
structure DV (col : Nat → Nat) (w : World) (m : MR) : Prop where
  hv : HV w m.A m.c m.vs
  sm : Sm m.vs
  co : m.vs = [] ∨ ∀ y, m.A = some y → col y.block = 0
theorem hv_block {w w1 : World} {A : Option Addr} {c : Nat} {l : List Ver} (h : HV w A c l) (hs : w.heap.size ≤ w1.heap.size) (hb : l = [] ∨ ∀ y, A = some y → w1.heap[y.block]? = w.heap[y.block]?) : HV w1 A c l := by
  refine { h with row := ?_ }
  rcases h.row with h0 | ⟨b, off, e, hlt, hc⟩
  · exact .inl h0
  · rcases hb with h0 | hb
    · exact .inl (by rw [h0]; rfl)
    · exact .inr ⟨b, off, e, by omega, fun i hi => (hc i hi).of_block (hb _ e)⟩
theorem hv_lt {w : World} {A : Option Addr} {c : Nat} {l : List Ver} (h : HV w A c l) (h0 : l ≠ []) {y : Addr} (e : A = some y) : y.block < w.heap.size := by
  obtain ⟨b, off, e2, hlt, _⟩ := h.at (i := 0) (List.length_pos_iff.2 h0)
  rw [e] at e2; cases e2
  exact hlt
theorem DV.go {col col' : Nat → Nat} {c : Nat} {w w1 : World} {m : MR} (h : DV col w m) (hg : Chg col c w w1) (hc : c ≠ 0) (he : Ext w col col') : DV col' w1 m := by
  by_cases h0 : m.vs = []
  · exact ⟨hv_block h.hv hg.size (.inl h0), h.sm, .inl h0⟩
  · have hco := h.co.resolve_left h0
    refine ⟨hv_block h.hv hg.size (.inr fun y e => hg.block _ (hv_lt h.hv h0 e) (by rw [hco y e]; exact fun e => hc e.symm)), h.sm, .inr fun y e => ?_⟩
    rw [he _ (hv_lt h.hv h0 e)]
    exact hco y e
theorem DV.below {col : Nat → Nat} {w w1 : World} {m : MR} (h : DV col w m) (hB : Below w.heap.size w w1) : DV col w1 m := h.go (Chg.of_below col 1 hB) (by omega) (Ext.refl _ _)
/-- a row of versions of the call's own, given away -/
theorem DV.of_gv {col : Nat → Nat} {w w1 : World} {m : MR} (h : GV w1 w.heap.size m.A m.c m.vs) (hs : m.vs.length * 64 ≤ 140737488355328) (hm : Sm m.vs) (hf : Fresh col w) : DV col w1 m := by
  refine ⟨h.hv hs, hm, ?_⟩
  by_cases h0 : m.vs = []
  · exact .inl h0
  · refine .inr fun y e => hf _ ?_
    rcases h.2 with ⟨e1, h2⟩ | ⟨g, cap, cur, e1, h2, _⟩
    · simp only [Value.slice.injEq] at e1; rw [e] at e1; cases e1.1
    · simp only [Value.slice.injEq] at e1; rw [e] at e1
      obtain ⟨e3, _, _⟩ := e1
      cases e3
      exact h2

/-! ### A log -/
theorem row_apart {w : World} {p n k base sz : Nat} {t e : TypeId} {f : Nat → Value} {v : Value} {xs : List Value} (h : w.rowIs p t n f) (ho : w.ownsRow base e sz v k xs) (hne : t ≠ e) : v.ownBlock ≠ some p := by
  obtain ⟨c, hc, -, -⟩ := h
  rcases ho.2 with ⟨rfl, _⟩ | ⟨g, cap, cur, rfl, _, hg, _⟩
  · intro e; cases e
  · intro e1
    have e2 : g = p := by simpa [Value.ownBlock] using e1
    subst e2
    rw [hc] at hg
    simp at hg
    exact hne hg.2
theorem own_apart {w : World} {b1 b2 n k s1 s2 : Nat} {t e : TypeId} {v u : Value} {xs ys : List Value} (h : w.ownsRow b1 t s1 v n xs) (ho : w.ownsRow b2 e s2 u k ys) (hne : t ≠ e) {b : Nat} (hb : v.ownBlock = some b) : u.ownBlock ≠ some b := by
  rcases h.2 with ⟨rfl, _⟩ | ⟨g, cap, cur, rfl, _, hg, _⟩
  · cases hb
  · rcases ho.2 with ⟨rfl, _⟩ | ⟨g', cap', cur', rfl, _, hg', _⟩
    · intro e; cases e
    · intro e1
      have e2 : g' = b := by simpa [Value.ownBlock] using e1
      have e3 : g = b := by simpa [Value.ownBlock] using hb
      subst e2 e3
      rw [hg] at hg'
      simp at hg'
      exact hne hg'.2
/-- the three cells of a log -/
def cG (v1 v2 : Value) (b : Int) (i : Nat) : Value := if i = 0 then v1 else if i = 1 then v2 else .int .u64 b
structure LogIs (T : TypeId) (col : Nat → Nat) (c : Nat) (w : World) (p : Nat) (L : Lg) (A1 : Option Addr) (c1 : Nat) (A2 : Option Addr) (c2 : Nat) (ms mw : List MR) : Prop where
  row : w.rowIs p T 3 (cG (.slice A1 ms.length c1) (.slice A2 mw.length c2) L.bd)
  o1 : GR w 0 A1 c1 ms
  o2 : GR w 0 A2 c2 mw
  d1 : ∀ m ∈ ms, DV col w m
  d2 : ∀ m ∈ mw, DV col w m
  e1 : ms.map MR.r = L.st
  e2 : mw.map MR.r = L.wt
  cp : col p = c
  ca : ∀ k, (Value.slice A1 ms.length c1).ownBlock = some k → col k = c
  cb : ∀ k, (Value.slice A2 mw.length c2).ownBlock = some k → col k = c
  ne : ∀ k, (Value.slice A1 ms.length c1).ownBlock = some k → (Value.slice A2 mw.length c2).ownBlock ≠ some k
  len : ms.length + mw.length ≤ 200
  tne : T ≠ 32
def LogAt (T : TypeId) (col : Nat → Nat) (c : Nat) (w : World) (p : Nat) (L : Lg) : Prop := ∃ A1 c1 A2 c2 ms mw, LogIs T col c w p L A1 c1 A2 c2 ms mw
section
variable {T : TypeId} {col col' : Nat → Nat} {c d : Nat} {w w1 w3 : World} {p : Nat} {L : Lg} {A1 A2 A' : Option Addr} {c1 c2 c' : Nat} {ms mw l' : List MR}
theorem GR.lt' (h : GR w 0 A' c' l') {k : Nat} (e : (Value.slice A' l'.length c').ownBlock = some k) : k < w.heap.size := (World.ownsRow.lt h k e).2
/-- A log stays while what another color has changes. -/
theorem LogIs.other (h : LogIs T col c w p L A1 c1 A2 c2 ms mw) (hg : Chg col d w w1) (hd : d ≠ 0) (hcd : c ≠ d) (he : Ext w col col') : LogIs T col' c w1 p L A1 c1 A2 c2 ms mw where
  row := h.row.of_block (hg.block p h.row.lt (by rw [h.cp]; exact hcd))
  o1 := h.o1.block fun k e => hg.block k (GR.lt' h.o1 e) (by rw [h.ca k e]; exact hcd)
  o2 := h.o2.block fun k e => hg.block k (GR.lt' h.o2 e) (by rw [h.cb k e]; exact hcd)
  d1 := fun m hm => (h.d1 m hm).go hg hd he
  d2 := fun m hm => (h.d2 m hm).go hg hd he
  e1 := h.e1
  e2 := h.e2
  cp := (he p h.row.lt).trans h.cp
  ca := fun k e => (he k (GR.lt' h.o1 e)).trans (h.ca k e)
  cb := fun k e => (he k (GR.lt' h.o2 e)).trans (h.cb k e)
  ne := h.ne
  len := h.len
  tne := h.tne
theorem LogIs.below (h : LogIs T col c w p L A1 c1 A2 c2 ms mw) (hB : Below w.heap.size w w1) : LogIs T col c w1 p L A1 c1 A2 c2 ms mw := h.other (Chg.of_below col (c + 1) hB) (by omega) (by omega) (Ext.refl _ _)
theorem LogIs.ext (h : LogIs T col c w p L A1 c1 A2 c2 ms mw) (he : Ext w col col') : LogIs T col' c w p L A1 c1 A2 c2 ms mw := h.other (Chg.refl col (c + 1) w) (by omega) (by omega) he
theorem LogAt.other (h : LogAt T col c w p L) (hg : Chg col d w w1) (hd : d ≠ 0) (hcd : c ≠ d) (he : Ext w col col') : LogAt T col' c w1 p L := by
  obtain ⟨A1, c1, A2, c2, ms, mw, h⟩ := h
  exact ⟨_, _, _, _, _, _, h.other hg hd hcd he⟩
theorem LogAt.below (h : LogAt T col c w p L) (hB : Below w.heap.size w w1) : LogAt T col c w1 p L := by
  obtain ⟨A1, c1, A2, c2, ms, mw, h⟩ := h
  exact ⟨_, _, _, _, _, _, h.below hB⟩
theorem LogAt.ext (h : LogAt T col c w p L) (he : Ext w col col') : LogAt T col' c w p L := by
  obtain ⟨A1, c1, A2, c2, ms, mw, h⟩ := h
  exact ⟨_, _, _, _, _, _, h.ext he⟩
theorem LogAt.lt (h : LogAt T col c w p L) : p < w.heap.size := by
  obtain ⟨A1, c1, A2, c2, ms, mw, h⟩ := h
  exact h.row.lt
theorem LogIs.cells (h : LogIs T col c w p L A1 c1 A2 c2 ms mw) : w.cell? ⟨p, 0, none⟩ = some (.slice A1 ms.length c1) ∧ w.cell? ⟨p, 1, none⟩ = some (.slice A2 mw.length c2) ∧ w.cell? ⟨p, 2, none⟩ = some (.int .u64 L.bd) :=
  ⟨h.row.cell (i := 0) (by omega), h.row.cell (i := 1) (by omega), h.row.cell (i := 2) (by omega)⟩
theorem LogIs.fz (h : LogIs T col c w p L A1 c1 A2 c2 ms mw) : w.frozen? ⟨p, 0, none⟩ = false ∧ w.frozen? ⟨p, 1, none⟩ = false ∧ w.frozen? ⟨p, 2, none⟩ = false := ⟨h.row.frozen 0, h.row.frozen 1, h.row.frozen 2⟩
/-- The bound is another one. -/
theorem LogIs.setB (h : LogIs T col c w p L A1 c1 A2 c2 ms mw) (hc : c ≠ 0) (b : Int) : Chg col c w (w.setCell ⟨p, 2, none⟩ (.int .u64 b)) ∧ LogIs T col c (w.setCell ⟨p, 2, none⟩ (.int .u64 b)) p ⟨L.st, L.wt, b⟩ A1 c1 A2 c2 ms mw := by
  have hg : Chg col c w (w.setCell ⟨p, 2, none⟩ (.int .u64 b)) := (Chg.refl _ _ _).setCell h.cp _
  have n1 := row_apart h.row h.o1 h.tne
  have n2 := row_apart h.row h.o2 h.tne
  refine ⟨hg, { h with row := ?_, o1 := ?_, o2 := ?_, d1 := fun m hm => (h.d1 m hm).go hg hc (Ext.refl _ _), d2 := fun m hm => (h.d2 m hm).go hg hc (Ext.refl _ _) }⟩
  · exact (h.row.set 2 _).congr fun i hi => by
      have : i = 0 ∨ i = 1 ∨ i = 2 := by omega
      rcases this with rfl | rfl | rfl <;> rfl
  · exact h.o1.block fun k e => Below.heap_setCell _ _ _ _ (by rintro rfl; exact n1 e)
  · exact h.o2.block fun k e => Below.heap_setCell _ _ _ _ (by rintro rfl; exact n2 e)
/-- the colors behind: the block of the row that is new is of the log's color -/
def colN (col : Nat → Nat) (v : Value) (c : Nat) (k : Nat) : Nat := if v.ownBlock = some k then c else col k
/-- Row 1 is another one, and is laid into its cell. -/
theorem LogIs.put1 (h : LogIs T col c w p L A1 c1 A2 c2 ms mw) (hc : c ≠ 0) (hf : Fresh col w) (hB : Below w.heap.size w w1) (hg : w1.grownBy w3 (Value.slice A1 ms.length c1).ownBlock) (ho : GR w3 0 A' c' l')
    (hat : ∀ k, (Value.slice A' l'.length c').ownBlock = some k → (Value.slice A1 ms.length c1).ownBlock = some k ∨ w.heap.size ≤ k)
    (hd : ∀ x ∈ l', DV col w x ∨ (GV w1 w.heap.size x.A x.c x.vs ∧ x.vs.length * 64 ≤ 140737488355328 ∧ Sm x.vs)) (hl : l'.length + mw.length ≤ 200) :
    Ext w col (colN col (Value.slice A' l'.length c') c) ∧ Fresh (colN col (Value.slice A' l'.length c') c) (w3.setCell ⟨p, 0, none⟩ (Value.slice A' l'.length c')) ∧ Chg col c w (w3.setCell ⟨p, 0, none⟩ (Value.slice A' l'.length c')) ∧ LogIs T (colN col (Value.slice A' l'.length c') c) c (w3.setCell ⟨p, 0, none⟩ (Value.slice A' l'.length c')) p ⟨l'.map MR.r, L.wt, L.bd⟩ A' c' A2 c2 l' mw := by
  have h1 := h.below hB
  have hsz := hB.size
  have hs3 := hg.size
  have npU : (Value.slice A1 ms.length c1).ownBlock ≠ some p := row_apart h1.row h1.o1 h.tne
  have npY : (Value.slice A2 mw.length c2).ownBlock ≠ some p := row_apart h1.row h1.o2 h.tne
  have hr3 : w3.rowIs p T 3 (cG (.slice A1 ms.length c1) (.slice A2 mw.length c2) L.bd) := h1.row.of_block (hg.block p h1.row.lt (fun e => npU e.symm))
  have npV : (Value.slice A' l'.length c').ownBlock ≠ some p := row_apart hr3 ho h.tne
  have hVlt := fun k (e : (Value.slice A' l'.length c').ownBlock = some k) => GR.lt' ho e
  have hext : Ext w col (colN col (Value.slice A' l'.length c') c) := fun k hk => by
    unfold colN
    split
    · rename_i e
      rcases hat k e with e2 | e2
      · exact (h.ca k e2).symm
      · omega
    · rfl
  have hchg : Chg col c w (w3.setCell ⟨p, 0, none⟩ (Value.slice A' l'.length c')) := ((Chg.of_below col c hB).tran (Chg.grown hg h.ca)).setCell h.cp _
  have hYV : ∀ k, (Value.slice A2 mw.length c2).ownBlock = some k → (Value.slice A' l'.length c').ownBlock ≠ some k := fun k e e2 => by
    rcases hat k e2 with e3 | e3
    · exact h.ne k e3 e
    · have := GR.lt' h.o2 e; omega
  refine ⟨hext, fun k hk => ?_, hchg, ?_⟩
  · rw [World.size_setCell] at hk
    unfold colN
    rw [if_neg (fun e => by have := hVlt k e; omega)]
    exact hf k (by omega)
  refine { row := ?_, o1 := ?_, o2 := ?_, d1 := ?_, d2 := ?_, e1 := rfl, e2 := h.e2, cp := (hext p h.row.lt).trans h.cp, ca := ?_, cb := ?_, ne := ?_, len := hl, tne := h.tne }
  · exact (hr3.set 0 _).congr fun i hi => by
      have : i = 0 ∨ i = 1 ∨ i = 2 := by omega
      rcases this with rfl | rfl | rfl <;> rfl
  · exact ho.block fun k e => Below.heap_setCell _ _ _ _ (by rintro rfl; exact npV e)
  · exact h1.o2.block fun k e => (Below.heap_setCell _ _ _ _ (by rintro rfl; exact npY e)).trans (hg.block k (GR.lt' h1.o2 e) (fun e2 => h.ne k e2.symm e))
  · intro x hx
    rcases hd x hx with hd | ⟨hG, hs, hm⟩
    · exact hd.go hchg hc hext
    · have hG3 : GV w3 w.heap.size x.A x.c x.vs := hG.block fun k e => hg.block k (World.ownsRow.lt hG k e).2 (fun e2 => by
        have q1 := (World.ownsRow.lt hG k e).1
        have q2 := GR.lt' h.o1 e2.symm
        omega)
      have hG4 : GV (w3.setCell ⟨p, 0, none⟩ (Value.slice A' l'.length c')) w.heap.size x.A x.c x.vs := hG3.other h.row.lt _ _
      have hd := DV.of_gv hG4 hs hm hf
      refine ⟨hd.hv, hd.sm, hd.co.imp id fun hy y e => ?_⟩
      unfold colN
      rw [if_neg]
      · exact hy y e
      · intro e2
        rcases hG3.2 with ⟨e3, _⟩ | ⟨g, cap, cur, e3, _⟩
        · simp only [Value.slice.injEq] at e3; rw [e] at e3; cases e3.1
        · have e4 := e3
          simp only [Value.slice.injEq] at e4; rw [e] at e4
          have e5 := e4.1
          cases e5
          exact own_apart ho hG3 (by decide) e2 (by rw [e3]; rfl)
  · exact fun m hm => (h.d2 m hm).go hchg hc hext
  · intro k e; unfold colN; rw [if_pos e]
  · exact fun k e => (hext k (GR.lt' h.o2 e)).trans (h.cb k e)
  · exact fun k e e2 => hYV k e2 e
/-- Row 2 is another one, and is laid into its cell. -/
theorem LogIs.put2 (h : LogIs T col c w p L A1 c1 A2 c2 ms mw) (hc : c ≠ 0) (hf : Fresh col w) (hB : Below w.heap.size w w1) (hg : w1.grownBy w3 (Value.slice A2 mw.length c2).ownBlock) (ho : GR w3 0 A' c' l')
    (hat : ∀ k, (Value.slice A' l'.length c').ownBlock = some k → (Value.slice A2 mw.length c2).ownBlock = some k ∨ w.heap.size ≤ k)
    (hd : ∀ x ∈ l', DV col w x ∨ (GV w1 w.heap.size x.A x.c x.vs ∧ x.vs.length * 64 ≤ 140737488355328 ∧ Sm x.vs)) (hl : ms.length + l'.length ≤ 200) :
    Ext w col (colN col (Value.slice A' l'.length c') c) ∧ Fresh (colN col (Value.slice A' l'.length c') c) (w3.setCell ⟨p, 1, none⟩ (Value.slice A' l'.length c')) ∧ Chg col c w (w3.setCell ⟨p, 1, none⟩ (Value.slice A' l'.length c')) ∧ LogIs T (colN col (Value.slice A' l'.length c') c) c (w3.setCell ⟨p, 1, none⟩ (Value.slice A' l'.length c')) p ⟨L.st, l'.map MR.r, L.bd⟩ A1 c1 A' c' ms l' := by
  have h1 := h.below hB
  have hsz := hB.size
  have hs3 := hg.size
  have npU : (Value.slice A2 mw.length c2).ownBlock ≠ some p := row_apart h1.row h1.o2 h.tne
  have npY : (Value.slice A1 ms.length c1).ownBlock ≠ some p := row_apart h1.row h1.o1 h.tne
  have hr3 : w3.rowIs p T 3 (cG (.slice A1 ms.length c1) (.slice A2 mw.length c2) L.bd) := h1.row.of_block (hg.block p h1.row.lt (fun e => npU e.symm))
  have npV : (Value.slice A' l'.length c').ownBlock ≠ some p := row_apart hr3 ho h.tne
  have hVlt := fun k (e : (Value.slice A' l'.length c').ownBlock = some k) => GR.lt' ho e
  have hext : Ext w col (colN col (Value.slice A' l'.length c') c) := fun k hk => by
    unfold colN
    split
    · rename_i e
      rcases hat k e with e2 | e2
      · exact (h.cb k e2).symm
      · omega
    · rfl
  have hchg : Chg col c w (w3.setCell ⟨p, 1, none⟩ (Value.slice A' l'.length c')) := ((Chg.of_below col c hB).tran (Chg.grown hg h.cb)).setCell h.cp _
  have hYV : ∀ k, (Value.slice A1 ms.length c1).ownBlock = some k → (Value.slice A' l'.length c').ownBlock ≠ some k := fun k e e2 => by
    rcases hat k e2 with e3 | e3
    · exact h.ne k e e3
    · have := GR.lt' h.o1 e; omega
  refine ⟨hext, fun k hk => ?_, hchg, ?_⟩
  · rw [World.size_setCell] at hk
    unfold colN
    rw [if_neg (fun e => by have := hVlt k e; omega)]
    exact hf k (by omega)
  refine { row := ?_, o1 := ?_, o2 := ?_, d1 := ?_, d2 := ?_, e1 := h.e1, e2 := rfl, cp := (hext p h.row.lt).trans h.cp, ca := ?_, cb := ?_, ne := ?_, len := hl, tne := h.tne }
  · exact (hr3.set 1 _).congr fun i hi => by
      have : i = 0 ∨ i = 1 ∨ i = 2 := by omega
      rcases this with rfl | rfl | rfl <;> rfl
  · exact h1.o1.block fun k e => (Below.heap_setCell _ _ _ _ (by rintro rfl; exact npY e)).trans (hg.block k (GR.lt' h1.o1 e) (fun e2 => h.ne k e e2.symm))
  · exact ho.block fun k e => Below.heap_setCell _ _ _ _ (by rintro rfl; exact npV e)
  · exact fun m hm => (h.d1 m hm).go hchg hc hext
  · intro x hx
    rcases hd x hx with hd | ⟨hG, hs, hm⟩
    · exact hd.go hchg hc hext
    · have hG3 : GV w3 w.heap.size x.A x.c x.vs := hG.block fun k e => hg.block k (World.ownsRow.lt hG k e).2 (fun e2 => by
        have q1 := (World.ownsRow.lt hG k e).1
        have q2 := GR.lt' h.o2 e2.symm
        omega)
      have hG4 : GV (w3.setCell ⟨p, 1, none⟩ (Value.slice A' l'.length c')) w.heap.size x.A x.c x.vs := hG3.other h.row.lt _ _
      have hd := DV.of_gv hG4 hs hm hf
      refine ⟨hd.hv, hd.sm, hd.co.imp id fun hy y e => ?_⟩
      unfold colN
      rw [if_neg]
      · exact hy y e
      · intro e2
        rcases hG3.2 with ⟨e3, _⟩ | ⟨g, cap, cur, e3, _⟩
        · simp only [Value.slice.injEq] at e3; rw [e] at e3; cases e3.1
        · have e4 := e3
          simp only [Value.slice.injEq] at e4; rw [e] at e4
          have e5 := e4.1
          cases e5
          exact own_apart ho hG3 (by decide) e2 (by rw [e3]; rfl)
  · exact fun k e => (hext k (GR.lt' h.o1 e)).trans (h.ca k e)
  · intro k e; unfold colN; rw [if_pos e]
  · exact fun k e e2 => hYV k e e2
end
end Go.Proofs.Ytipnmgihbpbonaa.ordL
