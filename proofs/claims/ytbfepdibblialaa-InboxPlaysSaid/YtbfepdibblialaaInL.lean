/- A box in memory, the program's and the document's: worlds that change at blocks of one color alone; versions that nobody changes; what becomes of a box where one of its pieces is put anew. -/
import Derived.Test.YtbfepdibblialaaInM
import Derived.Test.YtbfepdibblialaaInW
import Derived.Test.YtbfepdibblialaaOrdCr
import Derived.Deep.OwnRows
import Derived.Maps.OwnOps
set_option linter.unusedVariables false
set_option linter.unusedSimpArgs false
set_option maxRecDepth 100000
namespace Go.Proofs.Ytbfepdibblialaa.inL
open Go.ChangeShapes Go.WideShapes Go.ChangeAt Go.RowKit Go.Deep
open opV chnM gen chnA chnR chnE ordA ordB ordC inM inW

/-! ### Worlds that change at blocks of one color -/
structure Chg (col : Nat → Nat) (c : Nat) (w w' : World) : Prop where
  os : w'.os = w.os
  tape : w'.tape = w.tape
  output : w'.output = w.output
  size : w.heap.size ≤ w'.heap.size
  block : ∀ k, k < w.heap.size → col k ≠ c → w'.heap[k]? = w.heap[k]?
/-- the colors of what was there stay -/
def Ext (w : World) (col col' : Nat → Nat) : Prop := ∀ k, k < w.heap.size → col' k = col k
theorem Ext.refl (w : World) (col : Nat → Nat) : Ext w col col := fun _ _ => rfl
theorem Ext.trans {w w1 : World} {c0 c1 c2 : Nat → Nat} (h1 : Ext w c0 c1) (hs : w.heap.size ≤ w1.heap.size) (h2 : Ext w1 c1 c2) : Ext w c0 c2 := fun k hk => (h2 k (by omega)).trans (h1 k hk)
theorem Chg.refl (col : Nat → Nat) (c : Nat) (w : World) : Chg col c w w := ⟨rfl, rfl, rfl, Nat.le_refl _, fun _ _ _ => rfl⟩
theorem Chg.of_below {w w' : World} (col : Nat → Nat) (c : Nat) (h : Below w.heap.size w w') : Chg col c w w' := ⟨h.os, h.tape, h.output, h.size, fun k hk _ => h.block k hk⟩
theorem Chg.trans {col col' : Nat → Nat} {c : Nat} {w w1 w2 : World} (h : Chg col c w w1) (he : Ext w col col') (h2 : Chg col' c w1 w2) : Chg col c w w2 :=
  ⟨h2.os.trans h.os, h2.tape.trans h.tape, h2.output.trans h.output, Nat.le_trans h.size h2.size, fun k hk hc => (h2.block k (Nat.lt_of_lt_of_le hk h.size) (by rw [he k hk]; exact hc)).trans (h.block k hk hc)⟩
theorem Chg.tran {col : Nat → Nat} {c : Nat} {w w1 w2 : World} (h : Chg col c w w1) (h2 : Chg col c w1 w2) : Chg col c w w2 := h.trans (Ext.refl _ _) h2
theorem Chg.then {col : Nat → Nat} {c : Nat} {w w1 w2 : World} (h : Chg col c w w1) (h2 : Below w1.heap.size w1 w2) : Chg col c w w2 := h.tran (Chg.of_below _ _ h2)
theorem Chg.below {col : Nat → Nat} {c B : Nat} {w w' : World} (h : Chg col c w w') (hB : B ≤ w.heap.size) (hc : ∀ k, k < B → col k ≠ c) : Below B w w' :=
  ⟨h.os, h.tape, h.output, h.size, fun k hk => h.block k (by omega) (hc k hk)⟩
theorem Chg.grown {col : Nat → Nat} {c : Nat} {w w' : World} {row : Option Nat} (hg : w.grownBy w' row) (hr : ∀ k, row = some k → col k = c) : Chg col c w w' :=
  ⟨hg.os, hg.tape, hg.output, hg.size, fun k hk hc => hg.block k hk (fun e => hc (hr k e.symm))⟩
theorem Chg.setCell {col : Nat → Nat} {c : Nat} {w0 w : World} (h : Chg col c w0 w) {p : Addr} (hp : col p.block = c) (u : Value) : Chg col c w0 (w.setCell p u) :=
  h.tran ⟨rfl, rfl, rfl, by rw [World.size_setCell]; exact Nat.le_refl _, fun k _ hc => Below.heap_setCell w p u k (fun e => hc (by rw [e]; exact hp))⟩
theorem Chg.alloc {col : Nat → Nat} {c : Nat} {w0 w : World} (h : Chg col c w0 w) (o : Obj) : Chg col c w0 (w.alloc o) := h.then ((Below.refl _ _).alloc (Nat.le_refl _) o)
theorem Chg.drew {col : Nat → Nat} {c : Nat} {w0 w : World} (h : Chg col c w0 w) : Chg col c w0 w.drew := ⟨h.os, h.tape, h.output, h.size, h.block⟩
def Fresh (col : Nat → Nat) (w : World) : Prop := ∀ k, w.heap.size ≤ k → col k = 0
theorem Fresh.up {col : Nat → Nat} {w w1 : World} (h : Fresh col w) (hs : w.heap.size ≤ w1.heap.size) : Fresh col w1 := fun k hk => h k (by omega)
/-! ### Versions that nobody changes any more -/
structure DV (col : Nat → Nat) (w : World) (m : MR) : Prop where
  hv : HV w m.A m.c m.vs
  sm : Sm m.vs
  co : m.vs = [] ∨ ∀ y, m.A = some y → col y.block = 0
theorem hv_block {w w1 : World} {A : Option Addr} {c : Nat} {l : List Ver} (h : HV w A c l) (hs : w.heap.size ≤ w1.heap.size) (hb : l = [] ∨ ∀ y, A = some y → w1.heap[y.block]? = w.heap[y.block]?) : HV w1 A c l := by
  refine { h with row := ?_ }
  rcases h.row with h0 | ⟨b, off, e, hlt, hc⟩
  · exact .inl h0
  · rcases hb with h0 | hb
    · exact .inl (by rw [h0]; rfl)
    · exact .inr ⟨b, off, e, by omega, fun i hi => (hc i hi).of_block (hb _ e)⟩
theorem hv_lt {w : World} {A : Option Addr} {c : Nat} {l : List Ver} (h : HV w A c l) (h0 : l ≠ []) {y : Addr} (e : A = some y) : y.block < w.heap.size := by
  obtain ⟨b, off, e2, hlt, _⟩ := h.at (i := 0) (List.length_pos_iff.2 h0)
  rw [e] at e2; cases e2
  exact hlt
theorem DV.go {col col' : Nat → Nat} {c : Nat} {w w1 : World} {m : MR} (h : DV col w m) (hg : Chg col c w w1) (hc : c ≠ 0) (he : Ext w col col') : DV col' w1 m := by
  by_cases h0 : m.vs = []
  · exact ⟨hv_block h.hv hg.size (.inl h0), h.sm, .inl h0⟩
  · have hco := h.co.resolve_left h0
    refine ⟨hv_block h.hv hg.size (.inr fun y e => hg.block _ (hv_lt h.hv h0 e) (by rw [hco y e]; exact fun e => hc e.symm)), h.sm, .inr fun y e => ?_⟩
    rw [he _ (hv_lt h.hv h0 e)]
    exact hco y e
theorem DV.below {col : Nat → Nat} {w w1 : World} {m : MR} (h : DV col w m) (hB : Below w.heap.size w w1) : DV col w1 m := h.go (Chg.of_below col 1 hB) (by omega) (Ext.refl _ _)
/-- a row of versions of the call's own, given away -/
theorem DV.of_gv {col : Nat → Nat} {w w1 : World} {m : MR} (h : GV w1 w.heap.size m.A m.c m.vs) (hs : m.vs.length * 64 ≤ 140737488355328) (hm : Sm m.vs) (hf : Fresh col w) : DV col w1 m := by
  refine ⟨h.hv hs, hm, ?_⟩
  by_cases h0 : m.vs = []
  · exact .inl h0
  · refine .inr fun y e => hf _ ?_
    rcases h.2 with ⟨e1, h2⟩ | ⟨g, cap, cur, e1, h2, _⟩
    · simp only [Value.slice.injEq] at e1; rw [e] at e1; cases e1.1
    · simp only [Value.slice.injEq] at e1; rw [e] at e1
      obtain ⟨e3, _, _⟩ := e1
      cases e3
      exact h2


def Cn (c : Nat) (col : Nat → Nat) (w : World) (col' : Nat → Nat) (w' : World) : Prop := Ext w col col' ∧ Fresh col' w' ∧ Chg col c w w'
theorem Cn.trans {c : Nat} {c0 c1 c2 : Nat → Nat} {w w1 w2 : World} (h : Cn c c0 w c1 w1) (k : Cn c c1 w1 c2 w2) : Cn c c0 w c2 w2 :=
  ⟨h.1.trans h.2.2.size k.1, k.2.1, h.2.2.trans h.1 k.2.2⟩
theorem Cn.below {c : Nat} {col : Nat → Nat} {w w1 : World} (hf : Fresh col w) (hB : Below w.heap.size w w1) : Cn c col w col w1 := ⟨Ext.refl _ _, hf.up hB.size, Chg.of_below _ _ hB⟩
theorem Cn.setCell {c : Nat} {c0 c1 : Nat → Nat} {w w1 : World} (h : Cn c c0 w c1 w1) {p : Addr} (hp : c1 p.block = c) (u : Value) : Cn c c0 w c1 (w1.setCell p u) :=
  h.trans ⟨Ext.refl _ _, h.2.1.up (by rw [World.size_setCell]; exact Nat.le_refl _), (Chg.refl _ _ _).setCell hp u⟩
def paintB (col : Nat → Nat) (v : Value) (c : Nat) (k : Nat) : Nat := if v.ownBlock = some k then c else col k
theorem app_col {col : Nat → Nat} {c : Nat} {w w' : World} {v v' : Value} (hf : Fresh col w) (hv : ∀ k, v.ownBlock = some k → col k = c) (hg : w.grownBy w' v.ownBlock)
    (hlt : ∀ k, v'.ownBlock = some k → k < w'.heap.size) (hat : v'.ownBlock = v.ownBlock ∨ v'.ownBlock = some w.heap.size) :
    Cn c col w (paintB col v' c) w' ∧ ∀ k, v'.ownBlock = some k → paintB col v' c k = c := by
  refine ⟨⟨fun k hk => ?_, fun k hk => ?_, Chg.grown hg hv⟩, fun k e => if_pos e⟩
  · unfold paintB
    by_cases e : v'.ownBlock = some k
    · rw [if_pos e]
      rcases hat with h1 | h1
      · rw [h1] at e; exact (hv k e).symm
      · rw [h1] at e; have := Option.some.inj e; omega
    · rw [if_neg e]
  · unfold paintB
    rw [if_neg (fun e => by have := hlt k e; omega)]
    exact hf k (by have := hg.size; omega)
/-! ### Blocks by their type -/
def Ty (w : World) (k : Nat) (t : TypeId) : Prop := ∃ cur, w.heap[k]? = some (.cells cur t (0, 0))
theorem Ty.ne {w : World} {k k2 : Nat} {t t2 : TypeId} (h : Ty w k t) (h2 : Ty w k2 t2) (hne : t ≠ t2) : k ≠ k2 := by
  rintro rfl
  obtain ⟨c1, e1⟩ := h
  obtain ⟨c2, e2⟩ := h2
  rw [e1] at e2
  simp at e2
  exact hne e2.2
theorem Ty.of_row {w : World} {p n : Nat} {t : TypeId} {f : Nat → Value} (h : w.rowIs p t n f) : Ty w p t := by obtain ⟨c, hc, _⟩ := h; exact ⟨c, hc⟩
theorem Ty.of_win {w : World} {base size n cap : Nat} {e : TypeId} {A : Option Addr} {xs : List Value} (h : Win w base e size A n cap xs) {k : Nat} (hk : (Value.slice A n cap).ownBlock = some k) : Ty w k e := (h.ty hk).2
section
variable {P : Program} {kT : TypeId} {R : Value → Option (DataW Unit × List MemPlace)} {w w1 : World} {b n : Nat} {D : DataW Unit}
theorem Ty.nmap {k : Nat} {t : TypeId} (h : Ty w k t) (h2 : w.ownsMap P kT R b n D) : k ≠ b := by
  rintro rfl
  obtain ⟨c1, e1⟩ := h
  obtain ⟨es, cl, e2, _⟩ := h2
  rw [e1] at e2
  cases e2
theorem map_block (h : w.ownsMap P kT R b n D) (e : w1.heap[b]? = w.heap[b]?) : w1.ownsMap P kT R b n D := by
  obtain ⟨es, cl, hb, hr⟩ := h
  exact ⟨es, cl, e.trans hb, hr⟩
end
abbrev TB : TypeId := 59
abbrev TD : TypeId := 49
theorem law3 : Maps.Keyed Try.prog 3 := Maps.int_keyed Try.underlying3
abbrev MapIs (w : World) (b n : Nat) (D : DM) : Prop := w.ownsMap Try.prog 3 (plainElem Try.prog 27) b n D
def bo (l : List Bool) : List Value := l.map Value.bool
theorem bo_len (l : List Bool) : (bo l).length = l.length := by simp [bo]
theorem bo_app (a b : List Bool) : bo (a ++ b) = bo a ++ bo b := by simp [bo]
theorem bo_set (l : List Bool) (i : Nat) (b : Bool) : bo (l.set i b) = (bo l).set i (.bool b) := by simp [bo, List.map_set]
theorem bo_drop (l : List Bool) (k : Nat) : bo (l.drop k) = (bo l).drop k := by simp [bo, List.map_drop]
theorem bo_at {l : List Bool} {i : Nat} {b : Bool} (h : l[i]? = some b) : (bo l)[i]? = some (.bool b) := by simp [bo, h]
theorem bo_one (l : List Bool) : ∀ u ∈ bo l, u.oneCell' = true := by
  intro u hu
  obtain ⟨x, _, rfl⟩ := List.mem_map.1 hu
  rfl
/-! ### The program's -/
def cB (ap : Int) (o i m : Value) (g : Int) (k : Nat) : Value := if k = 0 then .int .i64 ap else if k = 1 then o else if k = 2 then i else if k = 3 then m else .int .u64 g
theorem five {i : Nat} (hi : i < 5) : i = 0 ∨ i = 1 ∨ i = 2 ∨ i = 3 ∨ i = 4 := by omega
structure BoxM (col : Nat → Nat) (c : Nat) (w : World) (p : Nat) (ap : Int) (Ao : Option Addr) (co : Nat) (xo : List Bool) (Ai : Option Addr) (ci : Nat) (ms : List MR) (mb n : Nat) (D : DM) (g : Int) : Prop where
  row : w.rowIs p TB 5 (cB ap (.slice Ao xo.length co) (.slice Ai ms.length ci) (.map (some mb)) g)
  wo : Win w 0 4 1 Ao xo.length co (bo xo)
  wi : Win w 0 30 4 Ai ms.length ci (gl ms)
  mp : MapIs w mb n D
  dv : ∀ m ∈ ms, DV col w m
  cp : col p = c
  ko : ∀ k, (Value.slice Ao xo.length co).ownBlock = some k → col k = c
  ki : ∀ k, (Value.slice Ai ms.length ci).ownBlock = some k → col k = c
  km : col mb = c
section
variable {col col' : Nat → Nat} {c d : Nat} {w w1 w3 : World} {p : Nat} {ap : Int} {Ao A' Ai : Option Addr} {co c' ci : Nat} {xo xo' : List Bool} {ms ms' : List MR} {mb n n' : Nat} {D D' : DM} {g : Int}
theorem BoxM.other (h : BoxM col c w p ap Ao co xo Ai ci ms mb n D g) (hg : Chg col d w w1) (hd : d ≠ 0) (hcd : c ≠ d) (he : Ext w col col') : BoxM col' c w1 p ap Ao co xo Ai ci ms mb n D g where
  row := h.row.of_block (hg.block p h.row.lt (by rw [h.cp]; exact hcd))
  wo := h.wo.block fun k e => hg.block k (h.wo.lt e) (by rw [h.ko k e]; exact hcd)
  wi := h.wi.block fun k e => hg.block k (h.wi.lt e) (by rw [h.ki k e]; exact hcd)
  mp := map_block h.mp (hg.block mb h.mp.lt (by rw [h.km]; exact hcd))
  dv := fun m hm => (h.dv m hm).go hg hd he
  cp := (he p h.row.lt).trans h.cp
  ko := fun k e => (he k (h.wo.lt e)).trans (h.ko k e)
  ki := fun k e => (he k (h.wi.lt e)).trans (h.ki k e)
  km := (he mb h.mp.lt).trans h.km
theorem BoxM.below (h : BoxM col c w p ap Ao co xo Ai ci ms mb n D g) (hB : Below w.heap.size w w1) : BoxM col c w1 p ap Ao co xo Ai ci ms mb n D g := h.other (Chg.of_below col (c + 1) hB) (by omega) (by omega) (Ext.refl _ _)
theorem BoxM.cells (h : BoxM col c w p ap Ao co xo Ai ci ms mb n D g) : w.cell? ⟨p, 0, none⟩ = some (.int .i64 ap) ∧ w.cell? ⟨p, 1, none⟩ = some (.slice Ao xo.length co) ∧ w.cell? ⟨p, 2, none⟩ = some (.slice Ai ms.length ci) ∧ w.cell? ⟨p, 3, none⟩ = some (.map (some mb)) ∧ w.cell? ⟨p, 4, none⟩ = some (.int .u64 g) :=
  ⟨h.row.cell (i := 0) (by omega), h.row.cell (i := 1) (by omega), h.row.cell (i := 2) (by omega), h.row.cell (i := 3) (by omega), h.row.cell (i := 4) (by omega)⟩
theorem BoxM.fz (h : BoxM col c w p ap Ao co xo Ai ci ms mb n D g) (i : Nat) : w.frozen? ⟨p, i, none⟩ = false := h.row.frozen i
theorem BoxM.tp (h : BoxM col c w p ap Ao co xo Ai ci ms mb n D g) : Ty w p TB ∧ (∀ k, (Value.slice Ao xo.length co).ownBlock = some k → Ty w k 4) ∧ (∀ k, (Value.slice Ai ms.length ci).ownBlock = some k → Ty w k 30) :=
  ⟨Ty.of_row h.row, fun k e => Ty.of_win h.wo e, fun k e => Ty.of_win h.wi e⟩
/-- One cell of the struct is another one; the rows stay. -/
theorem BoxM.set_row (h : BoxM col c w p ap Ao co xo Ai ci ms mb n D g) (hc : c ≠ 0) (i : Nat) (v : Value) :
    Chg col c w (w.setCell ⟨p, i, none⟩ v) ∧ Win (w.setCell ⟨p, i, none⟩ v) 0 4 1 Ao xo.length co (bo xo) ∧ Win (w.setCell ⟨p, i, none⟩ v) 0 30 4 Ai ms.length ci (gl ms) ∧ MapIs (w.setCell ⟨p, i, none⟩ v) mb n D ∧ ∀ m, DV col w m → DV col (w.setCell ⟨p, i, none⟩ v) m := by
  have hg : Chg col c w (w.setCell ⟨p, i, none⟩ v) := (Chg.refl _ _ _).setCell h.cp _
  obtain ⟨t1, t2, t3⟩ := h.tp
  refine ⟨hg, h.wo.block fun k e => Below.heap_setCell _ _ _ _ ((t2 k e).ne t1 (by decide)), h.wi.block fun k e => Below.heap_setCell _ _ _ _ ((t3 k e).ne t1 (by decide)), map_block h.mp (Below.heap_setCell _ _ _ _ (t1.nmap h.mp).symm), fun m hm => hm.go hg hc (Ext.refl _ _)⟩
theorem BoxM.setA (h : BoxM col c w p ap Ao co xo Ai ci ms mb n D g) (hc : c ≠ 0) (a : Int) : Chg col c w (w.setCell ⟨p, 0, none⟩ (.int .i64 a)) ∧ BoxM col c (w.setCell ⟨p, 0, none⟩ (.int .i64 a)) p a Ao co xo Ai ci ms mb n D g := by
  obtain ⟨hg, h1, h2, h3, h4⟩ := h.set_row hc 0 (.int .i64 a)
  exact ⟨hg, { h with row := (h.row.set 0 _).congr fun i hi => (by rcases five hi with rfl | rfl | rfl | rfl | rfl <;> rfl), wo := h1, wi := h2, mp := h3, dv := fun m hm => h4 m (h.dv m hm) }⟩
theorem BoxM.setG (h : BoxM col c w p ap Ao co xo Ai ci ms mb n D g) (hc : c ≠ 0) (a : Int) : Chg col c w (w.setCell ⟨p, 4, none⟩ (.int .u64 a)) ∧ BoxM col c (w.setCell ⟨p, 4, none⟩ (.int .u64 a)) p ap Ao co xo Ai ci ms mb n D a := by
  obtain ⟨hg, h1, h2, h3, h4⟩ := h.set_row hc 4 (.int .u64 a)
  exact ⟨hg, { h with row := (h.row.set 4 _).congr fun i hi => (by rcases five hi with rfl | rfl | rfl | rfl | rfl <;> rfl), wo := h1, wi := h2, mp := h3, dv := fun m hm => h4 m (h.dv m hm) }⟩
/-- Another row of what was handed out, that lies there already. -/
theorem BoxM.setO (h : BoxM col c w p ap Ao co xo Ai ci ms mb n D g) (hc : c ≠ 0) (hw : Win w 0 4 1 A' xo'.length c' (bo xo')) (hk : ∀ k, (Value.slice A' xo'.length c').ownBlock = some k → col k = c) :
    Chg col c w (w.setCell ⟨p, 1, none⟩ (.slice A' xo'.length c')) ∧ BoxM col c (w.setCell ⟨p, 1, none⟩ (.slice A' xo'.length c')) p ap A' c' xo' Ai ci ms mb n D g := by
  obtain ⟨hg, h1, h2, h3, h4⟩ := h.set_row hc 1 (.slice A' xo'.length c')
  exact ⟨hg, { h with row := (h.row.set 1 _).congr fun i hi => (by rcases five hi with rfl | rfl | rfl | rfl | rfl <;> rfl), wo := hw.block fun k e => Below.heap_setCell _ _ _ _ ((Ty.of_win hw e).ne h.tp.1 (by decide)), wi := h2, mp := h3, dv := fun m hm => h4 m (h.dv m hm), ko := hk }⟩
theorem BoxM.setI (h : BoxM col c w p ap Ao co xo Ai ci ms mb n D g) (hc : c ≠ 0) (hw : Win w 0 30 4 A' ms'.length c' (gl ms')) (hk : ∀ k, (Value.slice A' ms'.length c').ownBlock = some k → col k = c) (hd : ∀ m ∈ ms', DV col w m) :
    Chg col c w (w.setCell ⟨p, 2, none⟩ (.slice A' ms'.length c')) ∧ BoxM col c (w.setCell ⟨p, 2, none⟩ (.slice A' ms'.length c')) p ap Ao co xo A' c' ms' mb n D g := by
  obtain ⟨hg, h1, h2, h3, h4⟩ := h.set_row hc 2 (.slice A' ms'.length c')
  exact ⟨hg, { h with row := (h.row.set 2 _).congr fun i hi => (by rcases five hi with rfl | rfl | rfl | rfl | rfl <;> rfl), wo := h1, wi := hw.block fun k e => Below.heap_setCell _ _ _ _ ((Ty.of_win hw e).ne h.tp.1 (by decide)), mp := h3, dv := fun m hm => h4 m (hd m hm), ki := hk }⟩
/-- A store into the row of what was handed out. -/
theorem BoxM.stO {bb oo j : Nat} (h : BoxM col c w p ap (some ⟨bb, oo, none⟩) co xo Ai ci ms mb n D g) (hc : c ≠ 0) (hj : j < xo.length) (b : Bool) :
    Chg col c w (w.setCell ⟨bb, oo + j, none⟩ (.bool b)) ∧ BoxM col c (w.setCell ⟨bb, oo + j, none⟩ (.bool b)) p ap (some ⟨bb, oo, none⟩) co (xo.set j b) Ai ci ms mb n D g := by
  have hkb := h.ko bb rfl
  obtain ⟨t1, t2, t3⟩ := h.tp
  have tb := t2 bb rfl
  have hg : Chg col c w (w.setCell ⟨bb, oo + j, none⟩ (.bool b)) := (Chg.refl _ _ _).setCell hkb _
  refine ⟨hg, { h with row := ?_, wo := ?_, wi := ?_, mp := ?_, dv := fun m hm => (h.dv m hm).go hg hc (Ext.refl _ _), ko := fun k e => h.ko k e }⟩
  · rw [List.length_set]; exact h.row.of_block (Below.heap_setCell _ _ _ _ (t1.ne tb (by decide)))
  · rw [List.length_set, bo_set]; exact h.wo.store (by omega) _
  · exact h.wi.block fun k e => Below.heap_setCell _ _ _ _ ((t3 k e).ne tb (by decide))
  · exact map_block h.mp (Below.heap_setCell _ _ _ _ (tb.nmap h.mp).symm)
/-- a whole commit laid at o of block g -/
abbrev put4o (w : World) (b o : Nat) (m : MR) : World := (((w.setCell ⟨b, o, none⟩ (.int .u64 m.ts)).setCell ⟨b, o + 1, none⟩ (.int .i64 m.dc)).setCell ⟨b, o + 2, none⟩ (.int .i64 m.tx)).setCell ⟨b, o + 3, none⟩ (.slice m.A m.vs.length m.c)
theorem put4o_other {b k : Nat} (h : k ≠ b) (w : World) (o : Nat) (m : MR) : (put4o w b o m).heap[k]? = w.heap[k]? := by
  unfold put4o
  rw [Below.heap_setCell _ _ _ _ h, Below.heap_setCell _ _ _ _ h, Below.heap_setCell _ _ _ _ h, Below.heap_setCell _ _ _ _ h]
theorem BoxM.stI0 {bb oo : Nat} {m0 : MR} (h : BoxM col c w p ap Ao co xo (some ⟨bb, oo, none⟩) ci ms mb n D g) (hc : c ≠ 0) (hj : 0 < ms.length) (hd : DV col w m0) :
    Chg col c w (put4o w bb oo m0) ∧ BoxM col c (put4o w bb oo m0) p ap Ao co xo (some ⟨bb, oo, none⟩) ci (ms.set 0 m0) mb n D g := by
  have hkb := h.ki bb rfl
  obtain ⟨t1, t2, t3⟩ := h.tp
  have tb := t3 bb rfl
  have hg : Chg col c w (put4o w bb oo m0) := ((((Chg.refl _ _ _).setCell (p := ⟨bb, oo, none⟩) hkb _).setCell (p := ⟨bb, oo + 1, none⟩) hkb _).setCell (p := ⟨bb, oo + 2, none⟩) hkb _).setCell (p := ⟨bb, oo + 3, none⟩) hkb _
  refine ⟨hg, { h with row := ?_, wo := ?_, wi := ?_, mp := ?_, dv := fun m hm => ?_, ki := fun k e => h.ki k e }⟩
  · rw [List.length_set]; exact h.row.of_block (put4o_other (t1.ne tb (by decide)) _ _ _)
  · exact h.wo.block fun k e => put4o_other ((t2 k e).ne tb (by decide)) _ _ _
  · have h1 := (((h.wi.store (j := 0) (by omega) (.int .u64 m0.ts)).store (j := 1) (by omega) (.int .i64 m0.dc)).store (j := 2) (by omega) (.int .i64 m0.tx)).store (j := 3) (by omega) (.slice m0.A m0.vs.length m0.c)
    rw [List.length_set]
    obtain ⟨x, l, rfl⟩ : ∃ x l, ms = x :: l := by
      cases ms with
      | nil => simp at hj
      | cons x l => exact ⟨x, l, rfl⟩
    exact h1
  · exact map_block h.mp (put4o_other (tb.nmap h.mp).symm _ _ _)
  · rcases List.mem_or_eq_of_mem_set hm with hm | rfl
    · exact (h.dv m hm).go hg hc (Ext.refl _ _)
    · exact hd.go hg hc (Ext.refl _ _)
/-- The map is another one. -/
theorem BoxM.turned (h : BoxM col c w p ap Ao co xo Ai ci ms mb n D g) (hc : c ≠ 0) (ht : w.grownBy w1 (some mb)) (hm : MapIs w1 mb n' D') : Chg col c w w1 ∧ BoxM col c w1 p ap Ao co xo Ai ci ms mb n' D' g := by
  have hg : Chg col c w w1 := Chg.grown ht fun k e => by cases e; exact h.km
  obtain ⟨t1, t2, t3⟩ := h.tp
  refine ⟨hg, { h with row := ?_, wo := ?_, wi := ?_, mp := hm, dv := fun m hm => (h.dv m hm).go hg hc (Ext.refl _ _) }⟩
  · exact h.row.of_block (ht.block p h.row.lt (fun e => t1.nmap h.mp (Option.some.inj e)))
  · exact h.wo.block fun k e => ht.block k (h.wo.lt e) (fun e2 => (t2 k e).nmap h.mp (Option.some.inj e2))
  · exact h.wi.block fun k e => ht.block k (h.wi.lt e) (fun e2 => (t3 k e).nmap h.mp (Option.some.inj e2))
/-- One more was handed out: the row is appended to, and laid into its cell. -/
theorem BoxM.grO (h : BoxM col c w p ap Ao co xo Ai ci ms mb n D g) (hc : c ≠ 0) (hf : Fresh col w) (hg : w.grownBy w3 (Value.slice Ao xo.length co).ownBlock) (hw : Win w3 0 4 1 A' xo'.length c' (bo xo'))
    (hat : (Value.slice A' xo'.length c').ownBlock = (Value.slice Ao xo.length co).ownBlock ∨ (Value.slice A' xo'.length c').ownBlock = some w.heap.size) :
    w3.cell? ⟨p, 1, none⟩ = some (.slice Ao xo.length co) ∧ w3.frozen? ⟨p, 1, none⟩ = false ∧ ∃ col', Cn c col w col' (w3.setCell ⟨p, 1, none⟩ (.slice A' xo'.length c')) ∧ BoxM col' c (w3.setCell ⟨p, 1, none⟩ (.slice A' xo'.length c')) p ap A' c' xo' Ai ci ms mb n D g := by
  obtain ⟨t1, t2, t3⟩ := h.tp
  obtain ⟨hC, hk⟩ := app_col hf h.ko hg (fun k e => hw.lt e) hat
  have hp : w3.heap[p]? = w.heap[p]? := hg.block p h.row.lt (fun e => (t2 p e.symm).ne t1 (by decide) rfl)
  have hr3 := h.row.of_block hp
  have hi3 : Win w3 0 30 4 Ai ms.length ci (gl ms) := h.wi.block fun k e => hg.block k (h.wi.lt e) (fun e2 => (t2 k e2.symm).ne (t3 k e) (by decide) rfl)
  have hm3 : MapIs w3 mb n D := map_block h.mp (hg.block mb h.mp.lt (fun e => (t2 mb e.symm).nmap h.mp rfl))
  have hx := hC.1
  have hg4 := hC.setCell (p := ⟨p, 1, none⟩) ((hx p h.row.lt).trans h.cp) (.slice A' xo'.length c')
  refine ⟨(World.cell?_of_block (a := ⟨p, 1, none⟩) hp).trans h.cells.2.1, (World.frozen?_of_block (a := ⟨p, 1, none⟩) hp).trans (h.fz 1), _, hg4, ?_⟩
  have hTp : Ty w3 p TB := Ty.of_row hr3
  exact {
    row := (hr3.set 1 _).congr fun i hi => (by rcases five hi with rfl | rfl | rfl | rfl | rfl <;> rfl)
    wo := hw.block fun k e => Below.heap_setCell _ _ _ _ ((Ty.of_win hw e).ne hTp (by decide))
    wi := hi3.block fun k e => Below.heap_setCell _ _ _ _ ((Ty.of_win hi3 e).ne hTp (by decide))
    mp := map_block hm3 (Below.heap_setCell _ _ _ _ (hTp.nmap hm3).symm)
    dv := fun m hm => (h.dv m hm).go hg4.2.2 hc hx
    cp := (hx p h.row.lt).trans h.cp
    ko := hk
    ki := fun k e => (hx k (h.wi.lt e)).trans (h.ki k e)
    km := (hx mb h.mp.lt).trans h.km }
/-- One more came. -/
theorem BoxM.grI (h : BoxM col c w p ap Ao co xo Ai ci ms mb n D g) (hc : c ≠ 0) (hf : Fresh col w) (hg : w.grownBy w3 (Value.slice Ai ms.length ci).ownBlock) (hw : Win w3 0 30 4 A' ms'.length c' (gl ms'))
    (hat : (Value.slice A' ms'.length c').ownBlock = (Value.slice Ai ms.length ci).ownBlock ∨ (Value.slice A' ms'.length c').ownBlock = some w.heap.size) (hd : ∀ m ∈ ms', DV col w m) :
    w3.cell? ⟨p, 2, none⟩ = some (.slice Ai ms.length ci) ∧ w3.frozen? ⟨p, 2, none⟩ = false ∧ ∃ col', Cn c col w col' (w3.setCell ⟨p, 2, none⟩ (.slice A' ms'.length c')) ∧ BoxM col' c (w3.setCell ⟨p, 2, none⟩ (.slice A' ms'.length c')) p ap Ao co xo A' c' ms' mb n D g := by
  obtain ⟨t1, t2, t3⟩ := h.tp
  obtain ⟨hC, hk⟩ := app_col hf h.ki hg (fun k e => hw.lt e) hat
  have hp : w3.heap[p]? = w.heap[p]? := hg.block p h.row.lt (fun e => (t3 p e.symm).ne t1 (by decide) rfl)
  have hr3 := h.row.of_block hp
  have hi3 : Win w3 0 4 1 Ao xo.length co (bo xo) := h.wo.block fun k e => hg.block k (h.wo.lt e) (fun e2 => (t3 k e2.symm).ne (t2 k e) (by decide) rfl)
  have hm3 : MapIs w3 mb n D := map_block h.mp (hg.block mb h.mp.lt (fun e => (t3 mb e.symm).nmap h.mp rfl))
  have hx := hC.1
  have hg4 := hC.setCell (p := ⟨p, 2, none⟩) ((hx p h.row.lt).trans h.cp) (.slice A' ms'.length c')
  refine ⟨(World.cell?_of_block (a := ⟨p, 2, none⟩) hp).trans h.cells.2.2.1, (World.frozen?_of_block (a := ⟨p, 2, none⟩) hp).trans (h.fz 2), _, hg4, ?_⟩
  have hTp : Ty w3 p TB := Ty.of_row hr3
  exact {
    row := (hr3.set 2 _).congr fun i hi => (by rcases five hi with rfl | rfl | rfl | rfl | rfl <;> rfl)
    wo := hi3.block fun k e => Below.heap_setCell _ _ _ _ ((Ty.of_win hi3 e).ne hTp (by decide))
    wi := hw.block fun k e => Below.heap_setCell _ _ _ _ ((Ty.of_win hw e).ne hTp (by decide))
    mp := map_block hm3 (Below.heap_setCell _ _ _ _ (hTp.nmap hm3).symm)
    dv := fun m hm => (hd m hm).go hg4.2.2 hc hx
    cp := (hx p h.row.lt).trans h.cp
    ko := fun k e => (hx k (h.wo.lt e)).trans (h.ko k e)
    ki := hk
    km := (hx mb h.mp.lt).trans h.km }
end
end Go.Proofs.Ytbfepdibblialaa.inL
