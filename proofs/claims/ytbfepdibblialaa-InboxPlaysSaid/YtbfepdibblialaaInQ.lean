/- The document's box in memory. -/
import Derived.Test.YtbfepdibblialaaInK
set_option linter.unusedVariables false
set_option linter.unusedSimpArgs false
set_option maxRecDepth 100000
namespace Go.Proofs.Ytbfepdibblialaa.inQ
open Go.ChangeShapes Go.WideShapes Go.ChangeAt Go.RowKit Go.Deep
open opG opV opR chnM gen chnA chnR chnE ordA ordB ordC ordCr ordE2 inM inW inL inN inP inPt inG inD inA inK

/-! ### Rows of hearts -/
def cH (x : Int × Int) : List Value := [.int .u64 x.1, .int .i64 x.2]
def hv (l : List (Int × Int)) : List Value := (l.map cH).flatten
theorem hv_app (a b : List (Int × Int)) : hv (a ++ b) = hv a ++ hv b := by simp [hv]
theorem hv_one (x : Int × Int) : hv [x] = cH x := by simp [hv]
theorem hv_get : ∀ {l : List (Int × Int)} {i j : Nat} {x : Int × Int} {u : Value}, l[i]? = some x → (cH x)[j]? = some u → (hv l)[i * 2 + j]? = some u
  | [], _, _, _, _, h, _ => by simp at h
  | a :: r, 0, j, x, u, h, hu => by
    simp only [List.getElem?_cons_zero, Option.some.injEq] at h
    subst h
    have := (List.getElem?_eq_some_iff.1 hu).1
    rw [show hv (a :: r) = cH a ++ hv r by simp [hv], Nat.zero_mul, Nat.zero_add, List.getElem?_append_left this]
    exact hu
  | a :: r, i + 1, j, x, u, h, hu => by
    rw [show hv (a :: r) = cH a ++ hv r by simp [hv], List.getElem?_append_right (by show 2 ≤ _; omega), show (i + 1) * 2 + j - (cH a).length = i * 2 + j by show (i + 1) * 2 + j - 2 = _; omega]
    exact hv_get (by simpa using h) hu
theorem cH_one (x : Int × Int) : ∀ u ∈ cH x, u.oneCell' = true := by
  intro u hu
  simp only [cH, List.mem_cons, List.not_mem_nil, or_false] at hu
  rcases hu with rfl | rfl <;> rfl
theorem infoH : (Try.prog.info? 65).map (fun i => (i.zero, i.size, i.bytes)) = some (some (.agg #[.int .u64 0, .int .i64 0]), 2, 16) := by kernel_rfl
/-! ### The document's -/
def cD (f : Int) (c : Value) (hd : Int) (d h : Value) (g : Int) (k : Nat) : Value := if k = 0 then .int .i64 f else if k = 1 then c else if k = 2 then .int .i64 hd else if k = 3 then d else if k = 4 then h else .int .u64 g
theorem six {i : Nat} (hi : i < 6) : i = 0 ∨ i = 1 ∨ i = 2 ∨ i = 3 ∨ i = 4 ∨ i = 5 := by omega
structure DocM (col : Nat → Nat) (c : Nat) (w : World) (q : Nat) (f : Int) (Ac : Option Addr) (cc : Nat) (ms : List MR) (hd : Int) (Ad : Option Addr) (cd : Nat) (xd : List Bool) (Ah : Option Addr) (ch : Nat) (hs : List (Int × Int)) (g : Int) : Prop where
  row : w.rowIs q TD 6 (cD f (.slice Ac ms.length cc) hd (.slice Ad xd.length cd) (.slice Ah hs.length ch) g)
  wc : Win w 0 30 4 Ac ms.length cc (gl ms)
  wd : Win w 0 4 1 Ad xd.length cd (bo xd)
  wh : Win w 0 65 2 Ah hs.length ch (hv hs)
  dv : ∀ m ∈ ms, DV col w m
  cq : col q = c
  kc : ∀ k, (Value.slice Ac ms.length cc).ownBlock = some k → col k = c
  kd : ∀ k, (Value.slice Ad xd.length cd).ownBlock = some k → col k = c
  kh : ∀ k, (Value.slice Ah hs.length ch).ownBlock = some k → col k = c
section
variable {col col' : Nat → Nat} {c d : Nat} {w w1 w3 : World} {q : Nat} {f hd g : Int} {Ac Ad Ah A' : Option Addr} {cc cd ch c' : Nat} {xd xd' : List Bool} {ms ms' : List MR} {hs hs' : List (Int × Int)}
theorem DocM.other (h : DocM col c w q f Ac cc ms hd Ad cd xd Ah ch hs g) (hg : Chg col d w w1) (hd0 : d ≠ 0) (hcd : c ≠ d) (he : Ext w col col') : DocM col' c w1 q f Ac cc ms hd Ad cd xd Ah ch hs g where
  row := h.row.of_block (hg.block q h.row.lt (by rw [h.cq]; exact hcd))
  wc := h.wc.block fun k e => hg.block k (h.wc.lt e) (by rw [h.kc k e]; exact hcd)
  wd := h.wd.block fun k e => hg.block k (h.wd.lt e) (by rw [h.kd k e]; exact hcd)
  wh := h.wh.block fun k e => hg.block k (h.wh.lt e) (by rw [h.kh k e]; exact hcd)
  dv := fun m hm => (h.dv m hm).go hg hd0 he
  cq := (he q h.row.lt).trans h.cq
  kc := fun k e => (he k (h.wc.lt e)).trans (h.kc k e)
  kd := fun k e => (he k (h.wd.lt e)).trans (h.kd k e)
  kh := fun k e => (he k (h.wh.lt e)).trans (h.kh k e)
theorem DocM.below (h : DocM col c w q f Ac cc ms hd Ad cd xd Ah ch hs g) (hB : Below w.heap.size w w1) : DocM col c w1 q f Ac cc ms hd Ad cd xd Ah ch hs g := h.other (Chg.of_below col (c + 1) hB) (by omega) (by omega) (Ext.refl _ _)
theorem DocM.cells (h : DocM col c w q f Ac cc ms hd Ad cd xd Ah ch hs g) : w.cell? ⟨q, 0, none⟩ = some (.int .i64 f) ∧ w.cell? ⟨q, 1, none⟩ = some (.slice Ac ms.length cc) ∧ w.cell? ⟨q, 2, none⟩ = some (.int .i64 hd) ∧ w.cell? ⟨q, 3, none⟩ = some (.slice Ad xd.length cd) ∧ w.cell? ⟨q, 4, none⟩ = some (.slice Ah hs.length ch) ∧ w.cell? ⟨q, 5, none⟩ = some (.int .u64 g) :=
  ⟨h.row.cell (i := 0) (by omega), h.row.cell (i := 1) (by omega), h.row.cell (i := 2) (by omega), h.row.cell (i := 3) (by omega), h.row.cell (i := 4) (by omega), h.row.cell (i := 5) (by omega)⟩
theorem DocM.fz (h : DocM col c w q f Ac cc ms hd Ad cd xd Ah ch hs g) (i : Nat) : w.frozen? ⟨q, i, none⟩ = false := h.row.frozen i
theorem DocM.tq (h : DocM col c w q f Ac cc ms hd Ad cd xd Ah ch hs g) : Ty w q TD := Ty.of_row h.row
theorem DocM.tc (h : DocM col c w q f Ac cc ms hd Ad cd xd Ah ch hs g) {k : Nat} (e : (Value.slice Ac ms.length cc).ownBlock = some k) : Ty w k 30 := Ty.of_win h.wc e
theorem DocM.td (h : DocM col c w q f Ac cc ms hd Ad cd xd Ah ch hs g) {k : Nat} (e : (Value.slice Ad xd.length cd).ownBlock = some k) : Ty w k 4 := Ty.of_win h.wd e
theorem DocM.th (h : DocM col c w q f Ac cc ms hd Ad cd xd Ah ch hs g) {k : Nat} (e : (Value.slice Ah hs.length ch).ownBlock = some k) : Ty w k 65 := Ty.of_win h.wh e
theorem DocM.setF (h : DocM col c w q f Ac cc ms hd Ad cd xd Ah ch hs g) (hc : c ≠ 0) (a : Int) : Chg col c w (w.setCell ⟨q, 2, none⟩ (.int .i64 a)) ∧ DocM col c (w.setCell ⟨q, 2, none⟩ (.int .i64 a)) q f Ac cc ms a Ad cd xd Ah ch hs g := by
  have hg : Chg col c w (w.setCell ⟨q, 2, none⟩ (.int .i64 a)) := (Chg.refl _ _ _).setCell h.cq _
  exact ⟨hg, { h with
    row := (h.row.set 2 _).congr fun i hi => (by rcases six hi with rfl | rfl | rfl | rfl | rfl | rfl <;> rfl)
    wc := h.wc.block fun k e => Below.heap_setCell _ _ _ _ ((h.tc e).ne h.tq (by decide))
    wd := h.wd.block fun k e => Below.heap_setCell _ _ _ _ ((h.td e).ne h.tq (by decide))
    wh := h.wh.block fun k e => Below.heap_setCell _ _ _ _ ((h.th e).ne h.tq (by decide))
    dv := fun m hm => (h.dv m hm).go hg hc (Ext.refl _ _) }⟩
theorem DocM.setG (h : DocM col c w q f Ac cc ms hd Ad cd xd Ah ch hs g) (hc : c ≠ 0) (a : Int) : Chg col c w (w.setCell ⟨q, 5, none⟩ (.int .u64 a)) ∧ DocM col c (w.setCell ⟨q, 5, none⟩ (.int .u64 a)) q f Ac cc ms hd Ad cd xd Ah ch hs a := by
  have hg : Chg col c w (w.setCell ⟨q, 5, none⟩ (.int .u64 a)) := (Chg.refl _ _ _).setCell h.cq _
  exact ⟨hg, { h with
    row := (h.row.set 5 _).congr fun i hi => (by rcases six hi with rfl | rfl | rfl | rfl | rfl | rfl <;> rfl)
    wc := h.wc.block fun k e => Below.heap_setCell _ _ _ _ ((h.tc e).ne h.tq (by decide))
    wd := h.wd.block fun k e => Below.heap_setCell _ _ _ _ ((h.td e).ne h.tq (by decide))
    wh := h.wh.block fun k e => Below.heap_setCell _ _ _ _ ((h.th e).ne h.tq (by decide))
    dv := fun m hm => (h.dv m hm).go hg hc (Ext.refl _ _) }⟩
theorem DocM.stD {bb oo j : Nat} (h : DocM col c w q f Ac cc ms hd (some ⟨bb, oo, none⟩) cd xd Ah ch hs g) (hc : c ≠ 0) (hj : j < xd.length) (b : Bool) :
    Chg col c w (w.setCell ⟨bb, oo + j, none⟩ (.bool b)) ∧ DocM col c (w.setCell ⟨bb, oo + j, none⟩ (.bool b)) q f Ac cc ms hd (some ⟨bb, oo, none⟩) cd (xd.set j b) Ah ch hs g := by
  have hkb := h.kd bb rfl
  have tb := h.td (k := bb) rfl
  have hg : Chg col c w (w.setCell ⟨bb, oo + j, none⟩ (.bool b)) := (Chg.refl _ _ _).setCell hkb _
  refine ⟨hg, { h with row := ?_, wc := ?_, wd := ?_, wh := ?_, dv := fun m hm => (h.dv m hm).go hg hc (Ext.refl _ _), kd := fun k e => h.kd k e }⟩
  · rw [List.length_set]; exact h.row.of_block (Below.heap_setCell _ _ _ _ (h.tq.ne tb (by decide)))
  · exact h.wc.block fun k e => Below.heap_setCell _ _ _ _ ((h.tc e).ne tb (by decide))
  · rw [List.length_set, bo_set]; exact h.wd.store (by omega) _
  · exact h.wh.block fun k e => Below.heap_setCell _ _ _ _ ((h.th e).ne tb (by decide))
theorem DocM.grc (h : DocM col c w q f Ac cc ms hd Ad cd xd Ah ch hs g) (hc : c ≠ 0) (hf : Fresh col w) (hg : w.grownBy w3 (Value.slice Ac ms.length cc).ownBlock) (hw : Win w3 0 30 4 A' ms'.length c' (gl ms'))
    (hat : (Value.slice A' ms'.length c').ownBlock = (Value.slice Ac ms.length cc).ownBlock ∨ (Value.slice A' ms'.length c').ownBlock = some w.heap.size) (hdv : ∀ m ∈ ms', DV col w m) :
    w3.cell? ⟨q, 1, none⟩ = some (.slice Ac ms.length cc) ∧ w3.frozen? ⟨q, 1, none⟩ = false ∧ ∃ col', Cn c col w col' (w3.setCell ⟨q, 1, none⟩ (.slice A' ms'.length c')) ∧ DocM col' c (w3.setCell ⟨q, 1, none⟩ (.slice A' ms'.length c')) q f A' c' ms' hd Ad cd xd Ah ch hs g := by
  obtain ⟨hC, hk⟩ := app_col hf h.kc hg (fun k e => hw.lt e) hat
  have hp : w3.heap[q]? = w.heap[q]? := hg.block q h.row.lt (fun e => (h.tc e.symm).ne h.tq (by decide) rfl)
  have hr3 := h.row.of_block hp
  have hx := hC.1
  have hg4 := hC.setCell (p := ⟨q, 1, none⟩) ((hx q h.row.lt).trans h.cq) (.slice A' ms'.length c')
  have hTp : Ty w3 q TD := Ty.of_row hr3
  have hd3 : Win w3 0 4 1 Ad xd.length cd (bo xd) := h.wd.block fun k e => hg.block k (h.wd.lt e) (fun e2 => (h.tc e2.symm).ne (h.td e) (by decide) rfl)
  have hh3 : Win w3 0 65 2 Ah hs.length ch (hv hs) := h.wh.block fun k e => hg.block k (h.wh.lt e) (fun e2 => (h.tc e2.symm).ne (h.th e) (by decide) rfl)
  refine ⟨(World.cell?_of_block (a := ⟨q, 1, none⟩) hp).trans h.cells.2.1, (World.frozen?_of_block (a := ⟨q, 1, none⟩) hp).trans (h.fz 1), _, hg4, ?_⟩
  exact {
    row := (hr3.set 1 _).congr fun i hi => (by rcases six hi with rfl | rfl | rfl | rfl | rfl | rfl <;> rfl)
    wc := hw.block fun k e => Below.heap_setCell _ _ _ _ ((Ty.of_win hw e).ne hTp (by decide))
    wd := hd3.block fun k e => Below.heap_setCell _ _ _ _ ((Ty.of_win hd3 e).ne hTp (by decide))
    wh := hh3.block fun k e => Below.heap_setCell _ _ _ _ ((Ty.of_win hh3 e).ne hTp (by decide))
    dv := fun m hm => (hdv m hm).go hg4.2.2 hc hx
    cq := (hx q h.row.lt).trans h.cq
    kc := hk
    kd := fun k e => (hx k (h.wd.lt e)).trans (h.kd k e)
    kh := fun k e => (hx k (h.wh.lt e)).trans (h.kh k e) }
theorem DocM.grd (h : DocM col c w q f Ac cc ms hd Ad cd xd Ah ch hs g) (hc : c ≠ 0) (hf : Fresh col w) (hg : w.grownBy w3 (Value.slice Ad xd.length cd).ownBlock) (hw : Win w3 0 4 1 A' xd'.length c' (bo xd'))
    (hat : (Value.slice A' xd'.length c').ownBlock = (Value.slice Ad xd.length cd).ownBlock ∨ (Value.slice A' xd'.length c').ownBlock = some w.heap.size) :
    w3.cell? ⟨q, 3, none⟩ = some (.slice Ad xd.length cd) ∧ w3.frozen? ⟨q, 3, none⟩ = false ∧ ∃ col', Cn c col w col' (w3.setCell ⟨q, 3, none⟩ (.slice A' xd'.length c')) ∧ DocM col' c (w3.setCell ⟨q, 3, none⟩ (.slice A' xd'.length c')) q f Ac cc ms hd A' c' xd' Ah ch hs g := by
  obtain ⟨hC, hk⟩ := app_col hf h.kd hg (fun k e => hw.lt e) hat
  have hp : w3.heap[q]? = w.heap[q]? := hg.block q h.row.lt (fun e => (h.td e.symm).ne h.tq (by decide) rfl)
  have hr3 := h.row.of_block hp
  have hx := hC.1
  have hg4 := hC.setCell (p := ⟨q, 3, none⟩) ((hx q h.row.lt).trans h.cq) (.slice A' xd'.length c')
  have hTp : Ty w3 q TD := Ty.of_row hr3
  have hc3 : Win w3 0 30 4 Ac ms.length cc (gl ms) := h.wc.block fun k e => hg.block k (h.wc.lt e) (fun e2 => (h.td e2.symm).ne (h.tc e) (by decide) rfl)
  have hh3 : Win w3 0 65 2 Ah hs.length ch (hv hs) := h.wh.block fun k e => hg.block k (h.wh.lt e) (fun e2 => (h.td e2.symm).ne (h.th e) (by decide) rfl)
  refine ⟨(World.cell?_of_block (a := ⟨q, 3, none⟩) hp).trans h.cells.2.2.2.1, (World.frozen?_of_block (a := ⟨q, 3, none⟩) hp).trans (h.fz 3), _, hg4, ?_⟩
  exact {
    row := (hr3.set 3 _).congr fun i hi => (by rcases six hi with rfl | rfl | rfl | rfl | rfl | rfl <;> rfl)
    wd := hw.block fun k e => Below.heap_setCell _ _ _ _ ((Ty.of_win hw e).ne hTp (by decide))
    wc := hc3.block fun k e => Below.heap_setCell _ _ _ _ ((Ty.of_win hc3 e).ne hTp (by decide))
    wh := hh3.block fun k e => Below.heap_setCell _ _ _ _ ((Ty.of_win hh3 e).ne hTp (by decide))
    dv := fun m hm => (h.dv m hm).go hg4.2.2 hc hx
    cq := (hx q h.row.lt).trans h.cq
    kd := hk
    kc := fun k e => (hx k (h.wc.lt e)).trans (h.kc k e)
    kh := fun k e => (hx k (h.wh.lt e)).trans (h.kh k e) }
theorem DocM.grh (h : DocM col c w q f Ac cc ms hd Ad cd xd Ah ch hs g) (hc : c ≠ 0) (hf : Fresh col w) (hg : w.grownBy w3 (Value.slice Ah hs.length ch).ownBlock) (hw : Win w3 0 65 2 A' hs'.length c' (hv hs'))
    (hat : (Value.slice A' hs'.length c').ownBlock = (Value.slice Ah hs.length ch).ownBlock ∨ (Value.slice A' hs'.length c').ownBlock = some w.heap.size) :
    w3.cell? ⟨q, 4, none⟩ = some (.slice Ah hs.length ch) ∧ w3.frozen? ⟨q, 4, none⟩ = false ∧ ∃ col', Cn c col w col' (w3.setCell ⟨q, 4, none⟩ (.slice A' hs'.length c')) ∧ DocM col' c (w3.setCell ⟨q, 4, none⟩ (.slice A' hs'.length c')) q f Ac cc ms hd Ad cd xd A' c' hs' g := by
  obtain ⟨hC, hk⟩ := app_col hf h.kh hg (fun k e => hw.lt e) hat
  have hp : w3.heap[q]? = w.heap[q]? := hg.block q h.row.lt (fun e => (h.th e.symm).ne h.tq (by decide) rfl)
  have hr3 := h.row.of_block hp
  have hx := hC.1
  have hg4 := hC.setCell (p := ⟨q, 4, none⟩) ((hx q h.row.lt).trans h.cq) (.slice A' hs'.length c')
  have hTp : Ty w3 q TD := Ty.of_row hr3
  have hc3 : Win w3 0 30 4 Ac ms.length cc (gl ms) := h.wc.block fun k e => hg.block k (h.wc.lt e) (fun e2 => (h.th e2.symm).ne (h.tc e) (by decide) rfl)
  have hd3 : Win w3 0 4 1 Ad xd.length cd (bo xd) := h.wd.block fun k e => hg.block k (h.wd.lt e) (fun e2 => (h.th e2.symm).ne (h.td e) (by decide) rfl)
  refine ⟨(World.cell?_of_block (a := ⟨q, 4, none⟩) hp).trans h.cells.2.2.2.2.1, (World.frozen?_of_block (a := ⟨q, 4, none⟩) hp).trans (h.fz 4), _, hg4, ?_⟩
  exact {
    row := (hr3.set 4 _).congr fun i hi => (by rcases six hi with rfl | rfl | rfl | rfl | rfl | rfl <;> rfl)
    wh := hw.block fun k e => Below.heap_setCell _ _ _ _ ((Ty.of_win hw e).ne hTp (by decide))
    wc := hc3.block fun k e => Below.heap_setCell _ _ _ _ ((Ty.of_win hc3 e).ne hTp (by decide))
    wd := hd3.block fun k e => Below.heap_setCell _ _ _ _ ((Ty.of_win hd3 e).ne hTp (by decide))
    dv := fun m hm => (h.dv m hm).go hg4.2.2 hc hx
    cq := (hx q h.row.lt).trans h.cq
    kh := hk
    kc := fun k e => (hx k (h.wc.lt e)).trans (h.kc k e)
    kd := fun k e => (hx k (h.wd.lt e)).trans (h.kd k e) }
end
def DocAt (col : Nat → Nat) (c : Nat) (w : World) (q : Nat) (S : Bx) : Prop :=
  ∃ Ac cc ms Ad cd Ah ch, DocM col c w q S.first Ac cc ms S.handed Ad cd S.done Ah ch S.hearts S.g ∧ ms.map MR.r = S.came
def DLv (col : Nat → Nat) (c : Nat) (q : Nat) (S : Bx) (w w' : World) : Prop := ∃ col', Cn c col w col' w' ∧ DocAt col' c w' q S
section
variable {col col' : Nat → Nat} {c d q : Nat} {S : Bx} {w w1 : World}
theorem DocAt.other (h : DocAt col c w q S) (hg : Chg col d w w1) (hd : d ≠ 0) (hcd : c ≠ d) (he : Ext w col col') : DocAt col' c w1 q S := by
  obtain ⟨Ac, cc, ms, Ad, cd, Ah, ch, h, hr⟩ := h
  exact ⟨_, _, _, _, _, _, _, h.other hg hd hcd he, hr⟩
theorem DocAt.below (h : DocAt col c w q S) (hB : Below w.heap.size w w1) : DocAt col c w1 q S := by
  obtain ⟨Ac, cc, ms, Ad, cd, Ah, ch, h, hr⟩ := h
  exact ⟨_, _, _, _, _, _, _, h.below hB, hr⟩
theorem dlv_stay (h : DocAt col c w q S) (hf : Fresh col w) (hB : Below w.heap.size w w1) : DLv col c q S w w1 := ⟨col, Cn.below hf hB, h.below hB⟩
end
end Go.Proofs.Ytbfepdibblialaa.inQ
