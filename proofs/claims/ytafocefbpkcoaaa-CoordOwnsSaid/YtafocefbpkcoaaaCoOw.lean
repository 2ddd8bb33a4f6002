/- CoordOwns, what holds between the steps: mine's copy, its blocks of a color of their own, their flags and nodes. -/
import Derived.Test.YtafocefbpkcoaaaCoS
import Derived.Test.YtafocefbpkcoaaaCoSt
set_option linter.unusedVariables false
set_option linter.unusedSimpArgs false
set_option maxRecDepth 100000
namespace Go.Proofs.Ytafocefbpkcoaaa.coOw
open Go.ChangeShapes Go.WideShapes Go.ChangeAt Go.RowKit Go.Deep
open opG opV chnM gen chnA chnR chnE ordA ordC coG coO coM coP coL coN coB coK coV coE coF coW coT coA coJ coS

/-! ### The copy -/
structure MI (w2 : World) (RS : List SR) (j : Nat) (A : Option Addr) (c : Nat) (ml : List SR) (X : World) : Prop where
  ro : coG.Own shS X w2.heap.size A c ml
  gv : ∀ r ∈ ml, GV X w2.heap.size r.A r.c r.vs
  es : ml.map SR.s = (RS.take j).map SR.s
  bel : Below w2.heap.size w2 X
section
variable {w2 X X1 w9 : World} {RS ml : List SR} {j c c9 : Nat} {A A9 : Option Addr} {r r0 : SR}
theorem MI.below (h : MI w2 RS j A c ml X) (hB : Below X.heap.size X X1) : MI w2 RS j A c ml X1 where
  ro := h.ro.below hB
  gv := fun r hr => (h.gv r hr).below hB
  es := h.es
  bel := trans0 h.bel hB
theorem MI.len (h : MI w2 RS j A c ml X) (hj : j ≤ RS.length) : ml.length = j := by
  have := congrArg List.length h.es
  simp at this
  omega
theorem MI.grow (h : MI w2 RS j A c ml X) (hB : Below X.heap.size X X1) (hr : RS[j]? = some r0) (G : GV X1 w2.heap.size r.A r.c r.vs) (es : r.s = r0.s) (ho : w9.ownsRow w2.heap.size 61 2 (.slice A9 (ml.length + 1) c9) (ml.length + 1) (shS.fl ml ++ cS r)) (hg : X1.grownBy w9 (Value.slice A ml.length c).ownBlock) :
    MI w2 RS (j + 1) A9 c9 (ml ++ [r]) w9 := by
  have h1 := h.below hB
  have hj := (List.getElem?_eq_some_iff.1 hr).1
  obtain ⟨k1, k2⟩ := rows_grow (S := shS) (by decide) h1.ro h1.gv G ho hg
  refine ⟨k1, k2, ?_, grown_below h1.bel hg (fun k e => (h1.ro.lt e).1) (h1.bel.size)⟩
  rw [List.map_append, h.es, List.take_succ_eq_append_getElem hj, List.map_append, (List.getElem?_eq_some_iff.1 hr).2]
  simp [es]
end

/-! ### Painted over -/
/-- a row of versions whose third cells are flags that may be painted -/
def Kb (lo hi : Nat) (W : World) (A : Option Addr) (n : Nat) : Prop := n = 0 ∨ ∃ g, A = some ⟨g, 0, none⟩ ∧ lo ≤ g ∧ g < hi ∧ ∀ j, j < n → (∃ t, W.cell? ⟨g, j * 6 + 2, none⟩ = some (.bool t)) ∧ W.frozen? ⟨g, j * 6 + 2, none⟩ = false
theorem kb_own {w : World} {base c : Nat} {A : Option Addr} {l : List Ver} (h : GV w base A c l) (hn : l.length * 64 ≤ 140737488355328) : Kb base w.heap.size w A l.length := by
  have hv := h.hv hn
  rcases h.2 with ⟨e, h0⟩ | ⟨g, cap, cur, e, hb, hg, _⟩
  · exact .inl h0
  · simp only [Value.slice.injEq] at e
    obtain ⟨rfl, -, rfl⟩ := e
    by_cases h0 : l.length = 0
    · exact .inl h0
    · refine .inr ⟨g, rfl, hb, (Array.getElem?_eq_some_iff.1 hg).1, fun j hj => ⟨?_, frozen_of_row w g _ cur _ hg⟩⟩
      obtain ⟨b, off, e1, _, hc⟩ := hv.at hj
      simp only [Option.some.injEq, Addr.mk.injEq, and_true] at e1
      obtain ⟨rfl, rfl⟩ := e1
      have := hc.2.2.1
      rw [Nat.zero_add] at this
      exact ⟨_, this⟩
section
variable {lo hi n g o : Nat} {A : Option Addr} {W W' : World} {t t' : Bool} {z z' : Int} {ml : List SR}
theorem Kb.set (h : Kb lo hi W A n) (hu : W.cell? ⟨g, o, none⟩ = some (.bool t)) : Kb lo hi (W.setCell ⟨g, o, none⟩ (.bool t')) A n := by
  refine h.imp id ?_
  rintro ⟨g', e, hb, hh, hc⟩
  refine ⟨g', e, hb, hh, fun j hj => ?_⟩
  obtain ⟨⟨t2, hcv⟩, hf⟩ := hc j hj
  refine ⟨?_, by rw [World.frozen?_setCell]; exact hf⟩
  by_cases he : (⟨g, o, none⟩ : Addr) = ⟨g', j * 6 + 2, none⟩
  · injection he with e1 e2
    subst e1 e2
    exact ⟨t', World.cell?_setCell_same' _ _ _ (by rw [hu]; rfl)⟩
  · exact ⟨t2, by rw [World.cell?_setCell_other _ _ _ _ he]; exact hcv⟩
theorem Kb.other (h : Kb lo hi W A n) (hu : W.cell? ⟨g, o, none⟩ = some (.int .i64 z)) (u : Value) : Kb lo hi (W.setCell ⟨g, o, none⟩ u) A n := by
  refine h.imp id ?_
  rintro ⟨g', e, hb, hh, hc⟩
  refine ⟨g', e, hb, hh, fun j hj => ?_⟩
  obtain ⟨⟨t2, hcv⟩, hf⟩ := hc j hj
  exact ⟨⟨t2, by rw [World.cell?_setCell_other _ _ _ _ (fun e => by rw [← e, hu] at hcv; cases hcv)]; exact hcv⟩, by rw [World.frozen?_setCell]; exact hf⟩
theorem Kb.keep (h : Kb lo hi W A n) (hk : ∀ k, lo ≤ k → k < hi → W'.heap[k]? = W.heap[k]?) : Kb lo hi W' A n := by
  refine h.imp id ?_
  rintro ⟨g', e, hb, hh, hc⟩
  refine ⟨g', e, hb, hh, fun j hj => ?_⟩
  obtain ⟨⟨t2, hcv⟩, hf⟩ := hc j hj
  have e2 := hk g' hb hh
  exact ⟨⟨t2, (World.cell?_of_block (a := ⟨g', j * 6 + 2, none⟩) e2).trans hcv⟩, (World.frozen?_of_block (a := ⟨g', j * 6 + 2, none⟩) e2).trans hf⟩
/-- mine, as far as it is read again -/
def KM (lo hi : Nat) (V : World) (A : Option Addr) (ml : List SR) : Prop := ml = [] ∨ ∃ g, A = some ⟨g, 0, none⟩ ∧ lo ≤ g ∧ g < hi ∧ ∀ i r, ml[i]? = some r →
  (∃ z, V.cell? ⟨g, i * 2, none⟩ = some (.int .i64 z)) ∧ V.frozen? ⟨g, i * 2, none⟩ = false ∧ V.cell? ⟨g, i * 2 + 1, none⟩ = some (.slice r.A r.vs.length r.c) ∧ Kb lo hi V r.A r.vs.length
theorem KM.flag (h : KM lo hi W A ml) (hu : W.cell? ⟨g, o, none⟩ = some (.bool t)) (t' : Bool) : KM lo hi (W.setCell ⟨g, o, none⟩ (.bool t')) A ml := by
  refine h.imp id ?_
  rintro ⟨g', e, hb, hh, hc⟩
  refine ⟨g', e, hb, hh, fun i r hr => ?_⟩
  obtain ⟨⟨z, h1⟩, h2, h3, h4⟩ := hc i r hr
  exact ⟨⟨z, by rw [World.cell?_setCell_other _ _ _ _ (fun e => by rw [← e, hu] at h1; cases h1)]; exact h1⟩, by rw [World.frozen?_setCell]; exact h2, by rw [World.cell?_setCell_other _ _ _ _ (fun e => by rw [← e, hu] at h3; cases h3)]; exact h3, h4.set hu⟩
theorem KM.node (h : KM lo hi W A ml) (hu : W.cell? ⟨g, o, none⟩ = some (.int .i64 z)) (z' : Int) : KM lo hi (W.setCell ⟨g, o, none⟩ (.int .i64 z')) A ml := by
  refine h.imp id ?_
  rintro ⟨g', e, hb, hh, hc⟩
  refine ⟨g', e, hb, hh, fun i r hr => ?_⟩
  obtain ⟨⟨z2, h1⟩, h2, h3, h4⟩ := hc i r hr
  refine ⟨?_, by rw [World.frozen?_setCell]; exact h2, by rw [World.cell?_setCell_other _ _ _ _ (fun e => by rw [← e, hu] at h3; cases h3)]; exact h3, h4.other hu _⟩
  by_cases he : (⟨g, o, none⟩ : Addr) = ⟨g', i * 2, none⟩
  · injection he with e1 e2
    subst e1 e2
    exact ⟨z', World.cell?_setCell_same' _ _ _ (by rw [hu]; rfl)⟩
  · exact ⟨z2, by rw [World.cell?_setCell_other _ _ _ _ he]; exact h1⟩
theorem KM.keep (h : KM lo hi W A ml) (hk : ∀ k, lo ≤ k → k < hi → W'.heap[k]? = W.heap[k]?) : KM lo hi W' A ml := by
  refine h.imp id ?_
  rintro ⟨g', e, hb, hh, hc⟩
  refine ⟨g', e, hb, hh, fun i r hr => ?_⟩
  obtain ⟨⟨z2, h1⟩, h2, h3, h4⟩ := hc i r hr
  have e2 := hk g' hb hh
  exact ⟨⟨z2, (World.cell?_of_block (a := ⟨g', i * 2, none⟩) e2).trans h1⟩, (World.frozen?_of_block (a := ⟨g', i * 2, none⟩) e2).trans h2, (World.cell?_of_block (a := ⟨g', i * 2 + 1, none⟩) e2).trans h3, h4.keep hk⟩
theorem km_of {w2 X : World} {RS : List SR} {j c : Nat} (h : MI w2 RS j A c ml X) (h8 : ∀ r ∈ ml, r.vs.length ≤ 8) : KM w2.heap.size X.heap.size X A ml := by
  by_cases h0 : ml = []
  · exact .inl h0
  · obtain ⟨g0, e0, b0, l0, -, -⟩ := h.ro.at_ (i := 0) (List.getElem?_eq_getElem (List.length_pos_iff.2 h0))
    refine .inr ⟨g0, e0, b0, l0, fun i r hr => ?_⟩
    obtain ⟨g, e1, _, _, hc, hf⟩ := h.ro.at_ hr
    rw [e0] at e1
    cases e1
    have := h8 r (List.mem_of_getElem? hr)
    exact ⟨⟨_, hc 0 _ rfl⟩, hf _, hc 1 _ rfl, kb_own (h.gv r (List.mem_of_getElem? hr)) (by omega)⟩
def XK (lo hi : Nat) (A : Option Addr) (ml : List SR) : Wh := fun col V => (∀ k, lo ≤ k → k < hi → col k = 3) ∧ hi ≤ V.heap.size ∧ KM lo hi V A ml
theorem st_XK {d : Nat} (hd : d ≠ 3) : St d (XK lo hi A ml) := fun col col' V V' hg he ⟨h1, h2, h3⟩ =>
  ⟨fun k a b => (he k (by omega)).trans (h1 k a b), Nat.le_trans h2 hg.size, h3.keep fun k a b => hg.block k (by omega) (by rw [h1 k a b]; exact fun e => hd e.symm)⟩
end
section
variable {w w2 V X1 : World} {X Y : Wh} {lo hi c g o : Nat} {A : Option Addr} {ml RS : List SR} {j : Nat} {t : Bool} {z : Int}
theorem j_paint (h : J w (X2 X Y) w2) (hX : St 9 X) (hY : St 9 Y) (hM : MI w2 RS j A c ml X1) (h8 : ∀ r ∈ ml, r.vs.length ≤ 8) : J w (X2 X (X2 Y (XK w2.heap.size X1.heap.size A ml))) X1 := by
  obtain ⟨col, hl, hx, hy⟩ := h
  have hE : Ext w2 col (fun k => if w2.heap.size ≤ k ∧ k < X1.heap.size then 3 else col k) := fun k hk => if_neg (by omega)
  have hC : Cn 9 col w2 (fun k => if w2.heap.size ≤ k ∧ k < X1.heap.size then 3 else col k) X1 := ⟨hE, fun k hk => by
    show (if w2.heap.size ≤ k ∧ k < X1.heap.size then 3 else col k) = 0
    rw [if_neg (by omega)]
    exact hl.fr k (by have := hM.bel.size; omega), Chg.of_below _ _ hM.bel⟩
  exact ⟨_, hl.go hC (by decide), hX _ _ _ _ hC.2.2 hE hx, hY _ _ _ _ hC.2.2 hE hy, fun k a b => if_pos ⟨a, b⟩, Nat.le_refl _, km_of hM h8⟩
theorem jk_km (h : J w (X2 X (X2 Y (XK lo hi A ml))) V) : KM lo hi V A ml ∧ hi ≤ V.heap.size := by
  obtain ⟨_, _, _, _, _, h1, h2⟩ := h
  exact ⟨h2, h1⟩
theorem jk_flag (h : J w (X2 X (X2 Y (XK lo hi A ml))) V) (hX : St 3 X) (hY : St 3 Y) (hu : V.cell? ⟨g, o, none⟩ = some (.bool t)) (h1 : lo ≤ g) (h2 : g < hi) (t' : Bool) : J w (X2 X (X2 Y (XK lo hi A ml))) (V.setCell ⟨g, o, none⟩ (.bool t')) := by
  obtain ⟨col, hl, hx, hy, hc, hh, hk⟩ := h
  have hC := (Cn.below (c := 3) hl.fr (Below.refl _ _)).setCell (p := ⟨g, o, none⟩) (hc g h1 h2) (.bool t')
  exact ⟨col, hl.go hC (by decide), hX _ _ _ _ hC.2.2 hC.1 hx, hY _ _ _ _ hC.2.2 hC.1 hy, hc, by rw [World.size_setCell]; exact hh, hk.flag hu t'⟩
theorem jk_node (h : J w (X2 X (X2 Y (XK lo hi A ml))) V) (hX : St 3 X) (hY : St 3 Y) (hu : V.cell? ⟨g, o, none⟩ = some (.int .i64 z)) (h1 : lo ≤ g) (h2 : g < hi) (z' : Int) : J w (X2 X (X2 Y (XK lo hi A ml))) (V.setCell ⟨g, o, none⟩ (.int .i64 z')) := by
  obtain ⟨col, hl, hx, hy, hc, hh, hk⟩ := h
  have hC := (Cn.below (c := 3) hl.fr (Below.refl _ _)).setCell (p := ⟨g, o, none⟩) (hc g h1 h2) (.int .i64 z')
  exact ⟨col, hl.go hC (by decide), hX _ _ _ _ hC.2.2 hC.1 hx, hY _ _ _ _ hC.2.2 hC.1 hy, hc, by rw [World.size_setCell]; exact hh, hk.node hu z'⟩
theorem jk_rd {Af : Option Addr} {cf : Nat} (h : J w (X2 X (X2 (XR Af cf RS) Y)) V) : Rd shS V Af cf RS := by
  obtain ⟨_, _, _, h1, _⟩ := h
  exact h1.1
end
end Go.Proofs.Ytafocefbpkcoaaa.coOw
