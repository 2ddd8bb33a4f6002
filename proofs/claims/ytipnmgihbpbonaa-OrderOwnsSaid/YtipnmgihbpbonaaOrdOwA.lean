/- OrderOwns: what is known between its steps. -/
import Derived.Test.YtipnmgihbpbonaaOrdPb
import Derived.RangeFuncBox
set_option linter.unusedVariables false
set_option linter.unusedSimpArgs false
set_option maxRecDepth 100000
namespace Go.Proofs.Ytipnmgihbpbonaa.ordOwA
open Go.ChangeShapes Go.WideShapes Go.ChangeAt Go.RowKit Go.Deep Go.Shelf
open opG opV opR chnM gen chnA chnR chnE ordA ordB ordC ordM ordL ordD ordH ordI ordK ordRl ordW ordS ordE2 ordE3 ordRi ordF rngR ordPb

/-- a row of the call's own whose versions' third cells are flags -/
def Kb (base : Nat) (W : World) (A : Option Addr) (n : Nat) : Prop := n = 0 ∨ ∃ g, A = some ⟨g, 0, none⟩ ∧ base ≤ g ∧ ∀ j, j < n → (∃ t, W.cell? ⟨g, j * 6 + 2, none⟩ = some (.bool t)) ∧ W.frozen? ⟨g, j * 6 + 2, none⟩ = false
theorem kb_own {w : World} {base c : Nat} {A : Option Addr} {l : List Ver} (h : GV w base A c l) (hn : l.length * 64 ≤ 140737488355328) : Kb base w A l.length := by
  have hv := h.hv hn
  rcases h.2 with ⟨e, h0⟩ | ⟨g, cap, cur, e, hb, hg, _⟩
  · exact .inl h0
  · simp only [Value.slice.injEq] at e
    obtain ⟨rfl, -, rfl⟩ := e
    by_cases h0 : l.length = 0
    · exact .inl h0
    · refine .inr ⟨g, rfl, hb, fun j hj => ⟨?_, frozen_of_row w g _ cur _ hg⟩⟩
      obtain ⟨b, off, e1, _, hc⟩ := hv.at hj
      simp only [Option.some.injEq, Addr.mk.injEq, and_true] at e1
      obtain ⟨rfl, rfl⟩ := e1
      have := hc.2.2.1
      rw [Nat.zero_add] at this
      exact ⟨_, this⟩
theorem Kb.below {base n : Nat} {A : Option Addr} {W W' : World} (h : Kb base W A n) (hB : Below W.heap.size W W') : Kb base W' A n := by
  refine h.imp id ?_
  rintro ⟨g, e, hb, hc⟩
  refine ⟨g, e, hb, fun j hj => ?_⟩
  obtain ⟨⟨t, hcv⟩, hf⟩ := hc j hj
  exact ⟨⟨t, keep_cell hB hcv⟩, keep_frozen hB hcv hf⟩
theorem Kb.set {base n g o : Nat} {A : Option Addr} {W : World} {t t' : Bool} (h : Kb base W A n) (hu : W.cell? ⟨g, o, none⟩ = some (.bool t)) : Kb base (W.setCell ⟨g, o, none⟩ (.bool t')) A n := by
  refine h.imp id ?_
  rintro ⟨g', e, hb, hc⟩
  refine ⟨g', e, hb, fun j hj => ?_⟩
  obtain ⟨⟨t2, hcv⟩, hf⟩ := hc j hj
  refine ⟨?_, by rw [World.frozen?_setCell]; exact hf⟩
  by_cases he : (⟨g, o, none⟩ : Addr) = ⟨g', j * 6 + 2, none⟩
  · injection he with e1 e2
    subst e1 e2
    exact ⟨t', World.cell?_setCell_same' _ _ _ (by rw [hu]; rfl)⟩
  · exact ⟨t2, by rw [World.cell?_setCell_other _ _ _ _ he]; exact hcv⟩
theorem cell_apart {W : World} {g o : Nat} {t : Bool} {u' : Value} (hu : W.cell? ⟨g, o, none⟩ = some (.bool t)) {b p : Nat} {A : Option Addr} {n c : Nat} (h : W.cell? ⟨b, p, none⟩ = some (.slice A n c)) : (W.setCell ⟨g, o, none⟩ u').cell? ⟨b, p, none⟩ = some (.slice A n c) := by
  rw [World.cell?_setCell_other _ _ _ _ (fun e => by rw [← e, hu] at h; cases h)]
  exact h
/-- what is known of the log and of what came in -/
structure OB (w : World) (m : MR) (a1 : Int) (p : Nat) (L : Lg) (col : Nat → Nat) (V : World) : Prop where
  log : LogAt T1 col 1 V p L
  rb : P4 w.heap.size m V
  mo : V.cell? ⟨w.heap.size + 1, 0, none⟩ = some (.int .i64 a1)
  dv : DV col V m
  bel : Below w.heap.size w V
  co : ∀ k, k < w.heap.size + 2 → col k = 0 ∨ col k = 2
  lt : w.heap.size + 2 ≤ V.heap.size
/-- .. and of the copy -/
structure OM (col : Nat → Nat) (m : MR) (mb : Nat) (A : Option Addr) (c : Nat) (V : World) : Prop where
  cm : col mb = 0
  ml : mb < V.heap.size
  mx : V.cell? ⟨mb, 3, none⟩ = some (.slice A m.vs.length c)
  gv : GV V 0 A c m.vs
  cg : ∀ k, (Value.slice A m.vs.length c).ownBlock = some k → col k = 3
section
variable {w V V' : World} {m : MR} {a1 : Int} {p d mb c : Nat} {L L' : Lg} {col col' : Nat → Nat} {A : Option Addr}
theorem OB.go (h : OB w m a1 p L col V) (hg : Chg col d V V') (hd : d ≠ 0) (hd2 : d ≠ 2) (he : Ext V col col') (hl : LogAt T1 col' 1 V' p L') : OB w m a1 p L' col' V' where
  log := hl
  rb := h.rb.of_block (hg.block _ h.rb.lt (by rcases h.co w.heap.size (by omega) with e | e <;> rw [e] <;> omega))
  mo := (World.cell?_of_block (a := ⟨w.heap.size + 1, 0, none⟩) (hg.block _ (by have := h.lt; show w.heap.size + 1 < _; omega) (by show col (w.heap.size + 1) ≠ d; rcases h.co (w.heap.size + 1) (by omega) with e | e <;> rw [e] <;> omega))).trans h.mo
  dv := h.dv.go hg hd he
  bel := h.bel.trans (hg.below (by have := h.lt; omega) fun k hk => by rcases h.co k (by omega) with e | e <;> rw [e] <;> omega)
  co := fun k hk => (h.co k hk).imp ((he k (by have := h.lt; omega)).trans ·) ((he k (by have := h.lt; omega)).trans ·)
  lt := Nat.le_trans h.lt hg.size
theorem OB.other (h : OB w m a1 p L col V) (hg : Chg col d V V') (hd : d ≠ 0) (hd2 : d ≠ 2) (hd1 : 1 ≠ d) (he : Ext V col col') : OB w m a1 p L col' V' := h.go hg hd hd2 he (h.log.other hg hd hd1 he)
theorem OB.below (h : OB w m a1 p L col V) (hB : Below V.heap.size V V') : OB w m a1 p L col V' := h.other (Chg.of_below col 4 hB) (by omega) (by omega) (by omega) (Ext.refl _ _)
theorem OM.go (h : OM col m mb A c V) (hg : Chg col d V V') (hd : d ≠ 0) (hd3 : d ≠ 3) (he : Ext V col col') : OM col' m mb A c V' where
  cm := (he mb h.ml).trans h.cm
  ml := Nat.lt_of_lt_of_le h.ml hg.size
  mx := (World.cell?_of_block (a := ⟨mb, 3, none⟩) (hg.block _ h.ml (by show col mb ≠ d; rw [h.cm]; omega))).trans h.mx
  gv := h.gv.block fun k e => hg.block k (World.ownsRow.lt h.gv k e).2 (by rw [h.cg k e]; omega)
  cg := fun k e => (he k (World.ownsRow.lt h.gv k e).2).trans (h.cg k e)
end
/-- both, whatever the colors -/
def OJ (w : World) (m : MR) (a1 : Int) (p mb : Nat) (A : Option Addr) (c : Nat) (L : Lg) (V : World) : Prop := ∃ col, OB w m a1 p L col V ∧ OM col m mb A c V ∧ Fresh col V
section
variable {w V V' : World} {m : MR} {a1 : Int} {p mb c : Nat} {L : Lg} {A : Option Addr}
theorem oj_go {col : Nat → Nat} (h : OB w m a1 p L col V) (hM : OM col m mb A c V) {L' : Lg} (hl : Lv T1 col 1 p L' V V') : OJ w m a1 p mb A c L' V' := by
  obtain ⟨col', ⟨c1, c2, c3⟩, h'⟩ := hl
  exact ⟨col', h.go c3 (by decide) (by decide) c1 h', hM.go c3 (by decide) (by decide) c1, c2⟩
theorem OJ.below (h : OJ w m a1 p mb A c L V) (hB : Below V.heap.size V V') : OJ w m a1 p mb A c L V' := by
  obtain ⟨col, h1, h2, h3⟩ := h
  exact ⟨col, h1.below hB, h2.go (Chg.of_below col 2 hB) (by decide) (by decide) (Ext.refl _ _), h3.up hB.size⟩
def Lone (m : MR) : Lg := ⟨[], [m.r], 0⟩
theorem lone_e (h : 1 ≤ m.ts) : dE L0 m.r = 0 ∧ dS L0 m.r = Lone m := by
  have h0 : ¬ m.r.1.1 ≤ L0.bd := by show ¬ m.ts ≤ 0; omega
  have h1 : ¬ there L0.wt m.r = true := by simp [there, L0]
  constructor
  · unfold dE; rw [if_neg h0, if_neg h1]
  · unfold dS; rw [if_neg h0, if_neg h1]; rfl
theorem lone_ok (h : 1 ≤ m.ts) : (Lone m).ok := by rw [← (lone_e h).2]; exact ok_dS ok0 _
theorem lone_r (h : 0 ≤ m.ts ∧ m.ts < 18446744073709551616) : cnt (Lone m) 18446744073709551615 = 1 ∧ rS (Lone m) 18446744073709551615 = ⟨[m.r], [], 18446744073709551615⟩ := by
  have e0 : mx (Lone m).bd 18446744073709551615 = 18446744073709551615 := by show mx 0 _ = _; decide
  have e1 : cnt (Lone m) 18446744073709551615 = 1 := by
    unfold cnt tw
    rw [e0]
    show ([m.r].takeWhile fun x : Rc => decide (x.1.1 ≤ 18446744073709551615)).length = 1
    rw [List.takeWhile_cons, if_pos (by rw [decide_eq_true_eq]; show m.ts ≤ _; omega)]
    rfl
  refine ⟨e1, ?_⟩
  unfold rS
  rw [e1, e0]
  rfl
theorem oj_dec (h : OJ w m a1 p mb A c L0 V) (hts : 1 ≤ m.ts) (hv : m.vs.length * 64 ≤ 140737488355328) : Calls Try.prog 9 #[.pointer (some ⟨p, 0, none⟩), rv { m with A := A, c := c }] V fun e w' => e = .returned (.int .i64 0) ∧ OJ w m a1 p mb A c (Lone m) w' := by
  obtain ⟨col, h1, h2, h3⟩ := h
  refine (decide_at V h1.log ok0 (by decide) h3 { m with A := A, c := c } (h2.gv.hv hv) h1.dv.sm (by simp [L0])).mono ?_
  obtain ⟨e1, e2⟩ := lone_e hts
  rintro e w' ⟨rfl, hl⟩
  have e1' : dE L0 ({ m with A := A, c := c } : MR).r = 0 := e1
  have e2' : dS L0 ({ m with A := A, c := c } : MR).r = Lone m := e2
  rw [e1']
  rw [e2'] at hl
  exact ⟨rfl, oj_go h1 h2 hl⟩
theorem oj_rel (h : OJ w m a1 p mb A c (Lone m) V) (hts : 1 ≤ m.ts) (ht2 : m.ts < 18446744073709551616) : Calls Try.prog 12 #[.pointer (some ⟨p, 0, none⟩), .int .u64 18446744073709551615] V fun e w' => e = .returned (.int .i64 1) ∧ OJ w m a1 p mb A c ⟨[m.r], [], 18446744073709551615⟩ w' := by
  obtain ⟨col, h1, h2, h3⟩ := h
  refine (release_at V h1.log (lone_ok hts) (by decide) h3 18446744073709551615 (by simp [Lone])).mono ?_
  obtain ⟨e1, e2⟩ := lone_r (m := m) ⟨by omega, ht2⟩
  rintro e w' ⟨rfl, hl⟩
  rw [e1]
  rw [e2] at hl
  exact ⟨rfl, oj_go h1 h2 hl⟩
end
/-! ### How it begins -/
def colB (b k : Nat) : Nat := if k = b then 2 else 0
theorem colB_fresh {b : Nat} {V : World} (h : b < V.heap.size) : Fresh (colB b) V := fun k hk => if_neg (by omega)
def mT (m : MR) (t : Int) : MR := { fw m with ts := t }
section
variable {w Wc w2 w7 V : World} {m m0 : MR} {a1 : Int} {p b c : Nat} {L : Lg} {A : Option Addr} {col : Nat → Nat}
theorem P4.put0 (h : P4 b m V) (t : Int) : P4 b { m with ts := t } (V.setCell ⟨b, 0, none⟩ (.int .u64 t)) :=
  (h.set 0 _).congr fun i hi => by rcases four hi with rfl | rfl | rfl | rfl <;> rfl
theorem ob_start (hP : P4 w.heap.size m0 Wc) (hBc : Below w.heap.size w Wc) (hmo : Wc.cell? ⟨w.heap.size + 1, 0, none⟩ = some (.int .i64 a1)) (hl : LogAt T1 (colP (colB w.heap.size) (w.heap.size + 1 + 1) 1) 1 Wc (w.heap.size + 1 + 1) L0) (hsc : Wc.heap.size = w.heap.size + 1 + 1 + 1)
    (kv : HV w m0.A m0.c m0.vs) (ks : Sm m0.vs) (hB2 : Below Wc.heap.size Wc w2) (t : Int) :
    OB w (mT m0 t) a1 (w.heap.size + 1 + 1) L0 (colP (colB w.heap.size) (w.heap.size + 1 + 1) 1) ((put4 w2 w.heap.size (fw m0)).setCell ⟨w.heap.size, 0, none⟩ (.int .u64 t)) := by
  have hcb : colP (colB w.heap.size) (w.heap.size + 1 + 1) 1 w.heap.size = 2 := by unfold colP colB; rw [if_neg (by omega), if_pos rfl]
  have hc0 : ∀ k, k < w.heap.size → colP (colB w.heap.size) (w.heap.size + 1 + 1) 1 k = 0 := fun k hk => by unfold colP colB; rw [if_neg (by omega), if_neg (by omega)]
  have hc1 : colP (colB w.heap.size) (w.heap.size + 1 + 1) 1 (w.heap.size + 1) = 0 := by unfold colP colB; rw [if_neg (by omega), if_neg (by omega)]
  generalize colP (colB w.heap.size) (w.heap.size + 1 + 1) 1 = col at *
  have hg : Chg col 2 w2 ((put4 w2 w.heap.size (fw m0)).setCell ⟨w.heap.size, 0, none⟩ (.int .u64 t)) :=
    (((((Chg.refl col 2 w2).setCell (p := ⟨w.heap.size, 0, none⟩) hcb _).setCell (p := ⟨w.heap.size, 1, none⟩) hcb _).setCell (p := ⟨w.heap.size, 2, none⟩) hcb _).setCell (p := ⟨w.heap.size, 3, none⟩) hcb _).setCell (p := ⟨w.heap.size, 0, none⟩) hcb _
  have hBw : Below w.heap.size w w2 := trans0 hBc (hB2.mono (by omega))
  have hv2 : HV w2 (fw m0).A (fw m0).c (fw m0).vs := HV.few (kv.below hBw)
  have hD : DV col w2 (mT m0 t) := by
    refine ⟨hv2, sm_few ks, ?_⟩
    by_cases h0 : m0.vs = []
    · exact .inl (by show m0.vs.take 12 = []; rw [h0]; rfl)
    · exact .inr fun y e => hc0 _ (hv_lt kv h0 e)
  refine ⟨(hl.below hB2).other hg (by decide) (by decide) (Ext.refl _ _), P4.put0 ((hP.below hB2).put (fw m0)) t, ?_, hD.go hg (by decide) (Ext.refl _ _), ?_, ?_, ?_⟩
  · exact (World.cell?_of_block (a := ⟨w.heap.size + 1, 0, none⟩) (hg.block _ (by have := hB2.size; show w.heap.size + 1 < _; omega) (by show col (w.heap.size + 1) ≠ 2; rw [hc1]; decide))).trans (keep_cell hB2 hmo)
  · exact hBw.trans (hg.below hBw.size fun k hk => by rw [hc0 k hk]; decide)
  · intro k hk
    rcases (by omega : k < w.heap.size ∨ k = w.heap.size ∨ k = w.heap.size + 1) with e | e | e
    · exact .inl (hc0 k e)
    · rw [e]; exact .inr hcb
    · rw [e]; exact .inl hc1
  · have := hB2.size; have := hg.size; omega
theorem oj_start (hO : OB w m a1 p L col V) (hf : Fresh col V) (hG : GV w7 V.heap.size A c m.vs) (hB : Below V.heap.size V w7) :
    OJ w m a1 p w7.heap.size A c L (w7.alloc (.cells #[.int .u64 m.ts, .int .i64 m.dc, .int .i64 m.tx, .slice A m.vs.length c] 32)) := by
  have hal := al0 w7 (.cells #[.int .u64 m.ts, .int .i64 m.dc, .int .i64 m.tx, .slice A m.vs.length c] 32)
  have hlt := fun k e => World.ownsRow.lt hG k e
  have hext : Ext V col (fun k => if (Value.slice A m.vs.length c).ownBlock = some k then 3 else col k) := fun k hk => if_neg (fun e => by have := (hlt k e).1; omega)
  refine ⟨_, (hO.other (Chg.refl col 4 V) (by decide) (by decide) (by decide) hext).below (trans0 hB hal), ⟨?_, ?_, ?_, ?_, ?_⟩, ?_⟩
  · show (if _ then 3 else col w7.heap.size) = 0
    rw [if_neg (fun e => by have := (hlt _ e).2; omega)]
    exact hf _ hB.size
  · rw [World.size_alloc]; omega
  · exact (cell_of_row _ _ 3 #[.int .u64 m.ts, .int .i64 m.dc, .int .i64 m.tx, .slice A m.vs.length c] 32 (0, 0) (heap_alloc_new w7 _)).trans rfl
  · exact (hG.below hal).more (by omega)
  · exact fun k e => if_pos e
  · intro k hk
    rw [World.size_alloc] at hk
    show (if _ then 3 else col k) = 0
    rw [if_neg (fun e => by have := (hlt _ e).2; omega)]
    exact hf _ (by have := hB.size; omega)
end
/-! ### The copy is painted over -/
structure MI (col : Nat → Nat) (W : World) (mb n c : Nat) (A : Option Addr) (V : World) : Prop where
  chg : Chg col 3 W V
  cell : V.cell? ⟨mb, 3, none⟩ = some (.slice A n c)
  kb : Kb 0 V A n
  co : n = 0 ∨ ∀ y, A = some y → col y.block = 3
section
variable {w W V : World} {m : MR} {a1 : Int} {p mb n c g o : Nat} {L : Lg} {A : Option Addr} {col : Nat → Nat} {t t' : Bool}
theorem MI.set (h : MI col W mb n c A V) (hu : V.cell? ⟨g, o, none⟩ = some (.bool t)) (hg : col g = 3) : MI col W mb n c A (V.setCell ⟨g, o, none⟩ (.bool t')) :=
  ⟨h.chg.setCell hg _, cell_apart hu h.cell, h.kb.set hu, h.co⟩
theorem MI.drew (h : MI col W mb n c A V) : MI col W mb n c A V.drew := ⟨h.chg.drew, h.cell, h.kb, h.co⟩
theorem mi_new (h : OM col m mb A c V) (hv : m.vs.length * 64 ≤ 140737488355328) : MI col V mb m.vs.length c A V := by
  refine ⟨Chg.refl _ _ _, h.mx, kb_own h.gv hv, ?_⟩
  rcases h.gv.2 with ⟨e, h0⟩ | ⟨g, cap, cur, e, hb, hg, _⟩
  · exact .inl h0
  · refine .inr fun y hy => ?_
    have hcg := h.cg
    simp only [Value.slice.injEq] at e
    obtain ⟨rfl, -, rfl⟩ := e
    cases hy
    exact hcg g rfl
theorem MI.ob (h : MI col W mb n c A V) (hO : OB w m a1 p L col W) : OB w m a1 p L col V := hO.other h.chg (by decide) (by decide) (by decide) (Ext.refl _ _)
end
/-! ### The ranges -/
section
variable {w V : World} {m : MR} {a1 : Int} {p : Nat} {L : Lg} {col : Nat → Nat}
theorem ob_reads (h : OB w m a1 p L col V) : Reads Fence.wide 5 Try.prog 30 #[.pointer (some ⟨V.heap.size + 1, 0, none⟩), .pointer (some ⟨V.heap.size, 0, none⟩)] encs (KS (fun _ => False) (V.heap.size + 2)) (RF L.st 0 (V.heap.size + 2)) (fun ys => ys.map (fun y => y.m.r) = L.st) (fun _ => True) (fW V (some ⟨p, 0, none⟩) 0) := by
  obtain ⟨A1, c1, A2, c2, ms, mw, hI⟩ := h.log
  exact from_reads 5 (by omega) (IF.of (K := fun _ => False) (at0 := 0) hI (fun k e => e.elim) (by decide) (fun _ _ e => e)) (by decide)
theorem ob_range (h : OB w m a1 p L col V) :
    ∃ col', col' V.heap.size = 3 ∧ (∀ V' n, AI col' V.heap.size 0 (fW (V.alloc (.cells #[.int .i64 0] 3)) (some ⟨p, 0, none⟩) 0) n V' → OB w m a1 p L col' V') ∧
      AI col' V.heap.size 0 (fW (V.alloc (.cells #[.int .i64 0] 3)) (some ⟨p, 0, none⟩) 0) 0 (fW (V.alloc (.cells #[.int .i64 0] 3)) (some ⟨p, 0, none⟩) 0) ∧
      Reads Fence.wide 5 Try.prog 30 #[.pointer (some ⟨V.heap.size + 1 + 1, 0, none⟩), .pointer (some ⟨V.heap.size + 1, 0, none⟩)] encs (KS (fun k => k = V.heap.size) (V.heap.size + 1 + 2)) (RF L.st 0 (V.heap.size + 1 + 2)) (fun ys => ys.map (fun y => y.m.r) = L.st) (fun _ => True) (fW (V.alloc (.cells #[.int .i64 0] 3)) (some ⟨p, 0, none⟩) 0) := by
  have hal := al0 V (.cells #[.int .i64 0] 3)
  have hF := fW_below (V.alloc (.cells #[.int .i64 0] 3)) (some ⟨p, 0, none⟩) 0
  have hB := trans0 hal hF
  have hext : Ext V col (fun k => if k = V.heap.size then 3 else col k) := fun k hk => if_neg (by omega)
  have hs1 : (V.alloc (.cells #[.int .i64 0] 3)).heap.size = V.heap.size + 1 := by simp
  have hc0 : (V.alloc (.cells #[.int .i64 0] 3)).cell? ⟨V.heap.size, 0, none⟩ = some (.int .i64 0) := cell_of_row _ _ 0 #[.int .i64 0] 3 (0, 0) (heap_alloc_new V _)
  have hf0 : (V.alloc (.cells #[.int .i64 0] 3)).frozen? ⟨V.heap.size, 0, none⟩ = false := by simp
  have hO : OB w m a1 p L (fun k => if k = V.heap.size then 3 else col k) V := h.other (Chg.refl col 4 V) (by decide) (by decide) (by decide) hext
  refine ⟨fun k => if k = V.heap.size then 3 else col k, if_pos rfl, fun V' n hA => (hO.below hB).other hA.chg (by decide) (by decide) (by decide) (Ext.refl _ _), ⟨Chg.refl _ _ _, ?_, ?_⟩, ?_⟩
  · exact keep_cell hF hc0
  · exact keep_frozen hF hc0 hf0
  · obtain ⟨A1, c1, A2, c2, ms, mw, hI⟩ := (hO.below hal).log
    have hIF := IF.of (K := fun k => k = V.heap.size) (at0 := 0) hI (fun k e _ => by
      show (if k = V.heap.size then 3 else col k) ≠ 0 ∧ (if k = V.heap.size then 3 else col k) ≠ 1
      rw [if_pos e]; omega) (by omega) (fun k hk e => by omega)
    rw [hs1] at hIF
    exact from_reads 5 (by omega) hIF (by decide)
/-- what stable answers -/
theorem ob_stab (h : OB w m a1 p L col V) (at0 : Int) (h9 : at0 ≤ 9223372036854775807) (hl : L.st.length ≤ 200) : Calls Try.prog 19 #[.pointer (some ⟨p, 0, none⟩), .int .i64 at0] V fun e w' => ∃ A c l, e = .returned (.slice A l.length c) ∧ l.map MR.r = L.st.drop (sAt at0) ∧ RR2 w' A c l ∧ Below V.heap.size V w' := by
  refine (stable_any at0 V h.log (by decide) h9).mono ?_
  rintro e w' ⟨A, c, l, rfl, hm, hG, hB⟩
  have hll : l.length ≤ 200 := by
    have := congrArg List.length hm
    rw [List.length_map, List.length_drop] at this
    omega
  exact ⟨A, c, l, rfl, hm, ⟨hG.row.hv (by omega), fun m hm => (hG.vs m hm).1.hv (hG.vs m hm).2.1⟩, hB⟩
end
/-! ### What the ranges keep -/
structure XJ (hi b n c : Nat) (A : Option Addr) (V U : World) : Prop where
  bel : Below hi V U
  kp : KeepsOthers V U
  cell : U.cell? ⟨b, 3, none⟩ = some (.slice A n c)
  kb : Kb hi U A n
section
variable {hi b n c g o D nb u j C : Nat} {A : Option Addr} {V U W0 W : World} {t t' : Bool} {col : Nat → Nat}
theorem XJ.set (h : XJ hi b n c A V U) (hu : U.cell? ⟨g, o, none⟩ = some (.bool t)) (hg : hi ≤ g) : XJ hi b n c A V (U.setCell ⟨g, o, none⟩ (.bool t')) :=
  ⟨h.bel.setCell (p := ⟨g, o, none⟩) hg _, h.kp.trans (KeepsOthers.setCell _ _ _), cell_apart hu h.cell, h.kb.set hu⟩
theorem XJ.drew (h : XJ hi b n c A V U) : XJ hi b n c A V U.drew := ⟨h.bel.drew, h.kp.trans (KeepsOthers.drew _), h.cell, h.kb⟩
theorem XJ.ks (h : XJ hi b n c A V U) : KS (fun _ => False) hi V U := ⟨h.bel.size, fun _ k hk _ => h.bel.block k hk⟩
theorem bel_from (hC : W0.heap.size ≤ C) : OwnFrom C (fun (_ : List YR) V => Below W0.heap.size W0 V) := by
  rintro pre V V' row h hg hrow
  exact h.grown hg h.size (fun k e => Nat.le_trans hC (hrow k e).1)
/-- the second range: one box alone has changed, and the first one's record still lies there -/
structure I2 (col : Nat → Nat) (nb D : Nat) (W0 : World) (n : Nat) (V : World) : Prop where
  ai : AI col nb 0 W0 n V
  rec_ : V.heap[D]? = some (.deferred (some []))
  lt : D < W0.heap.size
theorem I2.from_ (hC : W0.heap.size ≤ C) {f : List YR → Nat} : OwnFrom C (fun pre => I2 col nb D W0 (f pre)) := by
  rintro pre V V' row ⟨h1, h2, h3⟩ hg hrow
  refine ⟨AI.from_ (f := f) hC pre V V' row h1 hg hrow, (hg.block D (Nat.lt_of_lt_of_le h3 h1.chg.size) (fun e => by have := (hrow D e.symm).1; omega)).trans h2, h3⟩
theorem I2.next (h : I2 col nb D W0 n V) (hc : col nb = 3) (x : Value) (hx : x = .int .i64 ((0 + (n + 1) : Nat) : Int)) : I2 col nb D W0 (n + 1) (V.setCell ⟨nb, 0, none⟩ x) :=
  ⟨h.ai.next hc x hx, (KeepsOthers.setCell V ⟨nb, 0, none⟩ x).same D _ h.rec_ rfl, h.lt⟩
theorem I2.ix {e : Code} {a1 : Int} (hC : W0.heap.size ≤ C) (c : Code) : OwnFrom C (fun (pre : List YR) V => c = e ∧ a1 = 0 ∧ I2 col nb D W0 0 V) := by
  rintro pre V V' row ⟨h1, h2, h3⟩ hg hr
  exact ⟨h1, h2, I2.from_ (f := fun _ => 0) hC pre V V' row h3 hg hr⟩
/-- the one-celled row of the law's last line -/
abbrev rowO (m : MR) : Obj := .cells #[.int .u64 m.ts, .int .i64 m.dc, .int .i64 m.tx, .slice m.A m.vs.length m.c] 32
theorem rr2_one {w w' : World} {m : MR} (hv : HV w m.A m.c m.vs) (hB : Below (w.alloc (rowO m)).heap.size (w.alloc (rowO m)) w') : RR2 w' (some ⟨w.heap.size, 0, none⟩) 1 [m] := by
  have h1 := (P4.new w m).r4
  have hal := al0 w (rowO m)
  refine RR2.below (w := w.alloc (rowO m)) ⟨⟨.inr ⟨w.heap.size, 0, rfl, by simp, fun i hi => ?_⟩, (fun e => (by cases e)), (by simp), (by omega), (by simp)⟩, fun x hx => ?_⟩ hB
  · obtain rfl : i = 0 := by simpa using hi
    exact h1
  · rw [List.mem_singleton.1 hx]; exact hv.below hal
theorem same_one (A : Option Addr) (c : Nat) (l : List MR) (k : Nat) (m : MR) (w : World) (h1 : RR2 w A c l) (h2 : RR2 w (some ⟨k, 0, none⟩) 1 [m]) :
    Calls Try.prog 18 #[.slice A l.length c, .slice (some ⟨k, 0, none⟩) 1 1] w fun e w' => e = .returned (.bool (decide (l.map MR.r = [m.r]))) ∧ Below w.heap.size w w' := same_any A c l (some ⟨k, 0, none⟩) 1 [m] w h1 h2
/-- what the last line reads -/
abbrev SO (w : World) (m : MR) (nb : Nat) (nv a1 : Int) (V : World) : Prop := R4 w.heap.size 0 m V ∧ V.cell? ⟨nb, 0, none⟩ = some (.int .i64 nv) ∧ V.cell? ⟨w.heap.size + 1, 0, none⟩ = some (.int .i64 a1)
theorem SO.below {w V V' : World} {m : MR} {nb : Nat} {nv a1 : Int} (h : SO w m nb nv a1 V) (hB : Below V.heap.size V V') : SO w m nb nv a1 V' :=
  ⟨⟨keep_cell hB h.1.1, keep_cell hB h.1.2.1, keep_cell hB h.1.2.2.1, keep_cell hB h.1.2.2.2⟩, keep_cell hB h.2.1, keep_cell hB h.2.2⟩
end
end Go.Proofs.Ytipnmgihbpbonaa.ordOwA
