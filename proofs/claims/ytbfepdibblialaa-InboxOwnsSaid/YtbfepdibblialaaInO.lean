/- InboxOwns. -/
import Derived.Test.YtbfepdibblialaaInA
set_option linter.unusedVariables false
set_option linter.unusedSimpArgs false
set_option maxRecDepth 100000
namespace Go.Proofs.Ytbfepdibblialaa.inO
open Go.ChangeShapes Go.WideShapes Go.ChangeAt Go.RowKit Go.Deep
open opV chnM gen chnA chnR chnE ordA ordB ordC ordCr ordE2 inM inW inL inN inP inPt inG inD inA

/-- a row of the call's own whose versions' third cells are flags -/
def Kb (base : Nat) (W : World) (A : Option Addr) (n : Nat) : Prop := n = 0 ∨ ∃ g, A = some ⟨g, 0, none⟩ ∧ base ≤ g ∧ ∀ j, j < n → (∃ t, W.cell? ⟨g, j * 6 + 2, none⟩ = some (.bool t)) ∧ W.frozen? ⟨g, j * 6 + 2, none⟩ = false
theorem kb_own {w : World} {base c : Nat} {A : Option Addr} {l : List Ver} (h : GV w base A c l) (hn : l.length * 64 ≤ 140737488355328) : Kb base w A l.length := by
  have hv := h.hv hn
  rcases h.2 with ⟨e, h0⟩ | ⟨g, cap, cur, e, hb, hg, _⟩
  · exact .inl h0
  · simp only [Value.slice.injEq] at e
    obtain ⟨rfl, -, rfl⟩ := e
    by_cases h0 : l.length = 0
    · exact .inl h0
    · refine .inr ⟨g, rfl, hb, fun j hj => ⟨?_, frozen_of_row w g _ cur _ hg⟩⟩
      obtain ⟨b, off, e1, _, hc⟩ := hv.at hj
      simp only [Option.some.injEq, Addr.mk.injEq, and_true] at e1
      obtain ⟨rfl, rfl⟩ := e1
      have := hc.2.2.1
      rw [Nat.zero_add] at this
      exact ⟨_, this⟩
theorem Kb.below {base n : Nat} {A : Option Addr} {W W' : World} (h : Kb base W A n) (hB : Below W.heap.size W W') : Kb base W' A n := by
  refine h.imp id ?_
  rintro ⟨g, e, hb, hc⟩
  refine ⟨g, e, hb, fun j hj => ?_⟩
  obtain ⟨⟨t, hcv⟩, hf⟩ := hc j hj
  exact ⟨⟨t, keep_cell hB hcv⟩, keep_frozen hB hcv hf⟩
theorem Kb.set {base n g o : Nat} {A : Option Addr} {W : World} {t t' : Bool} (h : Kb base W A n) (hu : W.cell? ⟨g, o, none⟩ = some (.bool t)) : Kb base (W.setCell ⟨g, o, none⟩ (.bool t')) A n := by
  refine h.imp id ?_
  rintro ⟨g', e, hb, hc⟩
  refine ⟨g', e, hb, fun j hj => ?_⟩
  obtain ⟨⟨t2, hcv⟩, hf⟩ := hc j hj
  refine ⟨?_, by rw [World.frozen?_setCell]; exact hf⟩
  by_cases he : (⟨g, o, none⟩ : Addr) = ⟨g', j * 6 + 2, none⟩
  · injection he with e1 e2
    subst e1 e2
    exact ⟨t', World.cell?_setCell_same' _ _ _ (by rw [hu]; rfl)⟩
  · exact ⟨t2, by rw [World.cell?_setCell_other _ _ _ _ he]; exact hcv⟩
theorem cell_apart {W : World} {g o : Nat} {t : Bool} {u' : Value} (hu : W.cell? ⟨g, o, none⟩ = some (.bool t)) {b p : Nat} {A : Option Addr} {n c : Nat} (h : W.cell? ⟨b, p, none⟩ = some (.slice A n c)) : (W.setCell ⟨g, o, none⟩ u').cell? ⟨b, p, none⟩ = some (.slice A n c) := by
  rw [World.cell?_setCell_other _ _ _ _ (fun e => by rw [← e, hu] at h; cases h)]
  exact h
/-- what is known of the box and of what came in -/
structure OB (w : World) (m : MR) (p : Nat) (S : Bx) (col : Nat → Nat) (V : World) : Prop where
  box : BoxAt col 1 V p S
  rb : P4 w.heap.size m V
  dv : DV col V m
  bel : Below w.heap.size w V
  co : ∀ k, k < w.heap.size + 1 → col k = 0 ∨ col k = 2
  lt : w.heap.size + 1 ≤ V.heap.size
  fr : Fresh col V
/-- .. and of the copy -/
structure OM (col : Nat → Nat) (m : MR) (mb : Nat) (A : Option Addr) (c : Nat) (V : World) : Prop where
  cm : col mb = 0
  ml : mb < V.heap.size
  mx : V.cell? ⟨mb, 3, none⟩ = some (.slice A m.vs.length c)
  gv : GV V 0 A c m.vs
  cg : ∀ k, (Value.slice A m.vs.length c).ownBlock = some k → col k = 3
section
variable {w V V' : World} {m : MR} {p d mb c : Nat} {S S' : Bx} {col col' : Nat → Nat} {A : Option Addr}
theorem OB.go (h : OB w m p S col V) (hg : Chg col d V V') (hd : d ≠ 0) (hd2 : d ≠ 2) (he : Ext V col col') (hf : Fresh col' V') (hl : BoxAt col' 1 V' p S') : OB w m p S' col' V' where
  box := hl
  rb := h.rb.of_block (hg.block _ h.rb.lt (by rcases h.co w.heap.size (by omega) with e | e <;> rw [e] <;> omega))
  dv := h.dv.go hg hd he
  bel := h.bel.trans (hg.below (by have := h.lt; omega) fun k hk => by rcases h.co k (by omega) with e | e <;> rw [e] <;> omega)
  co := fun k hk => (h.co k hk).imp ((he k (by have := h.lt; omega)).trans ·) ((he k (by have := h.lt; omega)).trans ·)
  lt := Nat.le_trans h.lt hg.size
  fr := hf
theorem OB.other (h : OB w m p S col V) (hg : Chg col d V V') (hd : d ≠ 0) (hd2 : d ≠ 2) (hd1 : 1 ≠ d) : OB w m p S col V' := h.go hg hd hd2 (Ext.refl _ _) (h.fr.up hg.size) (h.box.other hg hd hd1 (Ext.refl _ _))
theorem OB.below (h : OB w m p S col V) (hB : Below V.heap.size V V') : OB w m p S col V' := h.other (Chg.of_below col 4 hB) (by omega) (by omega) (by omega)
theorem OM.go (h : OM col m mb A c V) (hg : Chg col d V V') (hd : d ≠ 0) (hd3 : d ≠ 3) (he : Ext V col col') : OM col' m mb A c V' where
  cm := (he mb h.ml).trans h.cm
  ml := Nat.lt_of_lt_of_le h.ml hg.size
  mx := (World.cell?_of_block (a := ⟨mb, 3, none⟩) (hg.block _ h.ml (by show col mb ≠ d; rw [h.cm]; omega))).trans h.mx
  gv := h.gv.block fun k e => hg.block k (World.ownsRow.lt h.gv k e).2 (by rw [h.cg k e]; omega)
  cg := fun k e => (he k (World.ownsRow.lt h.gv k e).2).trans (h.cg k e)
/-- a copy of one's own, in a box of its own, its row of color 3 -/
theorem ob_mine {w7 : World} (h : OB w m p S col V) {mc : MR} (hG : GV w7 V.heap.size mc.A mc.c mc.vs) (hB : Below V.heap.size V w7) :
    ∃ col', OB w m p S col' (w7.alloc (.cells #[.int .u64 mc.ts, .int .i64 mc.dc, .int .i64 mc.tx, .slice mc.A mc.vs.length mc.c] 30)) ∧ OM col' mc w7.heap.size mc.A mc.c (w7.alloc (.cells #[.int .u64 mc.ts, .int .i64 mc.dc, .int .i64 mc.tx, .slice mc.A mc.vs.length mc.c] 30)) := by
  have hal := al0 w7 (.cells #[.int .u64 mc.ts, .int .i64 mc.dc, .int .i64 mc.tx, .slice mc.A mc.vs.length mc.c] 30)
  have hlt := fun k e => World.ownsRow.lt hG k e
  have hext : Ext V col (paintB col (.slice mc.A mc.vs.length mc.c) 3) := fun k hk => if_neg (fun e => by have := (hlt k e).1; omega)
  have hf0 : Fresh (paintB col (.slice mc.A mc.vs.length mc.c) 3) w7 := fun k hk => by
    unfold paintB
    rw [if_neg (fun e => by have := (hlt k e).2; omega)]
    exact h.fr k (by have := hB.size; omega)
  have hBB := trans0 hB hal
  have hgo := Chg.of_below col 4 hBB
  have hsz := hal.size
  refine ⟨_, h.go hgo (by omega) (by omega) hext (hf0.up hal.size) (h.box.other hgo (by omega) (by omega) hext), ⟨?_, ?_, ?_, ?_, ?_⟩⟩
  · exact hf0 _ (Nat.le_refl _)
  · rw [World.size_alloc]; omega
  · exact (cell_of_row _ _ 3 #[.int .u64 mc.ts, .int .i64 mc.dc, .int .i64 mc.tx, .slice mc.A mc.vs.length mc.c] 30 (0, 0) (heap_alloc_new w7 _)).trans rfl
  · exact (hG.below hal).more (by omega)
  · exact fun k e => if_pos e
theorem ob_lv (h : OB w m p S col V) (hl : Lv col 1 p S' V V') : ∃ col', OB w m p S' col' V' ∧ ∀ mc mb A c, OM col mc mb A c V → OM col' mc mb A c V' := by
  obtain ⟨col', ⟨c1, c2, c3⟩, h'⟩ := hl
  exact ⟨col', h.go c3 (by decide) (by decide) c1 c2 h', fun mc mb A c hM => hM.go c3 (by decide) (by decide) c1⟩
end
/-! ### The copy is painted over -/
structure MI (col : Nat → Nat) (W : World) (mb n c : Nat) (A : Option Addr) (V : World) : Prop where
  chg : Chg col 3 W V
  cell : V.cell? ⟨mb, 3, none⟩ = some (.slice A n c)
  kb : Kb 0 V A n
  co : n = 0 ∨ ∀ y, A = some y → col y.block = 3
section
variable {w W V : World} {m : MR} {p mb n c g o : Nat} {S : Bx} {A : Option Addr} {col : Nat → Nat} {t t' : Bool}
theorem MI.set (h : MI col W mb n c A V) (hu : V.cell? ⟨g, o, none⟩ = some (.bool t)) (hg : col g = 3) : MI col W mb n c A (V.setCell ⟨g, o, none⟩ (.bool t')) :=
  ⟨h.chg.setCell hg _, cell_apart hu h.cell, h.kb.set hu, h.co⟩
theorem MI.drew (h : MI col W mb n c A V) : MI col W mb n c A V.drew := ⟨h.chg.drew, h.cell, h.kb, h.co⟩
theorem mi_new (h : OM col m mb A c V) (hv : m.vs.length * 64 ≤ 140737488355328) : MI col V mb m.vs.length c A V := by
  refine ⟨Chg.refl _ _ _, h.mx, kb_own h.gv hv, ?_⟩
  rcases h.gv.2 with ⟨e, h0⟩ | ⟨g, cap, cur, e, hb, hg, _⟩
  · exact .inl h0
  · refine .inr fun y hy => ?_
    have hcg := h.cg
    simp only [Value.slice.injEq] at e
    obtain ⟨rfl, -, rfl⟩ := e
    cases hy
    exact hcg g rfl
theorem MI.ob (h : MI col W mb n c A V) (hO : OB w m p S col W) : OB w m p S col V := hO.other h.chg (by decide) (by decide) (by decide)
end
def colB (b k : Nat) : Nat := if k = b then 2 else 0
/-- how it begins -/
theorem ob_start {w Wc w1 w2 : World} {m0 : MR} {p : Nat} {col : Nat → Nat} (hP : P4 w.heap.size m0 Wc) (hBc : Below w.heap.size w Wc) (hsc : Wc.heap.size = w.heap.size + 1) (hl : BoxAt col 1 w1 p (B0 0)) (hC : Cn 1 (colB w.heap.size) Wc col w1) (kv : HV w m0.A m0.c m0.vs) (ks : Sm m0.vs) (hB2 : Below w1.heap.size w1 w2) :
    OB w (fw m0) p (B0 0) col (put4 w2 w.heap.size (fw m0)) := by
  have hcb : col w.heap.size = 2 := (hC.1 _ (by omega)).trans (if_pos rfl)
  have hc0 : ∀ k, k < w.heap.size → col k = 0 := fun k hk => (hC.1 k (by omega)).trans (if_neg (by omega))
  have hs1 := hC.2.2.size
  have hP1 : P4 w.heap.size m0 w1 := hP.of_block (hC.2.2.block _ (by omega) (by show colB _ _ ≠ 1; unfold colB; rw [if_pos rfl]; decide))
  have hP2 : P4 w.heap.size m0 w2 := P4.below hP1 hB2
  have hg : Chg col 2 w2 (put4 w2 w.heap.size (fw m0)) := chg_put4 hcb _
  have hB1 : Below w.heap.size w w1 := hBc.trans (hC.2.2.below (by omega) fun k hk => by show colB _ k ≠ 1; unfold colB; rw [if_neg (by omega)]; decide)
  have hBw : Below w.heap.size w w2 := trans0 hB1 hB2
  have hv2 : HV w2 (fw m0).A (fw m0).c (fw m0).vs := HV.few (kv.below hBw)
  have hD : DV col w2 (fw m0) := by
    refine ⟨hv2, fun v hv => ks v (List.mem_of_mem_take hv), ?_⟩
    by_cases h0 : m0.vs = []
    · exact .inl (by show m0.vs.take 12 = []; rw [h0]; rfl)
    · exact .inr fun y e => hc0 _ (hv_lt kv h0 e)
  refine ⟨(hl.below hB2).other hg (by decide) (by decide) (Ext.refl _ _), P4.put hP2 (fw m0), hD.go hg (by decide) (Ext.refl _ _), ?_, ?_, ?_, hC.2.1.up (Nat.le_trans hB2.size hg.size)⟩
  · exact hBw.trans (hg.below hBw.size fun k hk => by rw [hc0 k hk]; decide)
  · intro k hk
    rcases (by omega : k < w.heap.size ∨ k = w.heap.size) with e | e
    · exact .inl (hc0 k e)
    · rw [e]; exact .inr hcb
  · have := hB2.size; have := hg.size; omega
section
variable {w : World} {m0 : MR}
/-- a box with one that came -/
def S1 (m : MR) : Bx := ⟨0, [m.r], 0, [false], []⟩
theorem ok_S1 (m : MR) : (S1 m).ok := ⟨rfl, by simp [S1], fun i h1 h2 => by simp only [S1, List.length_singleton] at h2 ⊢; obtain rfl : i = 0 := by omega
                                                                            rfl, fun x hx => (by cases hx)⟩
theorem lim_S1 (m : MR) : (S1 m).lim := ⟨by simp [S1], by simp [S1], by simp [S1]⟩
theorem there_S1 (m : MR) : isThere (S1 m) = true := rfl
theorem nt_S1 (m : MR) : nt (S1 m).came (S1 m).handed = m.r := rfl
theorem fw_len (m : MR) : (fw m).vs.length ≤ 12 := by show (m.vs.take 12).length ≤ 12; rw [List.length_take]; omega
set_option maxHeartbeats 4000000 in
theorem owns_any (m0 : MR) (w : World) (kv : HV w m0.A m0.c m0.vs) (ks : Sm m0.vs) : Calls Try.prog 6 #[rv m0] w fun e w' => e = .returned (.bool true) ∧ Below w.heap.size w w' := by
  obtain ⟨Wc, hWc⟩ : ∃ Wc, w.alloc (.cells #[.int .u64 m0.ts, .int .i64 m0.dc, .int .i64 m0.tx, .slice m0.A m0.vs.length m0.c] 30) = Wc := ⟨_, rfl⟩
  have hP : P4 w.heap.size m0 Wc := by rw [← hWc]; exact P4.new w m0
  have hBc : Below w.heap.size w Wc := by rw [← hWc]; exact al0 _ _
  have hsc : Wc.heap.size = w.heap.size + 1 := by rw [← hWc]; simp
  have hcf : Fresh (colB w.heap.size) Wc := fun k hk => if_neg (by omega)
  have hnew := Lib.hid (new_any 0 Wc)
  obtain ⟨hA, hC⟩ := at_new (col := colB w.heap.size) (c := 1) Wc 0 hcf
  obtain ⟨W1, hW1⟩ : ∃ W1, newB Wc 0 = W1 := ⟨_, rfl⟩
  obtain ⟨p, hp⟩ : ∃ p, Wc.heap.size + 1 = p := ⟨_, rfl⟩
  rw [hW1] at hA hC hnew
  rw [hp] at hA hnew
  have hP1 : P4 w.heap.size m0 W1 := hP.of_block (hC.2.2.block _ (by omega) (by show colB _ _ ≠ 1; unfold colB; rw [if_pos rfl]; decide))
  generalize colP (colB w.heap.size) Wc.heap.size 1 = col at *
  have hob := Lib.hid (fun w2 hB2 => ob_start (w2 := w2) hP hBc hsc hA hC kv ks hB2)
  have hfew := Lib.hid (few_any m0 W1 kv.le kv.top)
  have hP1' := Lib.hid hP1
  obtain ⟨b0, b1, b2, b3⟩ := hP1.r4
  clear hP hBc hsc hcf hA hC hP1 hW1 hp kv ks
  replace hWc := Lib.hid hWc
  go_enter Try.func6, Try.ntmps6
  go_wp2_with (fail)
  rw [hWc.out]
  with_reducible refine hnew.out.mono ?_
  rintro e w1 ⟨rfl, rfl⟩
  go_wp2_with (fail)
  with_reducible refine hfew.out.mono ?_
  rintro e w2 ⟨rfl, hB2⟩
  have hO2 := hob.out w2 hB2
  obtain ⟨b0', b1', b2', b3'⟩ := (P4.below hP1'.out hB2).r4
  obtain ⟨f0, f1, f2, f3⟩ := (P4.below hP1'.out hB2).fz
  replace hO2 := Lib.hid hO2
  clear b0 b1 b2 b3 hnew hfew hob hB2 hP1'
  go_upto_region 5 with (fail)
  obtain ⟨m, hm⟩ : ∃ m, fw m0 = m := ⟨_, rfl⟩
  have hml : m.vs.length ≤ 12 := by rw [← hm]; exact fw_len m0
  rw [hm] at hO2 ⊢
  obtain ⟨W3, hW3⟩ : ∃ W3, ((((w2.setCell ⟨w.heap.size, 0, none⟩ (.int .u64 m.ts)).setCell ⟨w.heap.size, 1, none⟩ (.int .i64 m.dc)).setCell ⟨w.heap.size, 2, none⟩ (.int .i64 m.tx)).setCell ⟨w.heap.size, 3, none⟩ (.slice m.A m.vs.length m.c)) = W3 := ⟨_, rfl⟩
  rw [hW3]
  have hO3 := Lib.hid (show OB w m p (B0 0) col W3 from by rw [← hW3]; exact hO2.out)
  clear hW3 hO2 b0' b1' b2' b3' f0 f1 f2 f3
  replace hm := Lib.hid hm
  have hv12 : m.vs.length * 64 ≤ 140737488355328 := by omega
  obtain ⟨b0, b1, b2, b3⟩ := hO3.out.rb.r4
  go_wp2_with (fail)
  with_reducible refine (rcopy_any m W3 hO3.out.dv.hv).mono ?_
  rintro e w4 ⟨A, c, rfl, hG, hB4⟩
  clear b0 b1 b2 b3
  go_upto_region 6 with (fail)
  obtain ⟨col5, hO5, hM5⟩ := ob_mine hO3.out (mc := { m with A := A, c := c }) hG hB4
  have hP5 := P4.new w4 { m with A := A, c := c }
  simp only at hO5 hM5 hP5
  obtain ⟨W5, hW5⟩ : ∃ W5, w4.alloc (.cells #[.int .u64 m.ts, .int .i64 m.dc, .int .i64 m.tx, .slice A m.vs.length c] 30) = W5 := ⟨_, rfl⟩
  rw [hW5] at hO5 hM5 hP5 ⊢
  have hput := Lib.hid (put_at W5 hO5.box (ok_B0 0) (lim_B0 (by omega)) (by decide) hO5.fr 0 { m with A := A, c := c } (hM5.gv.hv hv12) hO5.dv.sm)
  have e1 : bxE (B0 0) 0 = 0 := by decide
  rw [e1] at hput
  obtain ⟨f0, f1, f2, f3⟩ := hP5.r4
  have hlv := Lib.hid (fun V' S' (hl : Lv col5 1 p S' W5 V') => (by
    obtain ⟨c2, h1, h2⟩ := ob_lv hO5 hl
    exact ⟨c2, h1, h2 _ _ _ _ hM5⟩ : ∃ col', OB w m p S' col' V' ∧ OM col' { m with A := A, c := c } w4.heap.size A c V'))
  generalize w4.heap.size = mb at *
  clear hG hB4 hW5 hO3 hO5 hM5 hP5 e1
  go_wp2_with (fail)
  with_reducible refine hput.out.mono ?_
  rintro e w6 ⟨rfl, hL6⟩
  obtain ⟨c6, hO6, hM6⟩ := hlv.out _ _ hL6
  have hS : bxS (B0 0) 0 ({ m with A := A, c := c } : MR).r = S1 m := rfl
  rw [hS] at hO6
  have hMI := Lib.hid (mi_new hM6 hv12)
  have x3 := hM6.mx
  simp only at hMI x3
  replace hO6 := Lib.hid hO6
  have hn9 : m.vs.length ≤ 12 := hml
  obtain ⟨n, hn⟩ : ∃ n, m.vs.length = n := ⟨_, rfl⟩
  rw [hn] at hMI x3 hn9
  clear hput hlv hL6 hM6 hS f0 f1 f2 f3
  replace hn := Lib.hid hn
  go_wp2
  clear x3
  go_loopw [26] (fun t wr => ∃ j : Nat, j ≤ n ∧ t = .int .i64 j ∧ Hid (MI c6 w6 mb n c A wr)) (fun t _ => n - (intOf t).toNat)
  case atStart => exact ⟨0, Nat.zero_le _, rfl, hMI⟩
  case round =>
    clear hMI
    obtain ⟨j, hj, rfl, hX⟩ := hrel
    by_cases hjl : j < n
    · have hx3 := hX.out.cell
      rcases hX.out.kb with h0 | ⟨g, hg, hbg, hcs⟩
      · omega
      · obtain ⟨⟨u, hcy⟩, hfy⟩ := hcs j hjl
        have hcg : c6 g = 3 := by
          rcases hX.out.co with h0 | h0
          · omega
          · exact h0 _ hg
        have hst := Lib.hid (hX.out.set (t' := !u) hcy hcg)
        have hy0 : (0 : Int) ≤ (j : Int) := by omega
        have hy1 : (j : Int) < (n : Int) := by omega
        rw [hg] at hx3
        clear hcs hX hcg
        go_wp2
        go_region
        go_wp2
        go_roundw
        case rel => exact ⟨j + 1, by omega, by go_num, by first | exact hst | exact Lib.hid hst.out.drew⟩
        case measure => simp [intOf]; omega
    · obtain rfl : j = n := by omega
      have hO7 := hX.out.ob hO6.out
      generalize wr = w7 at *
      clear hX hO6
      have hpk := Lib.hid (peek_at w7 hO7.box (ok_S1 m))
      rw [there_S1, nt_S1] at hpk
      replace hO7 := Lib.hid hO7
      go_wp2_with (fail)
      with_reducible refine hpk.out.mono ?_
      rintro e w8 ⟨mc, rfl, hOw, hB8⟩
      go_upto_region 14 with (fail)
      obtain ⟨c9, hO9, hM9⟩ := ob_mine hO7.out hOw.gv hB8
      obtain ⟨W9, hW9⟩ : ∃ W9, w8.alloc (.cells #[.int .u64 mc.ts, .int .i64 mc.dc, .int .i64 mc.tx, .slice mc.A mc.vs.length mc.c] 30) = W9 := ⟨_, rfl⟩
      rw [hW9] at hO9 hM9 ⊢
      have hMI := Lib.hid (mi_new hM9 hOw.sz)
      have x3 := hM9.mx
      replace hO9 := Lib.hid hO9
      have hmv : mc.vs.length = j := by rw [show mc.vs = m.vs from congrArg Prod.snd hOw.r]; exact hn.out
      rw [hmv] at hMI x3
      generalize mc.A = A9 at *
      generalize mc.c = cc9 at *
      generalize w8.heap.size = pb at *
      clear hOw hB8 hM9 hW9 hO7 hpk
      go_wp2
      clear x3
      go_loopw [50] (fun t wr => ∃ k : Nat, k ≤ j ∧ t = .int .i64 k ∧ Hid (MI c9 W9 pb j cc9 A9 wr)) (fun t _ => j - (intOf t).toNat)
      case atStart => exact ⟨0, Nat.zero_le _, rfl, hMI⟩
      case round =>
        clear hMI
        obtain ⟨k, hk, rfl, hX⟩ := hrel
        by_cases hkl : k < j
        · have hx3 := hX.out.cell
          rcases hX.out.kb with h0 | ⟨g, hg, hbg, hcs⟩
          · omega
          · obtain ⟨⟨u, hcy⟩, hfy⟩ := hcs k hkl
            have hcg : c9 g = 3 := by
              rcases hX.out.co with h0 | h0
              · omega
              · exact h0 _ hg
            have hst := Lib.hid (hX.out.set (t' := !u) hcy hcg)
            have hy0 : (0 : Int) ≤ (k : Int) := by omega
            have hy1 : (k : Int) < (j : Int) := by omega
            rw [hg] at hx3
            clear hcs hX hcg
            go_wp2
            go_region
            go_wp2
            go_roundw
            case rel => exact ⟨k + 1, by omega, by go_num, by first | exact hst | exact Lib.hid hst.out.drew⟩
            case measure => simp [intOf]; omega
        · obtain rfl : k = j := by omega
          have hO10 := hX.out.ob hO9.out
          generalize wr = w10 at *
          clear hX hO9
          have hnx := Lib.hid (next_at w10 hO10.box (ok_S1 m) (lim_S1 m) (by decide) hO10.fr)
          rw [there_S1, nt_S1] at hnx
          replace hO10 := Lib.hid hO10
          go_wp2_with (fail)
          with_reducible refine hnx.out.mono ?_
          rintro e w11 ⟨mq, rfl, hOw, hL⟩
          obtain ⟨c11, hO11, -⟩ := ob_lv hO10.out hL
          go_upto_region 20 with (fail)
          have hal := al0 w11 (.cells #[.int .u64 mq.ts, .int .i64 mq.dc, .int .i64 mq.tx, .slice mq.A mq.vs.length mq.c] 30)
          have hO12 := hO11.below hal
          have hOw12 := hOw.below hal
          have hPq := P4.new w11 mq
          obtain ⟨W12, hW12⟩ : ∃ W12, w11.alloc (.cells #[.int .u64 mq.ts, .int .i64 mq.dc, .int .i64 mq.tx, .slice mq.A mq.vs.length mq.c] 30) = W12 := ⟨_, rfl⟩
          rw [hW12] at hO12 hOw12 hPq ⊢
          replace hO12 := Lib.hid hO12
          replace hOw12 := Lib.hid hOw12
          replace hPq := Lib.hid hPq
          generalize w11.heap.size = qb at *
          clear hal hO11 hOw hL hW12 hnx hO10
          go_wp2_with (fail)
          refine (awake_any W12).mono ?_
          rintro e w13 ⟨rfl, hB13⟩
          have hO13 := hO12.out.below hB13
          have hOw13 := hOw12.out.below hB13
          have hsm := Lib.hid (rsame_any mq m w13 (hOw13.gv.hv hOw13.sz) hO13.dv.hv)
          have hs1 : sameR mq m = true := decide_eq_true hOw13.r
          rw [hs1] at hsm
          obtain ⟨b0, b1, b2, b3⟩ := hO13.rb.r4
          obtain ⟨d0, d1, d2, d3⟩ := (P4.below hPq.out hB13).r4
          have hB := Lib.hid hO13.bel
          clear hO13 hOw13 hO12 hOw12 hB13 hs1 hPq
          go_wp2_with (fail)
          with_reducible refine hsm.out.mono ?_
          rintro e w14 ⟨rfl, hB14⟩
          have hfin := Lib.hid (trans0 hB.out hB14)
          clear hB hB14 b0 b1 b2 b3 d0 d1 d2 d3
          go_wp2
          go_ret
          exact ⟨rfl, hfin.out⟩
end
end Go.Proofs.Ytbfepdibblialaa.inO
