/- OrderRises. -/
import Derived.Test.YtipnmgihbpbonaaOrdE3
import Derived.Test.YtipnmgihbpbonaaOpR
set_option linter.unusedVariables false
set_option linter.unusedSimpArgs false
set_option maxRecDepth 100000
namespace Go.Proofs.Ytipnmgihbpbonaa.ordRi
open Go.ChangeShapes Go.WideShapes Go.ChangeAt Go.RowKit Go.Deep
open opG opV opR chnM gen chnA chnR chnE ordA ordB ordC ordM ordL ordD ordH ordI ordK ordRl ordW ordS ordE2 ordE3

/-! ### Rows of commits that nobody changes any more -/
structure Cz (col : Nat → Nat) (w : World) (A : Option Addr) (c : Nat) (l : List MR) : Prop where
  row : HR w A c l
  dv : ∀ m ∈ l, DV col w m
  co : l = [] ∨ ∀ y, A = some y → col y.block = 0
theorem hr_lt {w : World} {A : Option Addr} {c : Nat} {l : List MR} (h : HR w A c l) (h0 : l ≠ []) {y : Addr} (e : A = some y) : y.block < w.heap.size := by
  obtain ⟨b, off, e2, hlt, _⟩ := h.at (i := 0) (List.length_pos_iff.2 h0)
  rw [e] at e2; cases e2
  exact hlt
section
variable {col col' : Nat → Nat} {c d : Nat} {w w1 : World} {A : Option Addr} {l : List MR}
theorem Cz.go (h : Cz col w A d l) (hg : Chg col c w w1) (hc : c ≠ 0) (he : Ext w col col') : Cz col' w1 A d l := by
  by_cases h0 : l = []
  · subst h0
    exact ⟨ordF.hr_block h.row hg.size (.inl rfl), fun m hm => (by cases hm), .inl rfl⟩
  · have hco := h.co.resolve_left h0
    refine ⟨ordF.hr_block h.row hg.size (.inr fun y e => hg.block _ (hr_lt h.row h0 e) (by rw [hco y e]; exact fun e => hc e.symm)), fun m hm => (h.dv m hm).go hg hc he, .inr fun y e => ?_⟩
    rw [he _ (hr_lt h.row h0 e)]
    exact hco y e
theorem Cz.below (h : Cz col w A d l) (hB : Below w.heap.size w w1) : Cz col w1 A d l := h.go (Chg.of_below col 1 hB) (by omega) (Ext.refl _ _)
theorem Cz.nil_ (col : Nat → Nat) (w : World) : Cz col w none 0 [] := ⟨(GR.nil_ w 0).hv (by simp), fun m hm => (by cases hm), .inl rfl⟩
theorem Cz.rr2 (h : Cz col w A d l) : RR2 w A d l := ⟨h.row, fun m hm => (h.dv m hm).hv⟩
theorem Cz.take (h : Cz col w A d l) {n : Nat} (hn : n ≤ l.length) : Cz col w A d (l.take n) :=
  ⟨hv_to h.row hn, fun m hm => h.dv m (List.mem_of_mem_take hm), h.co.imp (fun e => by rw [e]; simp) id⟩
theorem Cz.of_got (h : Got w.heap.size A d l w1) (hl : l.length ≤ 200) (hf : Fresh col w) : Cz col w1 A d l := by
  refine ⟨h.row.hv (by omega), fun m hm => DV.of_gv (h.vs m hm).1 (h.vs m hm).2.1 (h.vs m hm).2.2 hf, ?_⟩
  by_cases h0 : l = []
  · exact .inl h0
  · refine .inr fun y e => hf _ ?_
    rcases h.row.2 with ⟨e1, h2⟩ | ⟨g, cap, cur, e1, h2, _⟩
    · simp only [Value.slice.injEq] at e1; rw [e] at e1; cases e1.1
    · simp only [Value.slice.injEq] at e1; rw [e] at e1
      obtain ⟨e3, _, _⟩ := e1
      cases e3
      exact h2
end
/-- between two calls: the log L, what was stable -/
def Rst (w : World) (p : Nat) (L : Lg) (n : Nat) (A : Option Addr) (c : Nat) (l : List MR) (wr : World) : Prop :=
  ∃ col, LogAt T1 col 1 wr p L ∧ L.ok ∧ Fresh col wr ∧ (∀ k, k < w.heap.size → col k ≠ 1) ∧ Cz col wr A c l ∧ L.st.length + L.wt.length ≤ n ∧ Below w.heap.size w wr
section
variable {w wr w1 : World} {p n : Nat} {L L' : Lg} {A : Option Addr} {c : Nat} {l : List MR}
theorem Rst.below (h : Rst w p L n A c l wr) (hB : Below wr.heap.size wr w1) : Rst w p L n A c l w1 := by
  obtain ⟨col, h1, h2, h3, h4, h5, h6, h7⟩ := h
  exact ⟨col, h1.below hB, h2, h3.up hB.size, h4, h5.below hB, h6, h7.trans (hB.mono h7.size)⟩
theorem Rst.bel (h : Rst w p L n A c l wr) : Below w.heap.size w wr := by
  obtain ⟨col, h1, h2, h3, h4, h5, h6, h7⟩ := h
  exact h7
theorem Rst.lv {col : Nat → Nat} (h1 : Fresh col wr) (h4 : ∀ k, k < w.heap.size → col k ≠ 1) (h5 : Cz col wr A c l) (h7 : Below w.heap.size w wr) (h : Lv T1 col 1 p L' wr w1) (hok : L'.ok) (hn : L'.st.length + L'.wt.length ≤ n) : Rst w p L' n A c l w1 := by
  obtain ⟨col', ⟨g1, g2, g3⟩, h⟩ := h
  exact ⟨col', h, hok, g2, fun k hk => by rw [g1 k (Nat.lt_of_lt_of_le hk h7.size)]; exact h4 k hk, h5.go g3 (by omega) g1, hn, h7.trans (g3.below h7.size h4)⟩
theorem Rst.decide_ (h : Rst w p L n A c l wr) (hn : n ≤ 80) (m : MR) (hm : HV wr m.A m.c m.vs) (hs : Sm m.vs) :
    Calls Try.prog 9 #[.pointer (some ⟨p, 0, none⟩), rv m] wr fun e w' => e = .returned (.int .i64 (dE L m.r)) ∧ Rst w p (dS L m.r) (n + 1) A c l w' := by
  obtain ⟨col, h1, h2, h3, h4, h5, h6, h7⟩ := h
  refine (decide_at wr h1 h2 (by omega) h3 m hm hs (by omega)).mono ?_
  rintro e w' ⟨rfl, hL⟩
  obtain ⟨q1, q2, q3⟩ := len_dS L m.r
  exact ⟨rfl, Rst.lv h3 h4 h5 h7 hL (ok_dS h2 _) (by rw [q1]; omega)⟩
theorem Rst.release (h : Rst w p L n A c l wr) (hn : n ≤ 80) (t : Int) :
    Calls Try.prog 12 #[.pointer (some ⟨p, 0, none⟩), .int .u64 t] wr fun e w' => e = .returned (.int .i64 (cnt L t)) ∧ Rst w p (rS L t) (n + 1) A c l w' := by
  obtain ⟨col, h1, h2, h3, h4, h5, h6, h7⟩ := h
  refine (release_at wr h1 h2 (by omega) h3 t (by omega)).mono ?_
  rintro e w' ⟨rfl, hL⟩
  have hl := len_rS L t
  exact ⟨rfl, Rst.lv h3 h4 h5 h7 hL (ok_rS h2 _) (by omega)⟩
theorem Rst.stable_ (h : Rst w p L n A c l wr) (hn : n ≤ 81) (at0 : Int) (h9 : at0 ≤ 9223372036854775807) :
    Calls Try.prog 19 #[.pointer (some ⟨p, 0, none⟩), .int .i64 at0] wr fun e w' => ∃ A2 c2 l2, e = .returned (.slice A2 l2.length c2) ∧ l2.map MR.r = L.st.drop (ordF.sAt at0) ∧ Rst w p L n A c l w' ∧ Rst w p L n A2 c2 l2 w' := by
  obtain ⟨col, h1, h2, h3, h4, h5, h6, h7⟩ := h
  refine (stable_any at0 wr h1 (by omega) h9).mono ?_
  rintro e w' ⟨A2, c2, l2, rfl, hl, hG, hB⟩
  have hll : l2.length ≤ 200 := by
    have := congrArg List.length hl
    simp at this
    omega
  have hb := (show Rst w p L n A c l wr from ⟨col, h1, h2, h3, h4, h5, h6, h7⟩).below hB
  exact ⟨A2, c2, l2, rfl, hl, hb, col, h1.below hB, h2, h3.up hB.size, h4, Cz.of_got hG hll h3, h6, h7.trans (hB.mono h7.size)⟩
theorem Rst.len_ (h : Rst w p L n A c l wr) : Calls Try.prog 14 #[.pointer (some ⟨p, 0, none⟩)] wr fun e w' => e = .returned (.int .i64 L.st.length) ∧ wr = w' := by
  obtain ⟨col, h1, h2, h3, h4, h5, h6, h7⟩ := h
  exact len_at wr h1
end
/-- a call's six cells -/
abbrev oC (o : Oq) : Array Value := #[.int .i64 o.kind, .int .u64 o.m.ts, .int .i64 o.m.dc, .int .i64 o.m.tx, .slice o.m.A o.m.vs.length o.m.c, .int .u64 o.t]
/-- the box of a call -/
def B6 (b : Nat) (o : Oq) (w : World) : Prop := (w.cell? ⟨b, 0, none⟩ = some (.int .i64 o.kind) ∧ R4 b 1 o.m w ∧ w.cell? ⟨b, 5, none⟩ = some (.int .u64 o.t))
theorem B6.new (w : World) (o : Oq) : B6 w.heap.size o (w.alloc (.cells (oC o) 34)) := by
  have h := fun (j : Nat) (u : Value) (hu : (oC o)[j]? = some u) => (cell_of_row _ _ j _ 34 (0, 0) (heap_alloc_new w (.cells (oC o) 34))).trans hu
  exact ⟨h 0 _ rfl, ⟨h 1 _ rfl, h 2 _ rfl, h 3 _ rfl, h 4 _ rfl⟩, h 5 _ rfl⟩
theorem B6.below {b : Nat} {o : Oq} {w w1 : World} (h : B6 b o w) (hB : Below w.heap.size w w1) : B6 b o w1 := ⟨keep_cell hB h.1, R4.below h.2.1 hB, keep_cell hB h.2.2⟩
/-- the j-th call of a script -/
theorem op_cells {W wr : World} {b o : Nat} {q : Oq} (h : QOp W b o q) (hB : Below W.heap.size W wr) : wr.cell? ⟨b, o, none⟩ = some (.int .i64 q.kind) ∧ R4 b (o + 1) q.m wr ∧ wr.cell? ⟨b, o + 5, none⟩ = some (.int .u64 q.t) :=
  ⟨keep_cell hB h.1.1, R4.below h.1.2.1 hB, keep_cell hB h.1.2.2⟩
theorem sm_few {m : MR} (h : Sm m.vs) : Sm (fw m).vs := fun v hv => h v (List.mem_of_mem_take hv)
end Go.Proofs.Ytipnmgihbpbonaa.ordRi
