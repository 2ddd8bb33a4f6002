/- A log and the document's own, side by side. -/
import Derived.Test.YtipnmgihbpbonaaOrdPw
import Derived.Test.YtipnmgihbpbonaaOrdRj
import Derived.Test.YtipnmgihbpbonaaRngS
set_option linter.unusedVariables false
set_option linter.unusedSimpArgs false
set_option maxRecDepth 100000
namespace Go.Proofs.Ytipnmgihbpbonaa.ordPa
open Go.ChangeShapes Go.WideShapes Go.ChangeAt Go.RowKit Go.Deep
open opG opV opR chnM gen chnA chnR chnE ordA ordB ordC ordM ordL ordD ordH ordI ordK ordRl ordW ordS ordE2 ordE3 ordRi ordQ ordP ordPw

theorem doc_other {col col' : Nat → Nat} {c d : Nat} {w w1 : World} {p : Nat} {L : Lg} (h : DocAt col c w p L) (hg : Chg col d w w1) (hd : d ≠ 0) (hcd : c ≠ d) (he : Ext w col col') : DocAt col' c w1 p L := by
  obtain ⟨D, d1, d2, d3, h⟩ := h
  exact ⟨D, d1, d2, d3, h.other hg hd hcd he⟩
theorem doc_below {col : Nat → Nat} {c : Nat} {w w1 : World} {p : Nat} {L : Lg} (h : DocAt col c w p L) (hB : Below w.heap.size w w1) : DocAt col c w1 p L := by
  obtain ⟨D, d1, d2, d3, h⟩ := h
  exact ⟨D, d1, d2, d3, h.below hB⟩
theorem doc_ext {col col' : Nat → Nat} {c : Nat} {w : World} {p : Nat} {L : Lg} (h : DocAt col c w p L) (he : Ext w col col') : DocAt col' c w p L := by
  obtain ⟨D, d1, d2, d3, h⟩ := h
  exact ⟨D, d1, d2, d3, h.ext he⟩
/-- both, the box of the answer and the box of a call -/
def P2 (w : World) (p q : Nat) (X Y : Lg) (B : Nat) (o : Oq) (wr : World) : Prop :=
  ∃ col, LogAt T1 col 1 wr p X ∧ DocAt col 2 wr q Y ∧ Fresh col wr ∧ (∀ k, k < w.heap.size + 1 → col k = 0) ∧ Below (w.heap.size + 1) (w.alloc (.cells #[.bool false] 4)) wr ∧ B6 B o wr ∧ col B = 0
/-- both -/
def P0 (w : World) (p q : Nat) (X : Lg) (wr : World) : Prop :=
  ∃ col, LogAt T1 col 1 wr p X ∧ DocAt col 2 wr q X ∧ Fresh col wr ∧ (∀ k, k < w.heap.size + 1 → col k = 0) ∧ Below (w.heap.size + 1) (w.alloc (.cells #[.bool false] 4)) wr
theorem b6_go {col : Nat → Nat} {c B : Nat} {o : Oq} {w w1 : World} (h : B6 B o w) (hg : Chg col c w w1) (hc : c ≠ 0) (hB : col B = 0) : B6 B o w1 := by
  have hlt := World.block_lt_of_cell? _ _ h.1
  have e := hg.block B hlt (by rw [hB]; exact fun e => hc e.symm)
  exact ⟨(World.cell?_of_block (a := ⟨B, 0, none⟩) e).trans h.1, R4.of_block h.2.1 e, (World.cell?_of_block (a := ⟨B, 5, none⟩) e).trans h.2.2⟩
section
variable {w wr w1 : World} {p q B : Nat} {X Y : Lg} {o : Oq}
theorem P0.below (h : P0 w p q X wr) (hB : Below wr.heap.size wr w1) : P0 w p q X w1 := by
  obtain ⟨col, h1, h2, h3, h4, h5⟩ := h
  exact ⟨col, h1.below hB, doc_below h2 hB, h3.up hB.size, h4, h5.trans (hB.mono (by have := h5.size; rw [World.size_alloc] at this; exact this))⟩
theorem P0.sz (h : P0 w p q X wr) : w.heap.size + 1 ≤ wr.heap.size := by
  obtain ⟨col, h1, h2, h3, h4, h5⟩ := h
  have := h5.size; rw [World.size_alloc] at this; exact this
theorem P0.bel (h : P0 w p q X wr) : Below w.heap.size w wr := by
  obtain ⟨col, h1, h2, h3, h4, h5⟩ := h
  exact (al0 w _).trans (h5.mono (Nat.le_succ _))
theorem P2.below (h : P2 w p q X Y B o wr) (hB : Below wr.heap.size wr w1) : P2 w p q X Y B o w1 := by
  obtain ⟨col, h1, h2, h3, h4, h5, h6, h7⟩ := h
  exact ⟨col, h1.below hB, doc_below h2 hB, h3.up hB.size, h4, h5.trans (hB.mono (by have := h5.size; rw [World.size_alloc] at this; exact this)), h6.below hB, h7⟩
theorem P2.p0 (h : P2 w p q X X B o wr) : P0 w p q X wr := by
  obtain ⟨col, h1, h2, h3, h4, h5, h6, h7⟩ := h
  exact ⟨col, h1, h2, h3, h4, h5⟩
theorem P2.b6 (h : P2 w p q X Y B o wr) : B6 B o wr := by
  obtain ⟨col, h1, h2, h3, h4, h5, h6, h7⟩ := h
  exact h6
theorem P2.bel (h : P2 w p q X Y B o wr) : Below w.heap.size w wr := by
  obtain ⟨col, h1, h2, h3, h4, h5, h6, h7⟩ := h
  exact (al0 w _).trans (h5.mono (Nat.le_succ _))
theorem P0.p2 (h : P0 w p q X wr) (o : Oq) : P2 w p q X X wr.heap.size o (wr.alloc (.cells (oC o) 34)) := by
  obtain ⟨col, h1, h2, h3, h4, h5⟩ := h
  have hB := al0 wr (.cells (oC o) 34)
  exact ⟨col, h1.below hB, doc_below h2 hB, h3.up hB.size, h4, h5.trans (hB.mono (by have := h5.size; rw [World.size_alloc] at this; exact this)), B6.new wr o, h3 _ (Nat.le_refl _)⟩
theorem P2.dec (h : P2 w p q X Y B o wr) (hX : X.ok) (hl : X.st.length + X.wt.length ≤ 90) (m : MR) (hm : HV wr m.A m.c m.vs) (hs : Sm m.vs) :
    Calls Try.prog 9 #[.pointer (some ⟨p, 0, none⟩), rv m] wr fun e w' => e = .returned (.int .i64 (dE X m.r)) ∧ P2 w p q (dS X m.r) Y B o w' := by
  obtain ⟨col, h1, h2, h3, h4, h5, h6, h7⟩ := h
  refine (decide_at wr h1 hX (by omega) h3 m hm hs hl).mono ?_
  rintro e w' ⟨rfl, col', ⟨g1, g2, g3⟩, hL⟩
  have hsz : w.heap.size + 1 ≤ wr.heap.size := by have := h5.size; rw [World.size_alloc] at this; exact this
  exact ⟨rfl, col', hL, doc_other h2 g3 (by omega) (by omega) g1, g2, fun k hk => by rw [g1 k (by omega)]; exact h4 k hk, h5.trans (g3.below hsz (fun k hk => by rw [h4 k hk]; omega)), b6_go h6 g3 (by omega) h7, by rw [g1 B (World.block_lt_of_cell? _ _ h6.1)]; exact h7⟩
theorem P2.ddec (h : P2 w p q X Y B o wr) (hl : Y.st.length + Y.wt.length ≤ 90) (m : MR) (hm : HV wr m.A m.c m.vs) (hs : Sm m.vs) :
    Calls Try.prog 11 #[.pointer (some ⟨q, 0, none⟩), rv m] wr fun e w' => e = .returned (.int .i64 (dE Y m.r)) ∧ P2 w p q X (dS Y m.r) B o w' := by
  obtain ⟨col, h1, h2, h3, h4, h5, h6, h7⟩ := h
  refine (doc_decide wr h2 (by omega) h3 m hm hs hl).mono ?_
  rintro e w' ⟨rfl, col', ⟨g1, g2, g3⟩, hL⟩
  have hsz : w.heap.size + 1 ≤ wr.heap.size := by have := h5.size; rw [World.size_alloc] at this; exact this
  exact ⟨rfl, col', h1.other g3 (by omega) (by omega) g1, hL, g2, fun k hk => by rw [g1 k (by omega)]; exact h4 k hk, h5.trans (g3.below hsz (fun k hk => by rw [h4 k hk]; omega)), b6_go h6 g3 (by omega) h7, by rw [g1 B (World.block_lt_of_cell? _ _ h6.1)]; exact h7⟩
theorem P2.rel (h : P2 w p q X Y B o wr) (hX : X.ok) (hl : X.st.length + X.wt.length ≤ 90) (t : Int) :
    Calls Try.prog 12 #[.pointer (some ⟨p, 0, none⟩), .int .u64 t] wr fun e w' => e = .returned (.int .i64 (cnt X t)) ∧ P2 w p q (rS X t) Y B o w' := by
  obtain ⟨col, h1, h2, h3, h4, h5, h6, h7⟩ := h
  refine (release_at wr h1 hX (by omega) h3 t hl).mono ?_
  rintro e w' ⟨rfl, col', ⟨g1, g2, g3⟩, hL⟩
  have hsz : w.heap.size + 1 ≤ wr.heap.size := by have := h5.size; rw [World.size_alloc] at this; exact this
  exact ⟨rfl, col', hL, doc_other h2 g3 (by omega) (by omega) g1, g2, fun k hk => by rw [g1 k (by omega)]; exact h4 k hk, h5.trans (g3.below hsz (fun k hk => by rw [h4 k hk]; omega)), b6_go h6 g3 (by omega) h7, by rw [g1 B (World.block_lt_of_cell? _ _ h6.1)]; exact h7⟩
theorem P2.drel (h : P2 w p q X Y B o wr) (hY : Y.ok) (hl : Y.st.length + Y.wt.length ≤ 90) (t : Int) :
    Calls Try.prog 13 #[.pointer (some ⟨q, 0, none⟩), .int .u64 t] wr fun e w' => e = .returned (.int .i64 (cnt Y t)) ∧ P2 w p q X (rS Y t) B o w' := by
  obtain ⟨col, h1, h2, h3, h4, h5, h6, h7⟩ := h
  refine (doc_release wr h2 hY (by omega) h3 t hl).mono ?_
  rintro e w' ⟨rfl, col', ⟨g1, g2, g3⟩, hL⟩
  have hsz : w.heap.size + 1 ≤ wr.heap.size := by have := h5.size; rw [World.size_alloc] at this; exact this
  exact ⟨rfl, col', h1.other g3 (by omega) (by omega) g1, hL, g2, fun k hk => by rw [g1 k (by omega)]; exact h4 k hk, h5.trans (g3.below hsz (fun k hk => by rw [h4 k hk]; omega)), b6_go h6 g3 (by omega) h7, by rw [g1 B (World.block_lt_of_cell? _ _ h6.1)]; exact h7⟩
theorem P0.len_ (h : P0 w p q X wr) : Calls Try.prog 14 #[.pointer (some ⟨p, 0, none⟩)] wr fun e w' => e = .returned (.int .i64 X.st.length) ∧ wr = w' := by
  obtain ⟨col, h1, h2, h3, h4, h5⟩ := h
  exact len_at wr h1
theorem P0.wait_ (h : P0 w p q X wr) : Calls Try.prog 15 #[.pointer (some ⟨p, 0, none⟩)] wr fun e w' => e = .returned (.int .i64 X.wt.length) ∧ wr = w' := by
  obtain ⟨col, h1, h2, h3, h4, h5⟩ := h
  exact waiting_at wr h1
/-- the document's rows, by their lengths -/
theorem P0.rows (h : P0 w p q X wr) : ∃ A1 c1 A2 c2 ms mw, wr.cell? ⟨q, 0, none⟩ = some (.slice A1 X.st.length c1) ∧ wr.cell? ⟨q, 1, none⟩ = some (.slice A2 X.wt.length c2) ∧ ms.map MR.r = X.st ∧ RR2 wr A1 c1 ms ∧ ms.length = X.st.length ∧ mw = ms := by
  obtain ⟨col, h1, ⟨D, d1, d2, d3, A1, c1, A2, c2, ms, mw, h⟩, h3, h4, h5⟩ := h
  have hq := at_len h
  have hpl := d3.length_eq
  obtain ⟨k0, k1, k2⟩ := h.cells
  rw [hq.1, d1] at k0
  rw [hq.2, hpl] at k1
  exact ⟨A1, c1, A2, c2, ms, ms, k0, k1, by rw [h.e1, d1], ⟨log_hs h, fun m hm => (h.d1 m hm).hv⟩, by rw [hq.1, d1], rfl⟩
end
theorem p0_new (w : World) : P0 w (w.heap.size + 1) (w.heap.size + 2) L0 (((w.alloc (.cells #[.bool false] 4)).alloc (.cells #[.slice none 0 0, .slice none 0 0, .int .u64 0] T1)).alloc (.cells #[.slice none 0 0, .slice none 0 0, .int .u64 0] T2)) := by
  obtain ⟨hA, hfA, heA⟩ := at_new (T := T1) (col := fun _ => 0) (c := 1) (w.alloc (.cells #[.bool false] 4)) (by decide) (fun _ _ => rfl)
  obtain ⟨hC, hfC, heC⟩ := at_new (T := T2) (c := 2) ((w.alloc (.cells #[.bool false] 4)).alloc (.cells #[.slice none 0 0, .slice none 0 0, .int .u64 0] T1)) (by decide) hfA
  have e1 : (w.alloc (.cells #[.bool false] 4)).heap.size = w.heap.size + 1 := by simp
  have e2 : ((w.alloc (.cells #[.bool false] 4)).alloc (.cells #[.slice none 0 0, .slice none 0 0, .int .u64 0] T1)).heap.size = w.heap.size + 2 := by simp
  rw [e1] at hA hfA heA heC hfC hC
  rw [e2] at hC hfC heC
  refine ⟨_, (hA.ext (fun k hk => heC k hk)).below (al0 _ _), ⟨L0, rfl, rfl, List.Perm.refl _, hC⟩, hfC, fun k hk => ?_, ?_⟩
  · rw [heC k (by rw [e2]; omega), heA k (by rw [e1]; exact hk)]
  · have := trans0 (al0 (w.alloc (.cells #[.bool false] 4)) (.cells #[.slice none 0 0, .slice none 0 0, .int .u64 0] T1)) (al0 _ (.cells #[.slice none 0 0, .slice none 0 0, .int .u64 0] T2))
    rw [e1] at this
    exact this
end Go.Proofs.Ytipnmgihbpbonaa.ordPa
