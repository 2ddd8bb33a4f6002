/- OrderPlays: what its range over the places keeps. -/
import Derived.Test.YtipnmgihbpbonaaOrdPa
import Derived.RangeFuncBox
set_option linter.unusedVariables false
set_option linter.unusedSimpArgs false
set_option maxRecDepth 100000
namespace Go.Proofs.Ytipnmgihbpbonaa.ordPb
open Go.ChangeShapes Go.WideShapes Go.ChangeAt Go.RowKit Go.Deep Go.Shelf
open opG opV opR chnM gen chnA chnR chnE ordA ordB ordC ordM ordL ordD ordH ordI ordK ordRl ordW ordS ordE2 ordE3 ordRi ordQ ordP ordPw ordPa ordF rngR

/-- between two rounds: one box alone has changed, it holds the place -/
structure AI (col : Nat → Nat) (ab u : Nat) (W0 : World) (n : Nat) (V : World) : Prop where
  chg : Chg col 3 W0 V
  cell : V.cell? ⟨ab, 0, none⟩ = some (.int .i64 ((u + n : Nat) : Int))
  fz : V.frozen? ⟨ab, 0, none⟩ = false
section
variable {col : Nat → Nat} {ab u n : Nat} {W0 V : World}
theorem AI.from_ {C : Nat} (hC : W0.heap.size ≤ C) {f : List YR → Nat} : OwnFrom C (fun pre => AI col ab u W0 (f pre)) := by
  rintro pre V V' row ⟨h1, h2, h3⟩ hg hrow
  have kr := fun r e => (hrow r e).2
  refine ⟨⟨hg.os.trans h1.os, hg.tape.trans h1.tape, hg.output.trans h1.output, Nat.le_trans h1.size hg.size, fun k hk hc => ?_⟩, cell_kept h2 hg kr, (frozen_kept h2 hg kr).trans h3⟩
  exact (hg.block k (Nat.lt_of_lt_of_le hk h1.size) (fun e => by have := (hrow k e.symm).1; omega)).trans (h1.block k hk hc)
theorem AI.next (h : AI col ab u W0 n V) (hc : col ab = 3) (x : Value) (hx : x = .int .i64 ((u + (n + 1) : Nat) : Int)) : AI col ab u W0 (n + 1) (V.setCell ⟨ab, 0, none⟩ x) := by
  subst hx
  exact ⟨h.chg.setCell hc _, World.cell?_setCell_same' _ _ _ (by rw [h.cell]; rfl), by rw [World.frozen?_setCell]; exact h.fz⟩
theorem AI.ks (hi : Nat) (x : Value) : KS (fun k => k = ab) hi V (V.setCell ⟨ab, 0, none⟩ x) := ⟨by rw [World.size_setCell]; exact Nat.le_refl _, fun _ k hk hK => Below.heap_setCell V ⟨ab, 0, none⟩ x k hK⟩
end
/-- the box of the answer -/
theorem p0_rb {w wr : World} {p q : Nat} {X : Lg} (h : P0 w p q X wr) : wr.cell? ⟨w.heap.size, 0, none⟩ = some (.bool false) ∧ wr.frozen? ⟨w.heap.size, 0, none⟩ = false := by
  obtain ⟨col, h1, h2, h3, h4, h5⟩ := h
  have c1 : (w.alloc (.cells #[.bool false] 4)).cell? ⟨w.heap.size, 0, none⟩ = some (.bool false) := cell_of_row _ _ 0 #[.bool false] 4 (0, 0) (heap_alloc_new w _)
  have f1 : (w.alloc (.cells #[.bool false] 4)).frozen? ⟨w.heap.size, 0, none⟩ = false := by simp
  exact ⟨(h5.cell (p := ⟨w.heap.size, 0, none⟩) (by show w.heap.size < _; omega)).trans c1, (h5.frozen (p := ⟨w.heap.size, 0, none⟩) (by show w.heap.size < _; omega)).trans f1⟩
/-- the box of the place is made: a color of its own -/
theorem p0_range {w wc : World} {p q : Nat} {X : Lg} (h : P0 w p q X wc) (at0 : Int) (h9 : at0 ≤ 9223372036854775807) (u : Nat) :
    ∃ col, col wc.heap.size = 3 ∧ (∀ V n, AI col wc.heap.size u (fW (wc.alloc (.cells #[.int .i64 (u : Int)] 3)) (some ⟨p, 0, none⟩) at0) n V → P0 w p q X V) ∧
      AI col wc.heap.size u (fW (wc.alloc (.cells #[.int .i64 (u : Int)] 3)) (some ⟨p, 0, none⟩) at0) 0 (fW (wc.alloc (.cells #[.int .i64 (u : Int)] 3)) (some ⟨p, 0, none⟩) at0) ∧
      Reads Fence.wide 5 Try.prog 30 #[.pointer (some ⟨wc.heap.size + 1 + 1, 0, none⟩), .pointer (some ⟨wc.heap.size + 1, 0, none⟩)] encs (KS (fun k => k = wc.heap.size) (wc.heap.size + 1 + 2)) (RF X.st (sAt at0) (wc.heap.size + 1 + 2)) (fun ys => ys.map (fun y => y.m.r) = X.st.drop (sAt at0)) (fun _ => True) (fW (wc.alloc (.cells #[.int .i64 (u : Int)] 3)) (some ⟨p, 0, none⟩) at0) := by
  have hsz := h.sz
  obtain ⟨col, h1, h2, h3, h4, h5⟩ := h
  have hal := al0 wc (.cells #[.int .i64 (u : Int)] 3)
  have hF := fW_below (wc.alloc (.cells #[.int .i64 (u : Int)] 3)) (some ⟨p, 0, none⟩) at0
  have hB := trans0 hal hF
  have hext : Ext wc col (fun k => if k = wc.heap.size then 3 else col k) := fun k hk => if_neg (by omega)
  have hs1 : (wc.alloc (.cells #[.int .i64 (u : Int)] 3)).heap.size = wc.heap.size + 1 := by simp
  have hs0 := fW_size (wc.alloc (.cells #[.int .i64 (u : Int)] 3)) (some ⟨p, 0, none⟩) at0
  have hc0 : (wc.alloc (.cells #[.int .i64 (u : Int)] 3)).cell? ⟨wc.heap.size, 0, none⟩ = some (.int .i64 (u : Int)) := cell_of_row _ _ 0 #[.int .i64 (u : Int)] 3 (0, 0) (heap_alloc_new wc _)
  have hf0 : (wc.alloc (.cells #[.int .i64 (u : Int)] 3)).frozen? ⟨wc.heap.size, 0, none⟩ = false := by simp
  refine ⟨fun k => if k = wc.heap.size then 3 else col k, if_pos rfl, ?_, ⟨Chg.refl _ _ _, ?_, ?_⟩, ?_⟩
  · intro V n hA
    refine ⟨_, ((h1.ext hext).below hB).other hA.chg (by omega) (by omega) (Ext.refl _ _), doc_other (doc_below (doc_ext h2 hext) hB) hA.chg (by omega) (by omega) (Ext.refl _ _), ?_, ?_, ?_⟩
    · intro k hk
      have := hA.chg.size
      show (if k = wc.heap.size then 3 else col k) = 0
      rw [if_neg (by omega)]
      exact h3 k (by omega)
    · intro k hk
      show (if k = wc.heap.size then 3 else col k) = 0
      rw [if_neg (by omega)]
      exact h4 k hk
    · refine (h5.trans (hB.mono hsz)).trans (hA.chg.below (by omega) fun k hk => ?_)
      show (if k = wc.heap.size then 3 else col k) ≠ 3
      rw [if_neg (by omega), h4 k hk]
      omega
  · exact keep_cell hF hc0
  · exact keep_frozen hF hc0 hf0
  · obtain ⟨A1, c1, A2, c2, ms, mw, hI⟩ := (h1.ext hext).below hal
    have hIF := IF.of (K := fun k => k = wc.heap.size) (at0 := at0) hI (fun k e _ => by
      show (if k = wc.heap.size then 3 else col k) ≠ 0 ∧ (if k = wc.heap.size then 3 else col k) ≠ 1
      rw [if_pos e]; omega) (by omega) (fun k hk e => by omega)
    rw [hs1] at hIF
    exact from_reads 5 (by omega) hIF h9
theorem p0_stab {w wr : World} {p q : Nat} {X : Lg} (h : P0 w p q X wr) (hl : X.st.length ≤ 200) : Calls Try.prog 19 #[.pointer (some ⟨p, 0, none⟩), .int .i64 0] wr fun e w' => ∃ A c l, e = .returned (.slice A l.length c) ∧ l.map MR.r = X.st ∧ RR2 w' A c l ∧ Below wr.heap.size wr w' := by
  obtain ⟨col, h1, h2, h3, h4, h5⟩ := id h
  refine (stable_any 0 wr h1 (by omega) (by omega)).mono ?_
  rintro e w' ⟨A, c, l, rfl, hm, hG, hB⟩
  have hm' : l.map MR.r = X.st := hm
  have hll : l.length ≤ 200 := by rw [← hm', List.length_map] at hl; exact hl
  exact ⟨A, c, l, rfl, hm', ⟨hG.row.hv (by omega), fun m hm => (hG.vs m hm).1.hv (hG.vs m hm).2.1⟩, hB⟩
end Go.Proofs.Ytipnmgihbpbonaa.ordPb
