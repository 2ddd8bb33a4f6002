/- The contract of Copy. -/
import Derived.Test.YtpijljbkdfjhcaaSpnB
import Derived.Test.YtpijljbkdfjhcaaSpnP
import Derived.Deep.RegionHeld3
set_option linter.unusedVariables false
namespace Go.Proofs.Ytpijljbkdfjhcaa.spnD
open Go.ChangeShapes Go.WideShapes Go.ChangeAt Go.RowKit
open spnM spnA spnB spnN spnP
attribute [local go_sem high] bin_slt bin_sle bin_sge bin_seq bin_sne

/-- the box of the map that came in -/
abbrev SL (b : Nat) (u v : Value) (w : World) : Prop := w.cell? ⟨b, 0, none⟩ = some u ∧ w.cell? ⟨b, 1, none⟩ = some v ∧ b < w.heap.size
theorem SL.below {b : Nat} {u v : Value} {w w1 : World} (h : SL b u v w) (hB : Below w.heap.size w w1) : SL b u v w1 :=
  ⟨(hB.cell (p := ⟨b, 0, none⟩) h.2.2).trans h.1, (hB.cell (p := ⟨b, 1, none⟩) h.2.2).trans h.2.1, Nat.lt_of_lt_of_le h.2.2 hB.size⟩
theorem SL.set {b b' : Nat} {u v : Value} {w : World} (h : SL b u v w) (hb : b ≠ b') (i : Nat) (x : Value) : SL b u v (w.setCell ⟨b', i, none⟩ x) := by
  have e : ∀ j, (w.setCell ⟨b', i, none⟩ x).cell? ⟨b, j, none⟩ = w.cell? ⟨b, j, none⟩ := fun j => World.cell?_of_block (Below.heap_setCell w ⟨b', i, none⟩ x b hb)
  exact ⟨(e 0).trans h.1, (e 1).trans h.2.1, by rw [World.size_setCell]; exact h.2.2⟩
theorem SL.set2 {b b' : Nat} {u v : Value} {w : World} (h : SL b u v w) (hb : b ≠ b') (x y : Value) : SL b u v ((w.setCell ⟨b', 0, none⟩ x).setCell ⟨b', 1, none⟩ y) := (h.set hb 0 x).set hb 1 y
/-- what is made in a world that has grown over W -/
structure Mk (W : World) (T : TypeId) (n : Nat) (A : Option Addr) (c : Nat) (xs : List Value) (w : World) : Prop where
  own : w.ownsRow W.heap.size T 1 (.slice A n c) n xs
  bel : Below W.heap.size W w
theorem Mk.below {W w w1 : World} {T : TypeId} {n c : Nat} {A : Option Addr} {xs : List Value} (h : Mk W T n A c xs w) (hB : Below w.heap.size w w1) : Mk W T n A c xs w1 := ⟨own_below h.own hB, trans0 h.bel hB⟩
theorem cln_up {W w w' : World} {T : TypeId} {n : Nat} {xs : List Value} {e : Ending} (hB : Below W.heap.size W w) (h : Cln T n xs w e w') : ∃ A c, e = .returned (.slice A n c) ∧ Mk W T n A c xs w' ∧ Below w.heap.size w w' := by
  obtain ⟨A, c, rfl, ho, hb⟩ := h
  exact ⟨A, c, rfl, ⟨own_more ho hB.size, trans0 hB hb⟩, hb⟩
/-- Clone, said of every world above one base world. -/
abbrev CloneK (F : Nat) (T : TypeId) (n : Nat) (v : Value) (xs : List Value) (W : World) : Prop := ∀ w, Below W.heap.size W w → Calls Try.prog F #[v] w fun e w' => ∃ A c, e = .returned (.slice A n c) ∧ Mk W T n A c xs w' ∧ Below w.heap.size w w'
set_option maxRecDepth 100000 in
set_option maxHeartbeats 1000000 in
theorem copy_any (A1 : Option Addr) (c1 : Nat) (A2 : Option Addr) (c2 : Nat) (m : M) (w : World) (h : HM w A1 c1 A2 c2 m) :
    Calls Try.prog 38 #[.agg #[.slice A1 m.cs.length c1, .slice A2 m.ns.length c2]] w (Gives m w) := by
  obtain ⟨W, hW⟩ : ∃ W, (w.alloc (.cells #[.slice A1 m.cs.length c1, .slice A2 m.ns.length c2] 26)).alloc (.cells #[.slice none 0 0, .slice none 0 0] 26) = W := ⟨_, rfl⟩
  have hal := trans0 (al0 w (.cells #[.slice A1 m.cs.length c1, .slice A2 m.ns.length c2] 26)) (al0 _ (.cells #[.slice none 0 0, .slice none 0 0] 26))
  have hb1 := (B2.new w (.slice A1 m.cs.length c1) (.slice A2 m.ns.length c2)).below (al0 _ (.cells #[.slice none 0 0, .slice none 0 0] 26))
  have hb2 := B2.new (w.alloc (.cells #[.slice A1 m.cs.length c1, .slice A2 m.ns.length c2] 26)) (.slice none 0 0) (.slice none 0 0)
  have hsz : W.heap.size = w.heap.size + 1 + 1 := by rw [← hW]; simp
  rw [hW] at hal hb1 hb2
  rw [World.size_alloc] at hb2
  have hm := h.below hal
  have hs : Hid (SL w.heap.size (.slice A1 m.cs.length c1) (.slice A2 m.ns.length c2) W.drew) := Lib.hid ⟨hb1.cells.1, hb1.cells.2.1, hb1.lt⟩
  have kS : Hid (CloneK 49 9 m.cs.length (.slice A1 m.cs.length c1) (m.cs.map Value.string) W.drew) := Lib.hid fun w1 hB =>
    (cloneS A1 m.cs.length c1 m.cs w1 (hm.cs.below (undrew hB)) (fun e => by have := hm.n1 e; have := hm.l1; omega) (by have := hm.s1; omega)).mono fun e w' q => cln_up hB q
  have kI : Hid (CloneK 50 3 m.ns.length (.slice A2 m.ns.length c2) (m.ns.map (Value.int .i64)) W.drew) := Lib.hid fun w1 hB =>
    (cloneI A2 m.ns.length c2 m.ns w1 (hm.ns.below (undrew hB)) (fun e => by have := hm.n2 e; have := hm.l2; omega) (by have := hm.s2; omega)).mono fun e w' q => cln_up hB q
  have hB0 : Hid (Below W.drew.heap.size W.drew W.drew) := Lib.hid (Below.refl _ _)
  have hZ : Hid (B2 (w.heap.size + 1) (.slice none 0 0) (.slice none 0 0) W.drew) := Lib.hid hb2
  replace hsz := Lib.hid hsz
  replace hW := Lib.hid hW
  replace hal := Lib.hid hal
  have hGd := Lib.hid (show ∀ (A A' : Option Addr) (c c' : Nat) (w' : World), Mk W.drew 9 m.cs.length A c (m.cs.map Value.string) w' → Mk W.drew 3 m.ns.length A' c' (m.ns.map (Value.int .i64)) w' → 
      Gives m w (.returned (.agg #[.slice A m.cs.length c, .slice A' m.ns.length c'])) ((w'.setCell ⟨w.heap.size + 1, 0, none⟩ (.slice A m.cs.length c)).setCell ⟨w.heap.size + 1, 1, none⟩ (.slice A' m.ns.length c')) from fun A A' c c' w' g1 g2 => by
    refine ⟨A, c, A', c', rfl, ?_, below2 (trans0 hal.out (undrew g1.bel)) (by omega) _ _⟩
    have hG : GM w' W.heap.size A c A' c' m := ⟨g1.own, g2.own⟩
    exact (hG.set2 (by rw [hsz.out]; omega) _ _).more (by rw [hsz.out]; omega))
  clear hm h hb1 hb2
  generalize m.cs.map Value.string = xs at *
  generalize m.ns.map (Value.int .i64) = ys at *
  go_enter Try.func38, Try.ntmps38
  go_wp2
  rw [hW.out]
  go_region_held3 (SL w.heap.size (.slice A1 m.cs.length c1) (.slice A2 m.ns.length c2))
    (first | with_reducible exact hs.out | with_reducible assumption | with_reducible exact SL.below (by assumption) (by assumption) | with_reducible exact SL.set2 (by assumption) (Nat.ne_of_lt (Nat.lt_succ_self _)) _ _ | fail)
    (first
      | (go_at_call 49; ((with_reducible refine (kS.out _ hB0.out).mono ?_); rintro e w' ⟨Aa, ca, rfl, ha, hB⟩))
      | (go_at_call 50; ((with_reducible refine (kI.out _ ha.bel).mono ?_); rintro e w' ⟨Ab, cb, rfl, hb, hB⟩; have ha' := Mk.below ha hB; have hz := B2.below hZ.out hb.bel; obtain ⟨z0, z1, z2, z3⟩ := B2.cells hz)) | fail)
  all_goals
    go_wp2
    have hfin := hGd.out _ _ _ _ _ ha' hb
    clear z2 z3
    refine bodyPost_ret (v := .agg #[.slice Aa m.cs.length ca, .slice Ab m.ns.length cb]) ?_ rfl hfin
    simp [results, Try.results38, go_sem, z0, z1]
end Go.Proofs.Ytpijljbkdfjhcaa.spnD
