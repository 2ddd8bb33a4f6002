/- The contract of At. -/
import Derived.Test.YtpijljbkdfjhcaaSpnE
set_option linter.unusedVariables false
namespace Go.Proofs.Ytpijljbkdfjhcaa.spnF
open Go.ChangeShapes Go.WideShapes Go.ChangeAt Go.RowKit Go.Shelf
open spnM spnA spnB spnN spnP spnD spnE rngR
attribute [local go_sem high] bin_slt bin_sle bin_sge bin_seq bin_sne
attribute [local go_sem] Oper.semAt_some

def sbox (m : M) (x : Nat) : Obj := .cells #[.string (spnM.lo m x), .string (spnM.hi m x), .int .i64 (node m x)] 84
/-- the call's boxes: the number, the shard that is answered, and whether there is one -/
structure Bx (b1 b2 b3 : Nat) (i : Int) (x y : ByteArray) (n : Int) (t : Bool) (W : World) : Prop where
  i0 : W.cell? ⟨b1, 0, none⟩ = some (.int .i64 i)
  s0 : W.cell? ⟨b2, 0, none⟩ = some (.string x)
  s1 : W.cell? ⟨b2, 1, none⟩ = some (.string y)
  s2 : W.cell? ⟨b2, 2, none⟩ = some (.int .i64 n)
  t0 : W.cell? ⟨b3, 0, none⟩ = some (.bool t)
  f0 : W.frozen? ⟨b2, 0, none⟩ = false
  f1 : W.frozen? ⟨b2, 1, none⟩ = false
  f2 : W.frozen? ⟨b2, 2, none⟩ = false
  g0 : W.frozen? ⟨b3, 0, none⟩ = false
theorem Bx.kept {b1 b2 b3 : Nat} {i n : Int} {x y : ByteArray} {t : Bool} {W W' : World} {row : Option Nat} (h : Bx b1 b2 b3 i x y n t W) (hg : W.grownBy W' row) (hr : ∀ r, row = some r → ∃ o : Obj, W.heap[r]? = some o ∧ o.isCells = false) : Bx b1 b2 b3 i x y n t W' :=
  ⟨cell_kept h.i0 hg hr, cell_kept h.s0 hg hr, cell_kept h.s1 hg hr, cell_kept h.s2 hg hr, cell_kept h.t0 hg hr, (frozen_kept h.s0 hg hr).trans h.f0, (frozen_kept h.s1 hg hr).trans h.f1, (frozen_kept h.s2 hg hr).trans h.f2, (frozen_kept h.t0 hg hr).trans h.g0⟩
theorem Bx.below {b1 b2 b3 : Nat} {i n : Int} {x y : ByteArray} {t : Bool} {W W' : World} (h : Bx b1 b2 b3 i x y n t W) (hB : Below W.heap.size W W') : Bx b1 b2 b3 i x y n t W' :=
  ⟨keep_cell hB h.i0, keep_cell hB h.s0, keep_cell hB h.s1, keep_cell hB h.s2, keep_cell hB h.t0, keep_frozen hB h.s0 h.f0, keep_frozen hB h.s1 h.f1, keep_frozen hB h.s2 h.f2, keep_frozen hB h.t0 h.g0⟩
theorem Bx.put {b1 b2 b3 : Nat} {i n : Int} {x y : ByteArray} {t : Bool} {W : World} (h : Bx b1 b2 b3 i x y n t W) (h12 : b1 ≠ b2) (h13 : b1 ≠ b3) (h23 : b2 ≠ b3) (x' y' : ByteArray) (n' : Int) (t' : Bool) :
    Bx b1 b2 b3 i x' y' n' t' ((((W.setCell ⟨b2, 0, none⟩ (.string x')).setCell ⟨b2, 1, none⟩ (.string y')).setCell ⟨b2, 2, none⟩ (.int .i64 n')).setCell ⟨b3, 0, none⟩ (.bool t')) := by
  have ne : ∀ {b b' o o' : Nat}, (b ≠ b' ∨ o ≠ o') → ((⟨b', o', none⟩ : Addr) ≠ ⟨b, o, none⟩) := fun h e => by injection e with e1 e2; omega
  refine ⟨?_, ?_, ?_, ?_, ?_, ?_, ?_, ?_, ?_⟩
  · rw [World.cell?_setCell_other _ _ _ _ (ne (.inl h13)), World.cell?_setCell_other _ _ _ _ (ne (.inl h12)), World.cell?_setCell_other _ _ _ _ (ne (.inl h12)), World.cell?_setCell_other _ _ _ _ (ne (.inl h12))]; exact h.i0
  · rw [World.cell?_setCell_other _ _ _ _ (ne (.inl h23)), World.cell?_setCell_other _ _ _ _ (ne (.inr (by omega))), World.cell?_setCell_other _ _ _ _ (ne (.inr (by omega)))]
    exact World.cell?_setCell_same' _ _ _ (by rw [h.s0]; rfl)
  · rw [World.cell?_setCell_other _ _ _ _ (ne (.inl h23)), World.cell?_setCell_other _ _ _ _ (ne (.inr (by omega)))]
    exact World.cell?_setCell_same' _ _ _ (by rw [World.cell?_setCell_other _ _ _ _ (ne (.inr (by omega))), h.s1]; rfl)
  · rw [World.cell?_setCell_other _ _ _ _ (ne (.inl h23))]
    exact World.cell?_setCell_same' _ _ _ (by rw [World.cell?_setCell_other _ _ _ _ (ne (.inr (by omega))), World.cell?_setCell_other _ _ _ _ (ne (.inr (by omega))), h.s2]; rfl)
  · refine World.cell?_setCell_same' _ _ _ ?_
    rw [World.cell?_setCell_other _ _ _ _ (ne (.inl (Ne.symm h23))), World.cell?_setCell_other _ _ _ _ (ne (.inl (Ne.symm h23))), World.cell?_setCell_other _ _ _ _ (ne (.inl (Ne.symm h23))), h.t0]; rfl
  all_goals (rw [World.frozen?_setCell, World.frozen?_setCell, World.frozen?_setCell, World.frozen?_setCell])
  · exact h.f0
  · exact h.f1
  · exact h.f2
  · exact h.g0
/-- between two rounds: none of the numbers so far is the one -/
def AI (w : World) (b1 b2 b3 : Nat) (i : Int) (pre : List Nat) (W : World) : Prop := (Bx b1 b2 b3 i emp emp 0 false W ∧ ∀ j : Nat, j < pre.length → (j : Int) ≠ i) ∧ Below w.heap.size w W
/-- a round has left -/
def AX (w : World) (m : M) (b1 b2 b3 : Nat) (i : Int) (c : Code) (pre : List Nat) (W : World) : Prop := (c = .ret ∧ there m i = true ∧ Bx b1 b2 b3 i (spnM.lo m i.toNat) (spnM.hi m i.toNat) (node m i.toNat) true W) ∧ Below w.heap.size w W
theorem AI.from_ {w : World} {b1 b2 b3 C : Nat} {i : Int} (hC : w.heap.size ≤ C) : OwnFrom C (AI w b1 b2 b3 i) := by
  rintro pre W W' row ⟨⟨h1, h2⟩, hB⟩ hg hrow
  exact ⟨⟨h1.kept hg fun r e => (hrow r e).2, h2⟩, hB.grown hg hB.size (fun k e => Nat.le_trans hC (hrow k e).1)⟩
theorem AX.from_ {w : World} {m : M} {b1 b2 b3 C : Nat} {i : Int} (hC : w.heap.size ≤ C) (c : Code) : OwnFrom C (AX w m b1 b2 b3 i c) := by
  rintro pre W W' row ⟨⟨h1, h2, h3⟩, hB⟩ hg hrow
  exact ⟨⟨h1, h2, h3.kept hg fun r e => (hrow r e).2⟩, hB.grown hg hB.size (fun k e => Nat.le_trans hC (hrow k e).1)⟩
theorem KS4 (V : World) (b b' : Nat) (x y n t : Value) : KeepsOthers V ((((V.setCell ⟨b, 0, none⟩ x).setCell ⟨b, 1, none⟩ y).setCell ⟨b, 2, none⟩ n).setCell ⟨b', 0, none⟩ t) :=
  (((KeepsOthers.setCell _ _ _).trans (KeepsOthers.setCell _ _ _)).trans (KeepsOthers.setCell _ _ _)).trans (KeepsOthers.setCell _ _ _)
theorem below4 {B b b' : Nat} {w V : World} (h : Below B w V) (hb : B ≤ b) (hb' : B ≤ b') (x y n t : Value) : Below B w ((((V.setCell ⟨b, 0, none⟩ x).setCell ⟨b, 1, none⟩ y).setCell ⟨b, 2, none⟩ n).setCell ⟨b', 0, none⟩ t) :=
  (((h.setCell (p := ⟨b, 0, none⟩) hb x).setCell (p := ⟨b, 1, none⟩) hb y).setCell (p := ⟨b, 2, none⟩) hb n).setCell (p := ⟨b', 0, none⟩) hb' t
/-- what At answers -/
def atV (m : M) (i : Int) : Value := .tuple #[.agg #[.string (if there m i = true then spnM.lo m i.toNat else emp), .string (if there m i = true then spnM.hi m i.toNat else emp), .int .i64 (if there m i = true then node m i.toNat else 0)], .bool (there m i)]
set_option maxRecDepth 100000 in
set_option maxHeartbeats 4000000 in
theorem at_any (A1 : Option Addr) (c1 : Nat) (A2 : Option Addr) (c2 : Nat) (m : M) (i : Int) (w : World) (h : HM w A1 c1 A2 c2 m) :
    Calls Try.prog 62 #[.agg #[.slice A1 m.cs.length c1, .slice A2 m.ns.length c2], .int .i64 i] w fun e w' => e = .returned (atV m i) ∧ Below w.heap.size w w' := by
  obtain ⟨W, hW⟩ : ∃ W, (((w.alloc (.cells #[.slice A1 m.cs.length c1, .slice A2 m.ns.length c2] 26)).alloc (.cells #[.int .i64 i] 3)).alloc (.cells #[.string emp, .string emp, .int .i64 0] 84)).alloc (.cells #[.bool false] 4) = W := ⟨_, rfl⟩
  have hB := trans0 (hi_below (w := w) (.cells #[.slice A1 m.cs.length c1, .slice A2 m.ns.length c2] 26) (.cells #[.int .i64 i] 3) (.cells #[.string emp, .string emp, .int .i64 0] 84)) (al0 _ (.cells #[.bool false] 4))
  have hq : W.cell? ⟨w.heap.size, 0, none⟩ = some (.slice A1 m.cs.length c1) ∧ W.cell? ⟨w.heap.size, 1, none⟩ = some (.slice A2 m.ns.length c2) ∧ Bx (w.heap.size + 1) (w.heap.size + 1 + 1) (w.heap.size + 1 + 1 + 1) i emp emp 0 false W := by
    rw [← hW]
    obtain ⟨q0, q1⟩ := cells2 w (.slice A1 m.cs.length c1) (.slice A2 m.ns.length c2) 26
    refine ⟨keep_cell (al0 _ _) (keep_cell (al0 _ _) (keep_cell (al0 _ _) q0)), keep_cell (al0 _ _) (keep_cell (al0 _ _) (keep_cell (al0 _ _) q1)), ?_⟩
    generalize hu1 : w.alloc (.cells #[.slice A1 m.cs.length c1, .slice A2 m.ns.length c2] 26) = u1
    have z1 : u1.heap.size = w.heap.size + 1 := by rw [← hu1]; simp
    rw [← z1]
    have k1 := cell_box u1 (.int .i64 i) 3
    generalize hu2 : u1.alloc (.cells #[.int .i64 i] 3) = u2 at *
    have z2 : u2.heap.size = u1.heap.size + 1 := by rw [← hu2]; simp
    rw [← z2]
    obtain ⟨k2, k3, k4⟩ := cells3 u2 (.string emp) (.string emp) (.int .i64 0) 84
    have fr2 : ∀ j, (u2.alloc (.cells #[.string emp, .string emp, .int .i64 0] 84)).frozen? ⟨u2.heap.size, j, none⟩ = false := fun j => by simp
    have k5 := keep_cell (al0 _ (.cells #[.string emp, .string emp, .int .i64 0] 84)) k1
    generalize hu3 : u2.alloc (.cells #[.string emp, .string emp, .int .i64 0] 84) = u3 at *
    have z3 : u3.heap.size = u2.heap.size + 1 := by rw [← hu3]; simp
    rw [← z3]
    have kB := al0 u3 (.cells #[.bool false] 4)
    exact ⟨keep_cell kB k5, keep_cell kB k2, keep_cell kB k3, keep_cell kB k4, cell_box u3 _ _, keep_frozen kB k2 (fr2 0), keep_frozen kB k3 (fr2 1), keep_frozen kB k4 (fr2 2), frozen_box u3 _ _⟩
  have hsz : W.heap.size = w.heap.size + 1 + 1 + 1 + 1 := by rw [← hW]; simp
  rw [hW] at hB
  obtain ⟨q0, q1, hbx⟩ := hq
  have hgo := Lib.hid (shards_any A1 c1 A2 c2 m W (h.below hB))
  replace hbx := Lib.hid hbx
  replace hB := Lib.hid hB
  replace hW := Lib.hid hW
  replace hsz := Lib.hid hsz
  clear h
  refine (callsIn_wide (n := 6)).1 ?_
  refine callsIn_of_wp_marks Try.func62 rfl trivial ?_ rfl
  simp only [Try.ntmps62, List.size_toArray, List.length_cons, List.length_nil, Nat.reduceAdd, Nat.reduceSub, Array.replicate_succ, Array.replicate_zero, List.push_toArray, List.append_toArray, List.nil_append, List.cons_append]
  refine wpIn_wide.2 ?_
  go_wp2_with (fail)
  rw [hW.out]
  refine hgo.out.mono ?_
  rintro e w2 ⟨B, B1, d1, B3, d2, rfl, hI, hB2⟩
  have hbx2 := hbx.out.below hB2
  have hB3 := Lib.hid (trans0 hB.out hB2)
  have hwl : w.heap.size ≤ w2.heap.size := hB3.out.size
  have hWl : W.heap.size ≤ w2.heap.size := hB2.size
  replace hI := Lib.hid hI
  replace hbx2 := Lib.hid hbx2
  clear q0 q1 hbx hB hgo hB2
  go_wp2
  refine (wpIn_wide (n := 6)).1 ?_
  refine' range_reads rfl (by omega) (gf := 77) (lb := #[.pointer (some ⟨B, 0, none⟩)]) rfl trivial (enters_of Try.func77 (by kernel_rfl) rfl)
    (iter_reads 5 (by omega) W.heap.size w2.heap.size B d1 d2 B1 B3 m w2 (Nat.le_refl _) hI.out) KS.trans (KS.book (Nat.le_refl _)) (fun _ => rfl)
    (AI w (w.heap.size + 1) (w.heap.size + 1 + 1) (w.heap.size + 1 + 1 + 1) i) (AX w m (w.heap.size + 1) (w.heap.size + 1 + 1) (w.heap.size + 1 + 1 + 1) i) (AI.from_ hwl) (AX.from_ hwl) (fun pre => RF.from_ m pre _) ⟨⟨hbx2.out, fun j hj => absurd hj (by simp)⟩, hB3.out⟩ (sbox m) (KS.alloc _ _) _ ?assign ?body ?done ?stop
  case assign =>
    intro l x W b K hbe hK
    simp only [encs]
    unfold sbox at hK
    replace hbe := Lib.hid hbe
    gi_wp2
    rw [← hbe.out]
    exact hK
  case body =>
    rintro l pre x b V hb0 hb ⟨⟨hbV, hno⟩, hBV⟩ ⟨hx, hlt, hnc⟩
    unfold sbox at hb
    have u0 := (cell_of_row V b 0 _ _ (0, 0) hb).trans (show _ = some (.string (spnM.lo m x)) from rfl)
    have u1 := (cell_of_row V b 1 _ _ (0, 0) hb).trans (show _ = some (.string (spnM.hi m x)) from rfl)
    have u2 := (cell_of_row V b 2 _ _ (0, 0) hb).trans (show _ = some (.int .i64 (node m x)) from rfl)
    have hbV' := Lib.hid hbV
    obtain ⟨i0, s0, s1, s2, t0, f0, f1, f2, g0⟩ := hbV
    replace hBV := Lib.hid hBV
    by_cases hi : (x : Int) = i
    · have hib : ((x : Int) == i) = true := beq_iff_eq.2 hi
      have hth := Lib.hid (show there m i = true ∧ i.toNat = x from ⟨(there_iff m i).2 ⟨hnc, by omega, by omega⟩, by omega⟩)
      have hput := Lib.hid (Bx.put hbV'.out (by omega) (by omega) (by omega) (spnM.lo m x) (spnM.hi m x) (node m x) true)
      have hko := Lib.hid (KS4 V (w.heap.size + 1 + 1) (w.heap.size + 1 + 1 + 1) (.string (spnM.lo m x)) (.string (spnM.hi m x)) (.int .i64 (node m x)) (.bool true))
      have hbel := Lib.hid (below4 (B := w.heap.size) hBV.out (b := w.heap.size + 1 + 1) (b' := w.heap.size + 1 + 1 + 1) (by omega) (by omega) (.string (spnM.lo m x)) (.string (spnM.hi m x)) (.int .i64 (node m x)) (.bool true))
      clear hi hno hx hlt hnc hb hI hbx2
      gi_wp2
      refine ⟨hko.out, ⟨rfl, hth.out.1, ?_⟩, hbel.out⟩
      rw [hth.out.2]
      exact hput.out
    · have hib : ((x : Int) == i) = false := beq_eq_false_iff_ne.2 hi
      have hno' := Lib.hid (show ∀ j : Nat, j < (pre ++ [x]).length → (j : Int) ≠ i from fun j hj => by
        rw [List.length_append] at hj
        simp only [List.length_cons, List.length_nil] at hj
        by_cases e : j = x
        · rw [e]; exact hi
        · exact hno j (by omega))
      clear hi hno hx hlt hnc hb hI hbx2
      gi_wp2
      exact ⟨KeepsOthers.refl _, KS.below (Below.refl _ _), ⟨hbV'.out, hno'.out⟩, hBV.out⟩
  case done =>
    rintro D ys V hD hlen ⟨⟨hbV, hno⟩, hBV⟩ hK
    have hth := Lib.hid (show there m i = false by
      cases e : there m i
      · rfl
      · obtain ⟨e1, e2, e3⟩ := (there_iff m i).1 e
        rw [show cnt m = m.ns.length by unfold cnt; rw [if_pos ((has_iff m).2 e1)]] at hlen
        exact absurd (by omega) (hno i.toNat (by omega)))
    have hbV' := Lib.hid hbV
    obtain ⟨i0, s0, s1, s2, t0, f0, f1, f2, g0⟩ := hbV
    have hput := Lib.hid (Bx.put hbV'.out (by omega) (by omega) (by omega) emp emp 0 false)
    have hK' := Lib.hid ((KS4 V (w.heap.size + 1 + 1) (w.heap.size + 1 + 1 + 1) (.string emp) (.string emp) (.int .i64 0) (.bool false)).same D _ hK rfl)
    have hbel := Lib.hid (below4 (B := w.heap.size) hBV (b := w.heap.size + 1 + 1) (b' := w.heap.size + 1 + 1 + 1) (by omega) (by omega) (.string emp) (.string emp) (.int .i64 0) (.bool false))
    clear hno hlen hI hbx2 hBV hK
    go_wp2
    refine ⟨by simp, .inl ⟨_, _, rfl, run_takeDeferred hK'.out, ?_⟩⟩
    have h5 := hput.out.kept (grownBy_putObj' _ D (.deferred none)) (fun r e => by cases e; exact ⟨_, hK'.out, rfl⟩)
    refine ⟨atV m i, ?_, rfl, hbel.out.trans (belowK_b (w := w) (Nat.le_refl _) _ D _ _ (by omega) hK'.out rfl rfl)⟩
    unfold atV
    rw [hth.out]
    obtain ⟨_, x0, x1, x2, x3, _, _, _, _⟩ := h5
    simp [results, Try.f62, go_sem, x0, x1, x2, x3]
  case stop =>
    rintro D c pre V hD _ ⟨⟨rfl, hth, hbV⟩, hBV⟩ hK
    have hK' := Lib.hid hK
    have hbV' := Lib.hid hbV
    have hth' := Lib.hid hth
    have hBV' := Lib.hid hBV
    refine wpIn_wide.2 ?_
    clear hbV hth hBV hK hI hbx2
    go_wp2
    refine ⟨by simp, .inl ⟨_, _, rfl, run_takeDeferred hK'.out, ?_⟩⟩
    have h5 := hbV'.out.kept (grownBy_putObj' _ D (.deferred none)) (fun r e => by cases e; exact ⟨_, hK'.out, rfl⟩)
    refine ⟨atV m i, ?_, rfl, hBV'.out.trans (belowK_b (w := w) (Nat.le_refl _) _ D _ _ (by omega) hK'.out rfl rfl)⟩
    unfold atV
    rw [hth'.out, if_pos rfl, if_pos rfl, if_pos rfl]
    obtain ⟨_, x0, x1, x2, x3, _, _, _, _⟩ := h5
    simp [results, Try.f62, go_sem, x0, x1, x2, x3]
end Go.Proofs.Ytpijljbkdfjhcaa.spnF
