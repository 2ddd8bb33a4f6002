/- The contracts of checkedAt and isPoint. -/
import Derived.Test.YtpijljbkdfjhcaaSpnF
import Derived.Test.YtpijljbkdfjhcaaSpnC
set_option linter.unusedVariables false
namespace Go.Proofs.Ytpijljbkdfjhcaa.spnH
open Go.ChangeShapes Go.WideShapes Go.ChangeAt Go.RowKit
open spnM spnA spnB spnC spnN spnP spnD spnE spnF
attribute [local go_sem high] bin_slt bin_sle bin_sge bin_seq bin_sne

/-- three cells of one block, which may be written -/
abbrev R3 (b : Nat) (x y z : Value) (w : World) : Prop := w.rowIs b 84 3 (fun i => if i = 0 then x else if i = 1 then y else z)
section
variable {w w1 : World} {b b' : Nat} {x y z x' y' z' : Value}
theorem R3.cells (h : R3 b x y z w) : w.cell? ⟨b, 0, none⟩ = some x ∧ w.cell? ⟨b, 1, none⟩ = some y ∧ w.cell? ⟨b, 2, none⟩ = some z ∧ w.frozen? ⟨b, 0, none⟩ = false ∧ w.frozen? ⟨b, 1, none⟩ = false ∧ w.frozen? ⟨b, 2, none⟩ = false :=
  ⟨h.cell (i := 0) (by omega), h.cell (i := 1) (by omega), h.cell (i := 2) (by omega), h.frozen 0, h.frozen 1, h.frozen 2⟩
theorem R3.below (h : R3 b x y z w) (hB : Below w.heap.size w w1) : R3 b x y z w1 := h.of_block (hB.block b h.lt)
theorem R3.new (w : World) (x y z : Value) : R3 w.heap.size x y z (w.alloc (.cells #[x, y, z] 84)) := by
  have h := World.rowIs_alloc w #[x, y, z] 84 (fun i => if i = 0 then x else if i = 1 then y else z) (fun i hi => ?_)
  · exact h
  · have : i = 0 ∨ i = 1 ∨ i = 2 := by simp at hi; omega
    rcases this with rfl | rfl | rfl <;> rfl
theorem R3.put (h : R3 b x y z w) (x' y' z' : Value) : R3 b x' y' z' (((w.setCell ⟨b, 0, none⟩ x').setCell ⟨b, 1, none⟩ y').setCell ⟨b, 2, none⟩ z') :=
  (((h.set 0 x').set 1 y').set 2 z').congr fun i hi => by
    have : i = 0 ∨ i = 1 ∨ i = 2 := by omega
    rcases this with rfl | rfl | rfl <;> simp
theorem R3.other (h : R3 b x y z w) (hb : b ≠ b') (i : Nat) (v : Value) : R3 b x y z (w.setCell ⟨b', i, none⟩ v) := h.setOther (a := ⟨b', i, none⟩) hb v
theorem below3 {B : Nat} {w0 w : World} (h : Below B w0 w) (hb : B ≤ b) (x y z : Value) : Below B w0 (((w.setCell ⟨b, 0, none⟩ x).setCell ⟨b, 1, none⟩ y).setCell ⟨b, 2, none⟩ z) :=
  ((h.setCell (p := ⟨b, 0, none⟩) hb x).setCell (p := ⟨b, 1, none⟩) hb y).setCell (p := ⟨b, 2, none⟩) hb z
end
def caE (m : M) (k i : Int) : Nat := if ¬ chk m k = 0 then chk m k else if there m i = false then 7 else 0
/-- what checkedAt answers -/
def caV (m : M) (k i : Int) : Value := .tuple #[.agg #[.string (if caE m k i = 0 then spnM.lo m i.toNat else emp), .string (if caE m k i = 0 then spnM.hi m i.toNat else emp), .int .i64 (if caE m k i = 0 then node m i.toNat else 0)], .int .i64 (caE m k i : Nat)]
theorem caV_no {m : M} {k i : Int} {E : Nat} (h : caE m k i = E) (h0 : E ≠ 0) : caV m k i = .tuple #[.agg #[.string emp, .string emp, .int .i64 0], .int .i64 E] := by
  unfold caV; rw [h, if_neg h0, if_neg h0, if_neg h0]
theorem caV_yes {m : M} {k i : Int} (h : caE m k i = 0) : caV m k i = .tuple #[.agg #[.string (spnM.lo m i.toNat), .string (spnM.hi m i.toNat), .int .i64 (node m i.toNat)], .int .i64 0] := by
  unfold caV; rw [h, if_pos rfl, if_pos rfl, if_pos rfl]; rfl
set_option maxRecDepth 100000 in
set_option maxHeartbeats 1000000 in
theorem checked_any (A1 : Option Addr) (c1 : Nat) (A2 : Option Addr) (c2 : Nat) (m : M) (k i : Int) (w : World) (h : HM w A1 c1 A2 c2 m) :
    Calls Try.prog 58 #[.agg #[.slice A1 m.cs.length c1, .slice A2 m.ns.length c2], .int .i64 k, .int .i64 i] w fun e w' => e = .returned (caV m k i) ∧ Below w.heap.size w w' := by
  obtain ⟨W, hW⟩ : ∃ W, (w.alloc (.cells #[.slice A1 m.cs.length c1, .slice A2 m.ns.length c2] 26)).alloc (.cells #[.string emp, .string emp, .int .i64 0] 84) = W := ⟨_, rfl⟩
  have hal := trans0 (al0 w (.cells #[.slice A1 m.cs.length c1, .slice A2 m.ns.length c2] 26)) (al0 _ (.cells #[.string emp, .string emp, .int .i64 0] 84))
  have hb1 := (B2.new w (.slice A1 m.cs.length c1) (.slice A2 m.ns.length c2)).below (al0 _ (.cells #[.string emp, .string emp, .int .i64 0] 84))
  have hb2 := R3.new (w.alloc (.cells #[.slice A1 m.cs.length c1, .slice A2 m.ns.length c2] 26)) (.string emp) (.string emp) (.int .i64 0)
  rw [hW] at hal hb1 hb2
  rw [World.size_alloc] at hb2
  have hm := h.below hal
  have hck := Lib.hid (check_any A1 c1 A2 c2 m k W hm)
  have hat := Lib.hid (fun X (hB : Below W.heap.size W X) => at_any A1 c1 A2 c2 m i X (hm.below hB))
  replace hb1 := Lib.hid hb1
  replace hb2 := Lib.hid hb2
  replace hal := Lib.hid hal
  replace hW := Lib.hid hW
  clear h hm
  by_cases h1 : chk m k = 0
  · cases h2 : there m i
    · have hE := Lib.hid (caV_no (m := m) (k := k) (i := i) (E := 7) (by unfold caE; rw [if_neg (by omega), if_pos h2]) (by omega))
      have ha := Lib.hid (show atV m i = .tuple #[.agg #[.string emp, .string emp, .int .i64 0], .bool false] by unfold atV; rw [h2]; rfl)
      rw [h1] at hck
      clear h1 h2
      go_enter Try.func58, Try.ntmps58
      go_wp2_with (fail)
      rw [hW.out]
      refine hck.out.mono ?_
      rintro e w1 ⟨rfl, hB1⟩
      obtain ⟨p0, p1, -, -⟩ := (hb1.out.below hB1).cells
      have hB1' := Lib.hid hB1
      clear hB1
      go_wp2_with (fail)
      refine (hat.out w1 hB1'.out).mono ?_
      rintro e w2 ⟨rfl, hB2⟩
      rw [ha.out]
      have hW2 := trans0 hB1'.out hB2
      have h3 := R3.below (hb2.out.below hW2) (al0 w2 (.cells #[.string emp, .string emp, .int .i64 0] 84))
      have hbl := Lib.hid (trans0 (trans0 hal.out hW2) (al0 w2 (.cells #[.string emp, .string emp, .int .i64 0] 84)))
      obtain ⟨z0, z1, z2, z3, z4, z5⟩ := h3.cells
      obtain ⟨y0, y1, y2, -⟩ := (R3.put h3 (.string emp) (.string emp) (.int .i64 0)).cells
      clear hB2 hW2 p0 p1 h3
      go_wp2
      refine bodyPost_ret (v := .tuple #[.agg #[.string emp, .string emp, .int .i64 0], .int .i64 7]) ?_ rfl ⟨by rw [hE.out]; rfl, below3 hbl.out (by omega) _ _ _⟩
      clear z0 z1 z2 z3 z4 z5
      simp [results, Try.results58, go_sem, y0, y1, y2]
    · have hE := Lib.hid (caV_yes (m := m) (k := k) (i := i) (by unfold caE; rw [if_neg (by omega), if_neg (by rw [h2]; decide)]))
      have ha := Lib.hid (show atV m i = .tuple #[.agg #[.string (spnM.lo m i.toNat), .string (spnM.hi m i.toNat), .int .i64 (node m i.toNat)], .bool true] by unfold atV; rw [h2, if_pos rfl, if_pos rfl, if_pos rfl])
      rw [h1] at hck
      clear h1 h2
      generalize spnM.lo m i.toNat = x at *
      generalize spnM.hi m i.toNat = y at *
      generalize node m i.toNat = n at *
      go_enter Try.func58, Try.ntmps58
      go_wp2_with (fail)
      rw [hW.out]
      refine hck.out.mono ?_
      rintro e w1 ⟨rfl, hB1⟩
      obtain ⟨p0, p1, -, -⟩ := (hb1.out.below hB1).cells
      have hB1' := Lib.hid hB1
      clear hB1
      go_wp2_with (fail)
      refine (hat.out w1 hB1'.out).mono ?_
      rintro e w2 ⟨rfl, hB2⟩
      rw [ha.out]
      have hW2 := trans0 hB1'.out hB2
      have h3 := R3.below (hb2.out.below hW2) (al0 w2 (.cells #[.string x, .string y, .int .i64 n] 84))
      have hbl := Lib.hid (trans0 (trans0 hal.out hW2) (al0 w2 (.cells #[.string x, .string y, .int .i64 n] 84)))
      obtain ⟨z0, z1, z2, z3, z4, z5⟩ := h3.cells
      obtain ⟨y0, y1, y2, -⟩ := (R3.put h3 (.string x) (.string y) (.int .i64 n)).cells
      clear hB2 hW2 p0 p1 h3
      go_wp2
      refine bodyPost_ret (v := .tuple #[.agg #[.string x, .string y, .int .i64 n], .int .i64 0]) ?_ rfl ⟨by rw [hE.out], below3 hbl.out (by omega) _ _ _⟩
      clear z0 z1 z2 z3 z4 z5
      simp [results, Try.results58, go_sem, y0, y1, y2]
  · have hE := Lib.hid (caV_no (m := m) (k := k) (i := i) (E := chk m k) (by unfold caE; rw [if_pos h1]) h1)
    have hne : ((chk m k : Int) != 0) = true := by rw [bne_iff_ne]; omega
    clear h1 hat
    generalize chk m k = E at *
    go_enter Try.func58, Try.ntmps58
    go_wp2_with (fail)
    rw [hW.out]
    refine hck.out.mono ?_
    rintro e w1 ⟨rfl, hB1⟩
    have h3 := hb2.out.below hB1
    have hbl := Lib.hid (trans0 hal.out hB1)
    obtain ⟨z0, z1, z2, z3, z4, z5⟩ := h3.cells
    obtain ⟨y0, y1, y2, -⟩ := (R3.put h3 (.string emp) (.string emp) (.int .i64 0)).cells
    clear hB1 h3
    go_wp2
    refine bodyPost_ret (v := .tuple #[.agg #[.string emp, .string emp, .int .i64 0], .int .i64 E]) ?_ rfl ⟨by rw [hE.out], below3 hbl.out (by omega) _ _ _⟩
    clear z0 z1 z2 z3 z4 z5
    simp [results, Try.results58, go_sem, y0, y1, y2]
theorem point_any (key x y : ByteArray) (n : Int) (w : World) :
    Calls Try.prog 59 #[.string key, .agg #[.string x, .string y, .int .i64 n]] w fun e w' => e = .returned (.bool (pnt key x y)) ∧ Below w.heap.size w w' := by
  unfold pnt
  by_cases h1 : key.size ≤ 16
  · have h1' : (key.size : Int) ≤ 16 := by omega
    rw [decide_eq_true h1]
    clear h1
    cases h2 : seq key x
    · cases h3 : wth key x y
      all_goals
        have hc := Lib.hid (within_any key x y)
        rw [h3] at hc
        clear h3
        go_enter Try.func59, Try.ntmps59
        go_wp2_with (go_at_call 67; ((with_reducible refine (hc.out _).mono ?_); rintro e w' ⟨rfl, rfl⟩))
        go_ret
        exact ⟨rfl, al0 _ _⟩
    · go_enter Try.func59, Try.ntmps59
      go_wp2
      go_ret
      exact ⟨rfl, al0 _ _⟩
  · have h1' : ¬ (key.size : Int) ≤ 16 := by omega
    rw [decide_eq_false h1]
    clear h1
    go_enter Try.func59, Try.ntmps59
    go_wp2
    go_ret
    exact ⟨rfl, al0 _ _⟩
end Go.Proofs.Ytpijljbkdfjhcaa.spnH
