/- SpanChecks; what is said of every world above one. -/
import Derived.Test.YtihaapjobkpdcaaSpnQ
import Derived.Deep.RegionHeld3
set_option linter.unusedVariables false
namespace Go.Proofs.Ytihaapjobkpdcaa.spnR
open Go.ChangeShapes Go.WideShapes Go.ChangeAt Go.RowKit
open spnM spnA spnB spnC spnN spnP spnD spnE spnF spnH spnI spnQ
attribute [local go_sem high] bin_slt bin_sle bin_sge bin_seq bin_sne

/-- a call that answers so in every world above W -/
abbrev Up (F : Nat) (args : Array Value) (e0 : Ending) (W : World) : Prop := ∀ w', Below W.heap.size W w' → Calls Try.prog F args w' fun e w'' => e = e0 ∧ Below W.heap.size W w''
theorem up_of {F : Nat} {args : Array Value} {e0 : Ending} {W : World} (h : ∀ w', Below W.heap.size W w' → Calls Try.prog F args w' fun e w'' => e = e0 ∧ Below w'.heap.size w' w'') : Up F args e0 W :=
  fun w' hw => (h w' hw).mono fun _ _ ⟨he, hb⟩ => ⟨he, trans0 hw hb⟩
theorem up_awake (W : World) : Up 11 #[] (.returned (.bool true)) W := up_of fun w' _ => awake_any w'
set_option maxRecDepth 100000 in
set_option maxHeartbeats 1000000 in
theorem checks (A1 : Option Addr) (c1 : Nat) (A2 : Option Addr) (c2 : Nat) (m : M) (k : Int) (w : World) (h : HM w A1 c1 A2 c2 m) :
    Calls Try.prog 3 #[.agg #[.slice A1 m.cs.length c1, .slice A2 m.ns.length c2], .int .i64 k] w fun e w' => e = .returned (.bool true) ∧ Below w.heap.size w w' := by
  obtain ⟨W, hW⟩ : ∃ W, w.alloc (.cells #[.slice A1 m.cs.length c1, .slice A2 m.ns.length c2] 25) = W := ⟨_, rfl⟩
  have hal := al0 w (.cells #[.slice A1 m.cs.length c1, .slice A2 m.ns.length c2] 25)
  have hb := B2.new w (.slice A1 m.cs.length c1) (.slice A2 m.ns.length c2)
  rw [hW] at hal hb
  have hm := h.below hal
  have kA := Lib.hid (up_awake W)
  have kC := Lib.hid (show Up 12 #[.agg #[.slice A1 m.cs.length c1, .slice A2 m.ns.length c2], .int .i64 k] (.returned (.int .i64 (chk m k : Nat))) W from up_of fun w' hw => check_any A1 c1 A2 c2 m k w' (hm.below hw))
  have kR := Lib.hid (show Up 13 #[.agg #[.slice A1 m.cs.length c1, .slice A2 m.ns.length c2], .int .i64 k] (.returned (.int .i64 (chk m k : Nat))) W from up_of fun w' hw => rcheck_any A1 c1 A2 c2 m k w' (hm.below hw))
  have hS := Lib.hid (show ∀ w', Below W.heap.size W w' → SL w.heap.size (.slice A1 m.cs.length c1) (.slice A2 m.ns.length c2) w' from fun w' hw => ⟨(hb.below hw).cells.1, (hb.below hw).cells.2.1, (hb.below hw).lt⟩)
  have hSd := Lib.hid (show SL w.heap.size (.slice A1 m.cs.length c1) (.slice A2 m.ns.length c2) W.drew from ⟨hb.cells.1, hb.cells.2.1, hb.lt⟩)
  replace hal := Lib.hid hal
  replace hW := Lib.hid hW
  clear h hm hb
  generalize chk m k = E at *
  go_enter Try.func3, Try.ntmps3
  go_wp2
  rw [hW.out]
  go_region_held3 (SL w.heap.size (.slice A1 m.cs.length c1) (.slice A2 m.ns.length c2))
    (first | with_reducible exact hSd.out | with_reducible assumption | with_reducible exact hS.out _ (by assumption) | fail)
    (first
      | (go_at_call 11; ((with_reducible refine (kA.out _ (by first | assumption | exact (Below.refl _ _).drew)).mono ?_); rintro e w' ⟨rfl, hBx⟩))
      | (go_at_call 12; ((with_reducible refine (kC.out _ (by first | assumption | exact (Below.refl _ _).drew)).mono ?_); rintro e w' ⟨rfl, hBx⟩))
      | (go_at_call 13; ((with_reducible refine (kR.out _ (by first | assumption | exact (Below.refl _ _).drew)).mono ?_); rintro e w' ⟨rfl, hBx⟩)) | fail)
  all_goals
    go_wp2
    go_ret
    exact ⟨rfl, hal.out.trans (Below.mono (by assumption) hal.out.size)⟩
end Go.Proofs.Ytihaapjobkpdcaa.spnR
