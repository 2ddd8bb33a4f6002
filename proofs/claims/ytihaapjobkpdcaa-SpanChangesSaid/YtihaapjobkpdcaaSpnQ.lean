/- awake, said of every world; what a law's last region is told. -/
import Derived.Test.YtihaapjobkpdcaaSpnI
set_option linter.unusedVariables false
namespace Go.Proofs.Ytihaapjobkpdcaa.spnQ
open Go.ChangeShapes Go.WideShapes Go.ChangeAt Go.RowKit
open spnM spnA spnB spnC spnN spnP spnD spnE spnF spnH spnI
attribute [local go_sem high] bin_slt bin_sle bin_sge bin_seq bin_sne

def m0 : M := ⟨[], [0]⟩
def km : ByteArray := { data := #[109] }
def kn : ByteArray := { data := #[110] }
def m1 : M := ⟨[km], [0, 0]⟩
theorem e0 : splE m0 2 0 km = 0 := by decide +kernel
theorem e1 : splM m0 2 0 km = m1 := by unfold splM; rw [if_pos e0]; rfl
theorem e2 : fnd [km] kn = 1 := by decide +kernel
set_option maxRecDepth 100000 in
theorem awake_any (w : World) : Calls Try.prog 11 #[] w fun e w' => e = .returned (.bool true) ∧ Below w.heap.size w w' := by
  have hw := Lib.hid (whole_any 0 w)
  go_enter Try.func11, Try.ntmps11
  go_wp2_with (fail)
  refine hw.out.mono ?_
  rintro e w1 ⟨A1, c1, A2, c2, rfl, hG, hB⟩
  have hsp := split_any A1 c1 A2 c2 ⟨[], [0]⟩ 2 0 km w1 (hG.hm (by decide) (by decide))
  rw [show splE ⟨[], [0]⟩ 2 0 km = 0 from e0, show splM ⟨[], [0]⟩ 2 0 km = m1 from e1] at hsp
  unfold km at hsp
  have hsp : Calls Try.prog 24 #[.agg #[.slice A1 0 c1, .slice A2 1 c2], .int .i64 2, .int .i64 0, .string { data := #[109] }] w1 fun e w' => ∃ D1 d1 D2 d2, e = .returned (.tuple #[.agg #[.slice D1 1 d1, .slice D2 2 d2], .int .i64 0]) ∧ GM w' w1.heap.size D1 d1 D2 d2 m1 ∧ Below w1.heap.size w1 w' := hsp
  replace hsp := Lib.hid hsp
  have hB1 := Lib.hid hB
  clear hG hB
  go_wp2_with (fail)
  refine hsp.out.mono ?_
  rintro e w2 ⟨D1, d1, D2, d2, rfl, hG, hB⟩
  have hf : Calls Try.prog 18 #[.agg #[.slice D1 1 d1, .slice D2 2 d2], .string kn] (w2.alloc (.cells #[.slice D1 1 d1, .slice D2 2 d2] 25)) _ := find_any D1 d1 (.slice D2 2 d2) [km] kn (w2.alloc (.cells #[.slice D1 1 d1, .slice D2 2 d2] 25)) ((own_rl hG.cs).below (al0 _ _)) (by decide)
  rw [e2] at hf
  unfold kn at hf
  replace hf := Lib.hid hf
  have hB2 := Lib.hid (trans0 (trans0 hB1.out hB) (al0 w2 (.cells #[.slice D1 1 d1, .slice D2 2 d2] 25)))
  clear hG hB
  go_wp2_with (go_at_call 18; ((with_reducible refine (hf.out).mono ?_); rintro e w' ⟨rfl, hB⟩))
  go_ret
  exact ⟨rfl, trans0 hB2.out hB⟩
end Go.Proofs.Ytihaapjobkpdcaa.spnQ
