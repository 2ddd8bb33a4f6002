/- slices.Insert at texts and at integers: the library's contract at this program, and one word for both of its roads: a row of the call's own gets one element more. -/
import Derived.Test.YtihaapjobkpdcaaSpnA
import Derived.Shelf.Spec.SlicesInsert
import Derived.Shelf.Spec.SlicesInsertGrow
import Derived.Deep.OwnRows
set_option linter.unusedVariables false
namespace Go.Proofs.Ytihaapjobkpdcaa.spnL
open Go.ChangeShapes Go.WideShapes Go.ChangeAt Go.RowKit Go.Shelf
open spnM spnA

def renS : Ren := ⟨fun
  | 17 => 54
  | 22 => 42
  | 29 => 48
  | 30 => 49
  | 36 => 52
  | n => n, fun
  | 24 => 22
  | n => n, fun n => n⟩
theorem laysS : Lays2.n22 Try.prog renS := {
  mixed := by kernel_rfl
  f17 := Try.func54.trans (congrArg some (by kernel_rfl))
  f22 := Try.func42.trans (congrArg some (by kernel_rfl))
  f29 := Try.func48.trans (congrArg some (by kernel_rfl))
  f30 := Try.func49.trans (congrArg some (by kernel_rfl))
  f36 := Try.func52.trans (congrArg some (by kernel_rfl))
  t0 := Try.underlying0
  a0 := Try.isAgg0
  z0 := Try.sizeOf0
  v0 := Try.zeroValue0
  t3 := Try.underlying3
  a3 := Try.isAgg3
  z3 := Try.sizeOf3
  v3 := Try.zeroValue3
  t4 := Try.underlying4
  a4 := Try.isAgg4
  z4 := Try.sizeOf4
  v4 := Try.zeroValue4
  t9 := Try.underlying9
  a9 := Try.isAgg9
  z9 := Try.sizeOf9
  v9 := Try.zeroValue9
  t24 := Try.underlying22
  a24 := Try.isAgg22
  z24 := Try.sizeOf22
  v24 := Try.zeroValue22
  i9 := by kernel_rfl }
def renI : Ren := ⟨fun
  | 21 => 43
  | 27 => 50
  | 28 => 51
  | 35 => 53
  | 39 => 55
  | n => n, fun
  | 22 => 23
  | n => n, fun n => n⟩
theorem laysI : Lays2.n21 Try.prog renI := {
  mixed := by kernel_rfl
  f21 := Try.func43.trans (congrArg some (by kernel_rfl))
  f27 := Try.func50.trans (congrArg some (by kernel_rfl))
  f28 := Try.func51.trans (congrArg some (by kernel_rfl))
  f35 := Try.func53.trans (congrArg some (by kernel_rfl))
  f39 := Try.func55.trans (congrArg some (by kernel_rfl))
  t0 := Try.underlying0
  a0 := Try.isAgg0
  z0 := Try.sizeOf0
  v0 := Try.zeroValue0
  t3 := Try.underlying3
  a3 := Try.isAgg3
  z3 := Try.sizeOf3
  v3 := Try.zeroValue3
  t4 := Try.underlying4
  a4 := Try.isAgg4
  z4 := Try.sizeOf4
  v4 := Try.zeroValue4
  t22 := Try.underlying23
  a22 := Try.isAgg23
  z22 := Try.sizeOf23
  v22 := Try.zeroValue23
  i3 := by kernel_rfl }
end Go.Proofs.Ytihaapjobkpdcaa.spnL
