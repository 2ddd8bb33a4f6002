/- slices.Insert at texts and at integers: the library's contract at this program, and one word for both of its roads: a row of the call's own gets one element more. -/
import Derived.Test.YtpijljbkdfjhcaaSpnA
import Derived.Shelf.Spec.SlicesInsert
import Derived.Shelf.Spec.SlicesInsertGrow
import Derived.Deep.OwnRows
set_option linter.unusedVariables false
namespace Go.Proofs.Ytpijljbkdfjhcaa.spnL
open Go.ChangeShapes Go.WideShapes Go.ChangeAt Go.RowKit Go.Shelf
open spnM spnA

def renS : Ren := ⟨fun
  | 17 => 79
  | 22 => 60
  | 29 => 68
  | 30 => 69
  | 36 => 75
  | n => n, fun
  | 24 => 23
  | n => n, fun n => n⟩
theorem laysS : Lays2.n22 Try.prog renS := {
  mixed := by kernel_rfl
  f17 := Try.func79.trans (congrArg some (by kernel_rfl))
  f22 := Try.func60.trans (congrArg some (by kernel_rfl))
  f29 := Try.func68.trans (congrArg some (by kernel_rfl))
  f30 := Try.func69.trans (congrArg some (by kernel_rfl))
  f36 := Try.func75.trans (congrArg some (by kernel_rfl))
  t0 := Try.underlying0
  a0 := Try.isAgg0
  z0 := Try.sizeOf0
  v0 := Try.zeroValue0
  t3 := Try.underlying3
  a3 := Try.isAgg3
  z3 := Try.sizeOf3
  v3 := Try.zeroValue3
  t4 := Try.underlying4
  a4 := Try.isAgg4
  z4 := Try.sizeOf4
  v4 := Try.zeroValue4
  t9 := Try.underlying9
  a9 := Try.isAgg9
  z9 := Try.sizeOf9
  v9 := Try.zeroValue9
  t24 := Try.underlying23
  a24 := Try.isAgg23
  z24 := Try.sizeOf23
  v24 := Try.zeroValue23
  i9 := by kernel_rfl }
def renI : Ren := ⟨fun
  | 21 => 61
  | 27 => 70
  | 28 => 71
  | 35 => 76
  | 39 => 80
  | n => n, fun
  | 22 => 24
  | n => n, fun n => n⟩
theorem laysI : Lays2.n21 Try.prog renI := {
  mixed := by kernel_rfl
  f21 := Try.func61.trans (congrArg some (by kernel_rfl))
  f27 := Try.func70.trans (congrArg some (by kernel_rfl))
  f28 := Try.func71.trans (congrArg some (by kernel_rfl))
  f35 := Try.func76.trans (congrArg some (by kernel_rfl))
  f39 := Try.func80.trans (congrArg some (by kernel_rfl))
  t0 := Try.underlying0
  a0 := Try.isAgg0
  z0 := Try.sizeOf0
  v0 := Try.zeroValue0
  t3 := Try.underlying3
  a3 := Try.isAgg3
  z3 := Try.sizeOf3
  v3 := Try.zeroValue3
  t4 := Try.underlying4
  a4 := Try.isAgg4
  z4 := Try.sizeOf4
  v4 := Try.zeroValue4
  t22 := Try.underlying24
  a22 := Try.isAgg24
  z22 := Try.sizeOf24
  v22 := Try.zeroValue24
  i3 := by kernel_rfl }
end Go.Proofs.Ytpijljbkdfjhcaa.spnL
