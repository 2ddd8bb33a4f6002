/- A map's box in a law; small maps. -/
import Derived.Test.YtpijljbkdfjhcaaSpnJ
import Derived.Test.YtpijljbkdfjhcaaSpnK
set_option linter.unusedVariables false
namespace Go.Proofs.Ytpijljbkdfjhcaa.spnS
open Go.ChangeShapes Go.WideShapes Go.ChangeAt Go.RowKit
open spnM spnA spnB spnC spnN spnP spnD spnE spnF spnH spnI spnJ spnK
attribute [local go_sem high] bin_slt bin_sle bin_sge bin_seq bin_sne

/-- a map in a box -/
structure MB (b : Nat) (A1 : Option Addr) (c1 : Nat) (A2 : Option Addr) (c2 : Nat) (m : M) (W : World) : Prop where
  p0 : W.cell? ⟨b, 0, none⟩ = some (.slice A1 m.cs.length c1)
  p1 : W.cell? ⟨b, 1, none⟩ = some (.slice A2 m.ns.length c2)
  hm : HM W A1 c1 A2 c2 m
theorem MB.below {b c1 c2 : Nat} {A1 A2 : Option Addr} {m : M} {W W' : World} (h : MB b A1 c1 A2 c2 m W) (hB : Below W.heap.size W W') : MB b A1 c1 A2 c2 m W' := ⟨keep_cell hB h.p0, keep_cell hB h.p1, h.hm.below hB⟩
theorem MB.lt {b c1 c2 : Nat} {A1 A2 : Option Addr} {m : M} {W : World} (h : MB b A1 c1 A2 c2 m W) : b < W.heap.size := World.block_lt_of_cell? _ _ h.p0
theorem MB.sl {b c1 c2 : Nat} {A1 A2 : Option Addr} {m : M} {W : World} (h : MB b A1 c1 A2 c2 m W) : SL b (.slice A1 m.cs.length c1) (.slice A2 m.ns.length c2) W := ⟨h.p0, h.p1, h.lt⟩
theorem MB.new {c1 c2 : Nat} {A1 A2 : Option Addr} {m : M} {w : World} (h : HM w A1 c1 A2 c2 m) : MB w.heap.size A1 c1 A2 c2 m (w.alloc (.cells #[.slice A1 m.cs.length c1, .slice A2 m.ns.length c2] 26)) :=
  ⟨(cells2 w _ _ _).1, (cells2 w _ _ _).2, h.below (al0 _ _)⟩
/-- small maps -/
def Sm (m : M) : Prop := m.cs.length ≤ 8 ∧ m.ns.length ≤ 8
theorem sm_ok {m : M} {k : Int} (h : Ok m k) : Sm m := ⟨by have := h.n8; have := h.nc; omega, h.n8⟩
theorem sm_non : Sm non := ⟨Nat.zero_le _, Nat.zero_le _⟩
theorem sm_spl (m : M) (k i : Int) (key : ByteArray) : Sm (splM m k i key) := by
  by_cases h : splE m k i key = 0
  · exact sm_ok (Ok.split h)
  · unfold splM; rw [if_neg h]; exact sm_non
theorem sm_mrg (m : M) (k i : Int) : Sm (mrgM m k i) := by
  by_cases h : mrgE m k i = 0
  · exact sm_ok (Ok.merge h)
  · unfold mrgM; rw [if_neg h]; exact sm_non
theorem sm_mov (m : M) (k i n : Int) : Sm (movM m k i n) := by
  by_cases h : movE m k i n = 0
  · exact sm_ok (Ok.move h)
  · unfold movM; rw [if_neg h]; exact sm_non
theorem GM.hms {w : World} {base c1 c2 : Nat} {A1 A2 : Option Addr} {m : M} (h : GM w base A1 c1 A2 c2 m) (hs : Sm m) : HM w A1 c1 A2 c2 m := h.hm (by have := hs.1; omega) (by have := hs.2; omega)
end Go.Proofs.Ytpijljbkdfjhcaa.spnS
