/- Words on steps of worlds. -/
import Derived.Test.YtkbhmeajgmecoaaNuB
import Derived.Deep.RegionHeld3
import Derived.Deep.DeepCutAuto
namespace Go.Proofs.Ytkbhmeajgmecoaa.numC
open Go.ChangeShapes Go.WideShapes Go.ChangeAt Go.RowKit
open numM rowA byt numA numB

theorem trans0 {w w1 w2 : World} (h1 : Below w.heap.size w w1) (h2 : Below w1.heap.size w1 w2) : Below w.heap.size w w2 := h1.trans (h2.mono h1.size)

/-- the bytes lie in w' too, and nothing that was there is touched -/
def S1 (w : World) (a : Option Addr) (k : Nat) (l : List Nat) (w' : World) : Prop := BL w' a k l ∧ Below w.heap.size w w'
theorem S1.start {w : World} {a : Option Addr} {k : Nat} {l : List Nat} (h : BL w a k l) : S1 w a k l w := ⟨h, Below.refl _ _⟩
theorem S1.step {w w1 w2 : World} {a : Option Addr} {k : Nat} {l : List Nat} (h : S1 w a k l w1) (hB : Below w1.heap.size w1 w2) : S1 w a k l w2 := ⟨h.1.below hB, trans0 h.2 hB⟩
theorem S1.drew {w w1 : World} {a : Option Addr} {k : Nat} {l : List Nat} (h : S1 w a k l w1) : S1 w a k l w1.drew := ⟨h.1, h.2.drew⟩
theorem S1.bl {w w1 : World} {a : Option Addr} {k : Nat} {l : List Nat} (h : S1 w a k l w1) : BL w1 a k l := h.1
theorem own_bl {w : World} {base n c m : Nat} {A : Option Addr} {l : List Nat} (h : Own w base (.slice A n c) m l) : BL w A m l := by
  obtain ⟨_, _, e0, _, _, _, _, hb⟩ := h.form
  cases e0
  exact hb
end Go.Proofs.Ytkbhmeajgmecoaa.numC
