/- The contracts of New, told, isMember, and of the document's own Plain. -/
import Derived.Test.YtmhflemmkoiffaaStVB
set_option linter.unusedVariables false
set_option linter.unusedSimpArgs false
namespace Go.Proofs.Ytmhflemmkoiffaa.stVC
open Go.ChangeShapes Go.WideShapes Go.ChangeAt Go.RowKit Go.Deep
open stVA stVB

abbrev aV (v : V) : Array Value := #[.int .i64 v.e, .bool v.h0, .bool v.h1, .bool v.h2, .bool v.h3, .int .u64 v.t0, .int .u64 v.t1, .int .u64 v.t2, .int .u64 v.t3]
abbrev hV (v : V) : Value := .agg #[.bool v.h0, .bool v.h1, .bool v.h2, .bool v.h3]
def newV (e : Int) (v : V) : V := ⟨e, v.h0, v.h1, v.h2, v.h3, 0, 0, 0, 0⟩
theorem bal2 (w : World) (o1 o2 : Obj) : Below w.heap.size w ((w.alloc o1).alloc o2) := bal (al0 w o1) o2
theorem bal3 (w : World) (o1 o2 o3 : Obj) : Below w.heap.size w (((w.alloc o1).alloc o2).alloc o3) := bal (bal (al0 w o1) o2) o3
set_option maxRecDepth 100000 in
theorem new_any (e : Int) (v : V) (w : World) : Calls Try.prog 14 #[.int .i64 e, hV v] w fun r w' => r = .returned (vV (newV e v)) ∧ Below w.heap.size w w' := by
  go_enter Try.func14, Try.ntmps14
  go_wp2
  exact bodyPost_ret (v := vV (newV e v)) (by simp [newV, results, Try.results14, go_sem]) rfl ⟨rfl, bal2 w _ _⟩
/-- is dc a member? -/
def isM (v : V) (dc : Int) : Bool := if 0 ≤ dc ∧ dc < 4 then hb v dc.toNat else false
set_option maxRecDepth 100000 in
theorem ism_any (v : V) (dc : Int) (w : World) : Calls Try.prog 28 #[vV v, .int .i64 dc] w fun r w' => r = .returned (.bool (isM v dc)) ∧ Below w.heap.size w w' := by
  have hR := Lib.hid (R9.new w v 42)
  have hB := Lib.hid (al0 w (.cells (aV v) 42))
  unfold isM
  by_cases h1 : 0 ≤ dc
  · by_cases h2 : dc < 4
    · rw [if_pos ⟨h1, h2⟩]
      obtain ⟨j, rfl⟩ := Int.eq_ofNat_of_zero_le h1
      have hj : j < 4 := by omega
      have hc := R9.hcell hR.out hj
      rw [show ((j : Int)).toNat = j from rfl]
      generalize hb v j = r at *
      go_enter Try.func28, Try.ntmps28
      go_wp2
      go_ret
      exact ⟨rfl, hB.out⟩
    · rw [if_neg (fun h => h2 h.2)]
      go_enter Try.func28, Try.ntmps28
      go_wp2
      go_ret
      exact ⟨rfl, hB.out⟩
  · rw [if_neg (fun h => h1 h.1)]
    go_enter Try.func28, Try.ntmps28
    go_wp2
    go_ret
    exact ⟨rfl, hB.out⟩
end Go.Proofs.Ytmhflemmkoiffaa.stVC