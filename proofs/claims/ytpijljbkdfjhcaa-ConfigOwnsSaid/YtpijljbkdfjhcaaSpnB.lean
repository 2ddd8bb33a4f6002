/- The contracts of the small calls on maps that only read: the program's and the document's own answers. -/
import Derived.Test.YtpijljbkdfjhcaaSpnA
import Derived.Deep.QuietTactic
import Derived.BigQuiet
set_option linter.unusedVariables false
namespace Go.Proofs.Ytpijljbkdfjhcaa.spnB
open Go.ChangeShapes Go.WideShapes Go.ChangeAt Go.RowKit
open spnM spnA
attribute [local go_sem high] bin_slt bin_sle bin_sge bin_seq bin_sne

theorem isNode_any (n k : Int) (w : World) : Calls Try.prog 65 #[.int .i64 n, .int .i64 k] w fun e w' => e = .returned (.bool (isN n k)) ∧ w = w' := by
  unfold isN
  by_cases h1 : 0 ≤ n <;> by_cases h2 : n < k
  all_goals
    go_enter Try.func65, Try.ntmps65
    go_wp2
    go_ret
    exact ⟨by simp [h1, h2], rfl⟩
theorem within_any (key lo hi : ByteArray) (w : World) : Calls Try.prog 67 #[.string key, .string lo, .string hi] w fun e w' => e = .returned (.bool (wth key lo hi)) ∧ w = w' := by
  unfold wth
  cases h1 : slt key lo <;> cases h2 : seq hi emp <;> cases h3 : slt key hi
  all_goals
    go_enter Try.func67, Try.ntmps67
    go_wp2
    go_ret
    exact ⟨rfl, rfl⟩
theorem rwithin_any (key lo hi : ByteArray) (w : World) : Calls Try.prog 47 #[.string key, .string lo, .string hi] w fun e w' => e = .returned (.bool (wth key lo hi)) ∧ w = w' := by
  unfold wth
  cases h1 : slt key lo <;> cases h2 : seq hi emp <;> cases h3 : slt key hi
  all_goals
    go_enter Try.func47, Try.ntmps47
    go_wp2
    go_ret
    exact ⟨rfl, rfl⟩
/-- the box of a map -/
abbrev bx (A1 : Option Addr) (n1 c1 : Nat) (A2 : Option Addr) (n2 c2 : Nat) : Obj := .cells #[.slice A1 n1 c1, .slice A2 n2 c2] 26
theorem has_any (A1 : Option Addr) (c1 : Nat) (A2 : Option Addr) (c2 : Nat) (m : M) (w : World) (hs : m.cs.length ≤ 140737488351232) (hs2 : m.ns.length ≤ 140737488351232) :
    Calls Try.prog 73 #[.agg #[.slice A1 m.cs.length c1, .slice A2 m.ns.length c2]] w fun e w' => e = .returned (.bool (has m)) ∧ Below w.heap.size w w' := by
  unfold has
  by_cases h : m.ns.length = m.cs.length + 1
  · rw [decide_eq_true h]
    have h' : ((m.ns.length : Int) == (m.cs.length : Int) + 1) = true := by rw [beq_iff_eq]; omega
    clear h
    go_enter Try.func73, Try.ntmps73
    go_wp2
    go_ret
    exact ⟨rfl, al0 _ _⟩
  · rw [decide_eq_false h]
    have h' : ((m.ns.length : Int) == (m.cs.length : Int) + 1) = false := by rw [beq_eq_false_iff_ne]; omega
    clear h
    go_enter Try.func73, Try.ntmps73
    go_wp2
    go_ret
    exact ⟨rfl, al0 _ _⟩
end Go.Proofs.Ytpijljbkdfjhcaa.spnB
