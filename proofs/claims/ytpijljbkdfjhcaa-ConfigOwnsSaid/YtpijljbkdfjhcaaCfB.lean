/- How many members there are: the program's Count, the document's; the small calls. -/
import Derived.Test.YtpijljbkdfjhcaaCfA
set_option linter.unusedVariables false
set_option maxRecDepth 100000
namespace Go.Proofs.Ytpijljbkdfjhcaa.cfB
open Go.ChangeShapes Go.WideShapes Go.ChangeAt Go.RowKit Go.Deep
open spnM spnA cfA

/-- how many of the first n -/
def cntN (f : Nat → Bool) : Nat → Nat
  | 0 => 0
  | n + 1 => cntN f n + if f n = true then 1 else 0
def cnt (s : Cf) : Nat := cntN s.me 4
theorem cntN_le (f : Nat → Bool) : ∀ n, cntN f n ≤ n
  | 0 => Nat.le_refl _
  | n + 1 => by have := cntN_le f n; unfold cntN; split <;> omega
theorem cntN_up (f : Nat → Bool) (n : Nat) : cntN f (n + 1) = cntN f n + if f n = true then 1 else 0 := rfl
theorem ix_me (s : Cf) {j : Nat} (h : j < 4) (w : World) : (Instr.index 22 (.agg #[.bool (s.me 0), .bool (s.me 1), .bool (s.me 2), .bool (s.me 3)]) (.int .i64 (j : Int))).run Try.prog w = .ok (.bool (s.me j)) w := by
  rcases four h with rfl | rfl | rfl | rfl <;> kernel_rfl
theorem count_any (s : Cf) (a : Wh) (w : World) : Calls Try.prog 13 #[.agg (cS s a)] w fun e w' => e = .returned (.int .i64 (cnt s)) ∧ Below w.heap.size w w' := by
  have hB := Lib.hid (al0 w (.cells (cS s a) 30))
  have hi := Lib.hid (fun (j : Nat) (h : j < 4) (wx : World) => ix_me s h wx)
  have hS := SB.new 30 s a w
  have k0 := hS.me (j := 0) (by omega)
  have k1 := hS.me (j := 1) (by omega)
  have k2 := hS.me (j := 2) (by omega)
  have k3 := hS.me (j := 3) (by omega)
  go_enter Try.func13, Try.ntmps13
  go_wp2
  clear k0 k1 k2 k3 hS
  generalize w.alloc (Obj.cells (cS s a) 30) = W at *
  go_loopw [3, 8] (fun n i wr => ∃ j : Nat, j ≤ 4 ∧ i = .int .i64 j ∧ n = .int .i64 (cntN s.me j) ∧ Hid (Below w.heap.size w wr)) (fun _ i _ => 4 - (intOf i).toNat)
  case atStart => exact ⟨0, by omega, rfl, rfl, hB⟩
  case round =>
    clear hB
    obtain ⟨j, hj, rfl, rfl, hB⟩ := hrel
    by_cases hlt : j < 4
    · have hx := hi.out j hlt
      have e := Lib.hid (cntN_up s.me j)
      have hle := cntN_le s.me j
      generalize cntN s.me j = n at *
      generalize s.me j = x at *
      cases x
      all_goals
        go_wp2
        go_roundw
        case rel => exact ⟨j + 1, by omega, by go_num, by rw [e.out]; simp, hB⟩
        case measure => simp [intOf]; omega
    · obtain rfl : j = 4 := by omega
      clear hi
      go_wp2
      go_ret
      exact ⟨rfl, hB.out⟩
theorem rcount_any (s : Cf) (a : Wh) (w : World) : Calls Try.prog 14 #[.agg (cS s a)] w fun e w' => e = .returned (.int .i64 (cnt s)) ∧ Below w.heap.size w w' := by
  have hB := Lib.hid (al0 w (.cells (cS s a) 34))
  have hS := Lib.hid (SB.new 34 s a w)
  go_enter Try.func14, Try.ntmps14
  go_wp2
  generalize w.alloc (Obj.cells (cS s a) 34) = W at *
  go_loopw [3, 4] (fun n i wr => ∃ j : Nat, j ≤ 4 ∧ i = .int .i64 j ∧ n = .int .i64 (cntN s.me j) ∧ W = wr) (fun _ i _ => 4 - (intOf i).toNat)
  case atStart => exact ⟨0, by omega, rfl, rfl, rfl⟩
  case round =>
    obtain ⟨j, hj, rfl, rfl, rfl⟩ := hrel
    by_cases hlt : j < 4
    · have hx := hS.out.me hlt
      have e := Lib.hid (cntN_up s.me j)
      have hle := cntN_le s.me j
      generalize cntN s.me j = n at *
      generalize s.me j = x at *
      cases x
      all_goals
        go_wp2
        go_roundw
        case rel => exact ⟨j + 1, by omega, by go_num, by rw [e.out]; simp, by trivial⟩
        case measure => simp [intOf]; omega
    · obtain rfl : j = 4 := by omega
      go_wp2
      go_ret
      exact ⟨rfl, hB.out⟩
theorem isFrom_any (l m n : Int) (w : World) : Calls Try.prog 27 #[.int .i64 l, .int .i64 m, .int .i64 n] w fun e w' => e = .returned (.bool (decide (l ≤ n) && decide (n ≤ m))) ∧ w = w' := by
  by_cases h1 : l ≤ n <;> by_cases h2 : n ≤ m
  all_goals
    go_enter Try.func27, Try.ntmps27
    go_wp2
    go_ret
    exact ⟨by simp [h1, h2], rfl⟩
theorem place_any (d n : Int) (w : World) (h0 : 0 ≤ d) (h3 : d ≤ 3) (hn0 : -1 ≤ n) (hn4 : n ≤ 4) : Calls Try.prog 24 #[.int .i64 d, .int .i64 n] w fun e w' => e = .returned (.int .i64 (1 + 5 * d + n + 1)) ∧ w = w' := by
  go_enter Try.func24, Try.ntmps24
  go_wp2
  go_ret
  exact ⟨rfl, rfl⟩
theorem gate_any (d : Int) (w : World) (h0 : 0 ≤ d) (h3 : d ≤ 3) : Calls Try.prog 44 #[.int .i64 d] w fun e w' => e = .returned (.int .i64 (1 + 5 * d)) ∧ w = w' := by
  go_enter Try.func44, Try.ntmps44
  go_wp2
  go_ret
  exact ⟨rfl, rfl⟩
end Go.Proofs.Ytpijljbkdfjhcaa.cfB
