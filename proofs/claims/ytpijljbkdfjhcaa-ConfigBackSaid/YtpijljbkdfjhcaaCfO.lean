/- The document's both, some, speak. -/
import Derived.Test.YtpijljbkdfjhcaaCfN
import Derived.Test.YtpijljbkdfjhcaaSpnIr
import Derived.Test.YtpijljbkdfjhcaaSpnJr
import Derived.Test.YtpijljbkdfjhcaaSpnKr
set_option linter.unusedVariables false
set_option maxRecDepth 100000
namespace Go.Proofs.Ytpijljbkdfjhcaa.cfO
open Go.ChangeShapes Go.WideShapes Go.ChangeAt Go.RowKit Go.Deep
open spnM spnA spnB spnD spnI spnJ spnK spnS cfA cfB cfC cfD cfE cfF cfG cfH cfI cfJ cfK cfR cfL cfM cfN
attribute [local go_sem ↓ high] op_ldS op_ldR op_ldM ex_ldS ex_ldR ex_ldM

set_option maxHeartbeats 1000000 in
theorem rboth_any (s : Cf) (a : Wh) (j : Nat) (hj : j < 4) (w : World) : Calls Try.prog 32 #[.agg (cS s a), .int .i64 j] w fun e w' => e = .returned (.agg (cS (spkM s j 5 2) a)) ∧ Below w.heap.size w w' := by
  have hB1 := al0 w (.cells (cS s a) TR)
  have hS1 := SB.new TR s a w
  obtain ⟨W1, hW1⟩ : ∃ W1, w.alloc (.cells (cS s a) TR) = W1 := ⟨_, rfl⟩
  have hz1 : W1.heap.size = w.heap.size + 1 := by rw [← hW1]; simp
  rw [hW1] at hB1 hS1
  have hB2 := al0 W1 (.cells #[.int .i64 0, .int .i64 0, .bool false, .bool false, .bool false, .bool false, .slice none 0 0, .slice none 0 0, .slice none 0 0, .slice none 0 0, .slice none 0 0, .slice none 0 0, .slice none 0 0, .slice none 0 0, .int .i64 0, .int .i64 0, .int .i64 0, .int .i64 0, .int .i64 0, .int .i64 0, .int .i64 0, .int .i64 0, .int .i64 0, .int .i64 0, .int .i64 0, .int .i64 0, .int .i64 0, .int .i64 0, .int .i64 0, .int .i64 0, .int .i64 0, .int .i64 0, .int .i64 0, .int .i64 0, .int .i64 0] TR)
  have hS2 : SB TR W1.heap.size zC zA (W1.alloc (.cells #[.int .i64 0, .int .i64 0, .bool false, .bool false, .bool false, .bool false, .slice none 0 0, .slice none 0 0, .slice none 0 0, .slice none 0 0, .slice none 0 0, .slice none 0 0, .slice none 0 0, .slice none 0 0, .int .i64 0, .int .i64 0, .int .i64 0, .int .i64 0, .int .i64 0, .int .i64 0, .int .i64 0, .int .i64 0, .int .i64 0, .int .i64 0, .int .i64 0, .int .i64 0, .int .i64 0, .int .i64 0, .int .i64 0, .int .i64 0, .int .i64 0, .int .i64 0, .int .i64 0, .int .i64 0, .int .i64 0] TR)) := SB.new TR zC zA W1
  obtain ⟨W, hW2⟩ : ∃ W, W1.alloc (.cells #[.int .i64 0, .int .i64 0, .bool false, .bool false, .bool false, .bool false, .slice none 0 0, .slice none 0 0, .slice none 0 0, .slice none 0 0, .slice none 0 0, .slice none 0 0, .slice none 0 0, .slice none 0 0, .int .i64 0, .int .i64 0, .int .i64 0, .int .i64 0, .int .i64 0, .int .i64 0, .int .i64 0, .int .i64 0, .int .i64 0, .int .i64 0, .int .i64 0, .int .i64 0, .int .i64 0, .int .i64 0, .int .i64 0, .int .i64 0, .int .i64 0, .int .i64 0, .int .i64 0, .int .i64 0, .int .i64 0] TR) = W := ⟨_, rfl⟩
  rw [hW2] at hB2 hS2
  have hS3 := hS1.below hB2
  rw [hz1] at hS2
  have hX : Hid (SB TR w.heap.size (spkM s j 0 2) a W ∧ SB TR (w.heap.size + 1) zC zA W ∧ Below w.heap.size w W) := Lib.hid ⟨by unfold spkM; rw [spkF_0]; exact hS3, hS2, trans0 hB1 hB2⟩
  have hWf : Hid (((w.alloc (.cells (cS s a) TR)).alloc (.cells #[.int .i64 0, .int .i64 0, .bool false, .bool false, .bool false, .bool false, .slice none 0 0, .slice none 0 0, .slice none 0 0, .slice none 0 0, .slice none 0 0, .slice none 0 0, .slice none 0 0, .slice none 0 0, .int .i64 0, .int .i64 0, .int .i64 0, .int .i64 0, .int .i64 0, .int .i64 0, .int .i64 0, .int .i64 0, .int .i64 0, .int .i64 0, .int .i64 0, .int .i64 0, .int .i64 0, .int .i64 0, .int .i64 0, .int .i64 0, .int .i64 0, .int .i64 0, .int .i64 0, .int .i64 0, .int .i64 0] TR)) = W) := Lib.hid (by rw [hW1, hW2])
  have hj0 : (0 : Int) ≤ (j : Int) := by omega
  have hj3 : (j : Int) ≤ 3 := by omega
  have hgt := Lib.hid (fun w => gate_any (j : Int) w hj0 hj3)
  clear hB1 hS1 hW1 hz1 hB2 hS2 hW2 hS3
  go_enter Try.func32, Try.ntmps32
  go_upto_region 1 with (fail)
  rw [hWf.out]
  clear hWf
  go_wp2_with (first | (go_at_call 44; ((with_reducible refine (hgt.out _).mono ?_); rintro e w' ⟨rfl, rfl⟩)) | fail)
  go_loopw [5] (fun i wr => ∃ k : Nat, k ≤ 5 ∧ i = .int .i64 (1 + 5 * (j : Int) + (k : Int)) ∧ Hid (SB TR w.heap.size (spkM s j k 2) a wr ∧ SB TR (w.heap.size + 1) zC zA wr ∧ Below w.heap.size w wr)) (fun i _ => (6 + 5 * j) - (intOf i).toNat)
  case atStart => exact ⟨0, by omega, by simp, hX⟩
  case round =>
    clear hX
    obtain ⟨k, hk, rfl, hX⟩ := hrel
    by_cases hlt : k < 5
    · have hl : (1 + 5 * (j : Int) + (k : Int)) < 1 + 5 * (j : Int) + 5 := by omega
      have hk21 : 1 + 5 * j + k < 21 := by omega
      have hmo := hX.out.1.mo hk21
      have f := hX.out.1.fz
      have g0 : (0 : Int) ≤ 1 + 5 * (j : Int) + (k : Int) := by omega
      have g1 : 1 + 5 * (j : Int) + (k : Int) < 21 := by omega
      have g2 : (1 + 5 * (j : Int) + (k : Int)).toNat = 1 + 5 * j + k := by omega
      have g3 : IntKind.i64.wrap (1 + 5 * (j : Int) + (k : Int) + 1) = 1 + 5 * (j : Int) + ((k + 1 : Nat) : Int) := by rw [wrap_in _ (by omega) (by omega)]; omega
      have g4 : IntKind.i64.wrap (1 + 5 * (j : Int) + 5) = 1 + 5 * (j : Int) + 5 := by rw [wrap_in _ (by omega) (by omega)]
      have hu : Hid (SB TR w.heap.size (spkM s j (k + 1) 2) a (wr.setCell ⟨w.heap.size, 14 + (1 + 5 * j + k), none⟩ (.int .i64 2)) ∧ SB TR (w.heap.size + 1) zC zA (wr.setCell ⟨w.heap.size, 14 + (1 + 5 * j + k), none⟩ (.int .i64 2)) ∧ Below w.heap.size w (wr.setCell ⟨w.heap.size, 14 + (1 + 5 * j + k), none⟩ (.int .i64 2))) := Lib.hid (by
        obtain ⟨h1, h2, h3⟩ := hX.out
        have q := h1.setMo hk21 2
        refine ⟨?_, h2.other (by omega) _ _, h3.setCell (p := ⟨w.heap.size, 14 + (1 + 5 * j + k), none⟩) (Nat.le_refl _) _⟩
        unfold spkM at q ⊢
        rw [← spkF_up s.mo j k 2]
        exact q)
      clear hX
      go_wp2_with (first | (go_at_call 44; ((with_reducible refine (hgt.out _).mono ?_); rintro e w' ⟨rfl, rfl⟩)) | fail)
      go_roundw
      case rel => exact ⟨k + 1, by omega, by first | rfl | simp | (go_must (exact (0 : Nat))), hu⟩
      case measure => simp [intOf]; omega
    · obtain rfl : k = 5 := by omega
      have hl : ¬ ((1 + 5 * (j : Int) + ((5 : Nat) : Int)) < 1 + 5 * (j : Int) + 5) := by omega
      have g4 : IntKind.i64.wrap (1 + 5 * (j : Int) + 5) = 1 + 5 * (j : Int) + 5 := by rw [wrap_in _ (by omega) (by omega)]
      obtain ⟨h1, h2, h3⟩ := hX.out
      have h3' := Lib.hid h3
      have hsz := Lib.hid (show w.heap.size ≤ w.heap.size + 1 by omega)
      clear hX h3
      go_wp2_with (first | (go_at_call 44; ((with_reducible refine (hgt.out _).mono ?_); rintro e w' ⟨rfl, rfl⟩)) | (refine st_load rfl TR _ rfl w.heap.size rfl h1 (.inr rfl) ?_) | (refine st_put rfl TR _ _ rfl (w.heap.size + 1) (spkM s j 5 2) a rfl rfl h2 (.inr rfl) ?_; intro W9 hS9 hB9 hG9 hz9; have hs9 := Lib.hid hS9; have hb9 := Lib.hid (hB9 w.heap.size hsz.out); clear hS9 hB9 hG9 hz9) | fail)
      exact bodyPost_ret (v := .agg (cS (spkM s j 5 2) a)) (st_res rfl _ _ (w.heap.size + 1) rfl hs9.out (.inr rfl)) rfl ⟨rfl, h3'.out.trans hb9.out⟩
set_option maxHeartbeats 1000000 in
theorem some_any (s : Cf) (a : Wh) (x : Int) (w : World) : Calls Try.prog 45 #[.agg (cS s a), .int .i64 x] w fun e w' => e = .returned (.bool (anyM s.mo x)) ∧ Below w.heap.size w w' := by
  have hB := Lib.hid (al0 w (.cells (cS s a) TR))
  have hS := Lib.hid (SB.new TR s a w)
  go_enter Try.func45, Try.ntmps45
  go_wp2
  generalize w.alloc (Obj.cells (cS s a) TR) = W at *
  go_loopw [5] (fun i wr => ∃ j : Nat, j ≤ 21 ∧ i = .int .i64 j ∧ Hid (anyN s.mo x j = false) ∧ W = wr) (fun i _ => 21 - (intOf i).toNat)
  case atStart => exact ⟨0, by omega, rfl, Lib.hid rfl, rfl⟩
  case round =>
    obtain ⟨j, hj, rfl, hn, rfl⟩ := hrel
    by_cases hlt : j < 21
    · have hc := hS.out.mo hlt
      have hj0 : (0 : Int) ≤ (j : Int) := by omega
      have hj1 : (j : Int) < 21 := by omega
      have hj2 : (j : Int) ≤ 20 := by omega
      have hu := Lib.hid (anyN_up s.mo x j)
      have hin := Lib.hid (fun (e : s.mo j = x) => anyN_in (n := 21) hlt e)
      generalize s.mo j = y at *
      by_cases hxy : y = x
      · have hxy' : (y == x) = true := by rw [beq_iff_eq]; exact hxy
        have hb' := Lib.hid (hin.out hxy)
        clear hin hu hn hxy
        go_wp2
        go_ret
        exact ⟨by rw [show anyM s.mo x = true from hb'.out]; rfl, hB.out⟩
      · have hxy' : (y == x) = false := by rw [beq_eq_false_iff_ne]; exact hxy
        have hn' : Hid (anyN s.mo x (j + 1) = false) := Lib.hid (by rw [hu.out, hn.out]; simp; exact hxy)
        clear hin hu hn hxy
        go_wp2
        go_roundw
        case rel => exact ⟨j + 1, by omega, by go_num, hn', by trivial⟩
        case measure => simp [intOf]; omega
    · obtain rfl : j = 21 := by omega
      go_wp2
      go_ret
      exact ⟨by rw [show anyM s.mo x = false from hn.out]; rfl, hB.out⟩
end Go.Proofs.Ytpijljbkdfjhcaa.cfO
