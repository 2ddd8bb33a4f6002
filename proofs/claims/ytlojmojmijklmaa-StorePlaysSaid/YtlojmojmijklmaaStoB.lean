/- The contracts of the small calls: New, Check, copies of texts, isBelow, Floor, Within, and what a nil store answers. -/
import Derived.Test.YtlojmojmijklmaaStoL
import Derived.Test.YtlojmojmijklmaaChnF
set_option linter.unusedVariables false
set_option maxRecDepth 100000
namespace Go.Proofs.Ytlojmojmijklmaa.stoB
open Go.ChangeShapes Go.WideShapes Go.ChangeAt Go.RowKit Go.Deep
open opV chnM gen chnA chnB chnR chnE stoM stoA stoL

theorem bin_slt (t : TypeId) (a b : ByteArray) : binOp .lss t (.string a) (.string b) = pure (.bool (slt a b)) := by simp [binOp, Op.stringOp, slt]
theorem bin_sle (t : TypeId) (a b : ByteArray) : binOp .leq t (.string a) (.string b) = pure (.bool (sle a b)) := by simp [binOp, Op.stringOp, slt, sle, seq]
theorem bin_sge (t : TypeId) (a b : ByteArray) : binOp .geq t (.string a) (.string b) = pure (.bool (!slt a b)) := by simp [binOp, Op.stringOp, slt]
theorem bin_sgt (t : TypeId) (a b : ByteArray) : binOp .gtr t (.string a) (.string b) = pure (.bool (!sle a b)) := by simp [binOp, Op.stringOp, slt, sle, seq]
theorem bin_seq (t : TypeId) (a b : ByteArray) : binOp .eql t (.string a) (.string b) = pure (.bool (seq a b)) := by simp [binOp, Op.stringOp, seq]
theorem bin_sne (t : TypeId) (a b : ByteArray) : binOp .neq t (.string a) (.string b) = pure (.bool (!seq a b)) := by simp [binOp, Op.stringOp, seq]
attribute [local go_sem high] bin_slt bin_sle bin_sge bin_sgt bin_seq bin_sne

theorem within_any (key lo hi : ByteArray) (w : World) : Calls Try.prog 49 #[.string key, .string lo, .string hi] w fun e w' => e = .returned (.bool (wth key lo hi)) ∧ w = w' := by
  unfold wth
  cases h1 : slt key lo <;> cases h2 : seq hi emp <;> cases h3 : slt key hi
  all_goals
    go_enter Try.func49, Try.ntmps49
    go_wp2
    go_ret
    exact ⟨rfl, rfl⟩
theorem rwithin_any (key lo hi : ByteArray) (w : World) : Calls Try.prog 45 #[.string key, .string lo, .string hi] w fun e w' => e = .returned (.bool (wth key lo hi)) ∧ w = w' := by
  unfold wth
  cases h1 : slt key lo <;> cases h2 : seq hi emp <;> cases h3 : slt key hi
  all_goals
    go_enter Try.func45, Try.ntmps45
    go_wp2
    go_ret
    exact ⟨rfl, rfl⟩
theorem isDC_any (n : Int) (w : World) : Calls Try.prog 43 #[.int .i64 n] w fun e w' => e = .returned (.bool (decide (0 ≤ n ∧ n < 4))) ∧ w = w' := by
  by_cases h1 : 0 ≤ n <;> by_cases h2 : n < 4
  all_goals
    go_enter Try.func43, Try.ntmps43
    go_wp2
    go_ret
    exact ⟨by simp [h1, h2], rfl⟩
theorem isTx_any (n : Int) (w : World) : Calls Try.prog 44 #[.int .i64 n] w fun e w' => e = .returned (.bool (decide (0 ≤ n ∧ n ≤ 1073741824))) ∧ w = w' := by
  by_cases h1 : 0 ≤ n <;> by_cases h2 : n ≤ 1073741824
  all_goals
    go_enter Try.func44, Try.ntmps44
    go_wp2
    go_ret
    exact ⟨by simp [h1, h2], rfl⟩
theorem isBelow_any (x y : Ver) (w : World) : Calls Try.prog 34 #[.agg #[.string x.key, .string x.val, .bool x.gone, .int .u64 x.ts, .int .i64 x.dc, .int .i64 x.tx], .agg #[.string y.key, .string y.val, .bool y.gone, .int .u64 y.ts, .int .i64 y.dc, .int .i64 y.tx]] w fun e w' => e = .returned (.bool (lt x y)) ∧ Below w.heap.size w w' := by
  have h1 := (V6.new w x 35).below (al0 _ (.cells #[.string y.key, .string y.val, .bool y.gone, .int .u64 y.ts, .int .i64 y.dc, .int .i64 y.tx] 35))
  have h2 := V6.new (w.alloc (.cells #[.string x.key, .string x.val, .bool x.gone, .int .u64 x.ts, .int .i64 x.dc, .int .i64 x.tx] 35)) y 35
  have hB := trans0 (al0 w (.cells #[.string x.key, .string x.val, .bool x.gone, .int .u64 x.ts, .int .i64 x.dc, .int .i64 x.tx] 35)) (al0 _ (.cells #[.string y.key, .string y.val, .bool y.gone, .int .u64 y.ts, .int .i64 y.dc, .int .i64 y.tx] 35))
  rw [World.size_alloc] at h2
  obtain ⟨W, hW⟩ : ∃ W, (w.alloc (.cells #[.string x.key, .string x.val, .bool x.gone, .int .u64 x.ts, .int .i64 x.dc, .int .i64 x.tx] 35)).alloc (.cells #[.string y.key, .string y.val, .bool y.gone, .int .u64 y.ts, .int .i64 y.dc, .int .i64 y.tx] 35) = W := ⟨_, rfl⟩
  rw [hW] at h1 h2 hB
  have hS : Hid (S2 w.heap.size 0 (w.heap.size + 1) 0 x y W.drew ∧ Below w.heap.size w W.drew) := Lib.hid ⟨⟨h1, h2⟩, hB.drew⟩
  have hl : isAhead (x.ts, x.dc, x.tx) (y.ts, y.dc, y.tx) = lt x y := rfl
  have hl' : decide (cm (x.ts, x.dc, x.tx) (y.ts, y.dc, y.tx) < 0) = lt x y := rfl
  replace hW := Lib.hid hW
  clear h1 h2 hB
  go_enter Try.func34, Try.ntmps34
  go_wp2
  rw [hW.out]
  go_region_held3 (fun w' => S2 w.heap.size 0 (w.heap.size + 1) 0 x y w' ∧ Below w.heap.size w w')
    (first | with_reducible exact hS.out | with_reducible assumption | with_reducible exact ⟨S2.below (And.left (by assumption)) (by assumption), trans0 (And.right (by assumption)) (by assumption)⟩ | fail)
    (first
      | (go_at_call 55; ((with_reducible refine (of_any _ _).mono ?_); rintro e w' ⟨rfl, hB⟩))
      | (go_at_call 54; ((with_reducible refine (cmp_any (x.ts, x.dc, x.tx) (y.ts, y.dc, y.tx) _).mono ?_); rintro e w' ⟨rfl, hB⟩)) | fail)
  all_goals
    rename_i hHeld
    go_wp2
    go_ret
    first | exact ⟨rfl, hHeld.2⟩ | exact ⟨by rw [hl], hHeld.2⟩ | exact ⟨by rw [hl'], hHeld.2⟩
set_option maxHeartbeats 1000000 in
theorem check_any (v : Ver) (w : World) : Calls Try.prog 13 #[.agg #[.string v.key, .string v.val, .bool v.gone, .int .u64 v.ts, .int .i64 v.dc, .int .i64 v.tx]] w fun e w' => e = .returned (.int .i64 (chk v : Nat)) ∧ Below w.heap.size w w' := by
  have hC : Hid (chk v = chk v) := Lib.hid rfl
  by_cases h1 : 16 < v.key.size
  · have e : chk v = 6 := by unfold chk; rw [if_pos (.inl h1)]
    rw [e]
    have h1' : (16 : Int) < (v.key.size : Int) := by omega
    go_enter Try.func13, Try.ntmps13
    go_wp2
    go_ret
    exact ⟨rfl, al0 _ _⟩
  by_cases h2 : 64 < v.val.size
  · have e : chk v = 6 := by unfold chk; rw [if_pos (.inr h2)]
    rw [e]
    have h1' : ¬ (16 : Int) < (v.key.size : Int) := by omega
    have h2' : (64 : Int) < (v.val.size : Int) := by omega
    go_enter Try.func13, Try.ntmps13
    go_wp2
    go_ret
    exact ⟨rfl, al0 _ _⟩
  have e0 : chk v = if seq v.key emp = true ∨ (v.gone = true ∧ seq v.val emp = false) ∨ ¬ (0 ≤ v.dc ∧ v.dc < 4) ∨ ¬ (0 ≤ v.tx ∧ v.tx ≤ 1073741824) then 1 else 0 := by unfold chk; rw [if_neg (by omega)]
  have h1' : ¬ (16 : Int) < (v.key.size : Int) := by omega
  have h2' : ¬ (64 : Int) < (v.val.size : Int) := by omega
  cases h3 : seq v.key emp
  case true =>
    have e : chk v = 1 := by rw [e0, if_pos (.inl h3)]
    rw [e]
    clear e0 h1 h2 e
    go_enter Try.func13, Try.ntmps13
    go_wp2
    go_ret
    exact ⟨rfl, al0 _ _⟩
  case false =>
    cases h4 : v.gone <;> cases h5 : seq v.val emp
    case true.false =>
      have e : chk v = 1 := by rw [e0, if_pos (.inr (.inl ⟨h4, h5⟩))]
      rw [e]
      clear e0 h1 h2 e
      go_enter Try.func13, Try.ntmps13
      go_wp2
      go_ret
      exact ⟨rfl, al0 _ _⟩
    all_goals
      by_cases h6 : 0 ≤ v.dc ∧ v.dc < 4
      case neg =>
        have e : chk v = 1 := by rw [e0, if_pos (.inr (.inr (.inl h6)))]
        rw [e]
        have h6' : decide (0 ≤ v.dc ∧ v.dc < 4) = false := decide_eq_false h6
        clear e0 h1 h2 e h6
        go_enter Try.func13, Try.ntmps13
        go_wp2_with (go_at_call 43; (with_reducible refine (isDC_any _ _).mono ?_); rintro e w' ⟨rfl, rfl⟩)
        go_ret
        exact ⟨rfl, al0 _ _⟩
      case pos =>
        have h6' : decide (0 ≤ v.dc ∧ v.dc < 4) = true := decide_eq_true h6
        by_cases h7 : 0 ≤ v.tx ∧ v.tx ≤ 1073741824
        · have e : chk v = 0 := by
            rw [e0, if_neg]
            rintro (h | h | h | h)
            · rw [h3] at h; cases h
            · rw [h4, h5] at h; cases h.1 <;> cases h.2
            · exact h h6
            · exact h h7
          rw [e]
          have h7' : decide (0 ≤ v.tx ∧ v.tx ≤ 1073741824) = true := decide_eq_true h7
          clear e0 h1 h2 e h6 h7
          go_enter Try.func13, Try.ntmps13
          go_wp2_with (first | (go_at_call 43; (with_reducible refine (isDC_any _ _).mono ?_); rintro e w' ⟨rfl, rfl⟩) | (go_at_call 44; (with_reducible refine (isTx_any _ _).mono ?_); rintro e w' ⟨rfl, rfl⟩))
          go_ret
          exact ⟨rfl, al0 _ _⟩
        · have e : chk v = 1 := by rw [e0, if_pos (.inr (.inr (.inr h7)))]
          rw [e]
          have h7' : decide (0 ≤ v.tx ∧ v.tx ≤ 1073741824) = false := decide_eq_false h7
          clear e0 h1 h2 e h6 h7
          go_enter Try.func13, Try.ntmps13
          go_wp2_with (first | (go_at_call 43; (with_reducible refine (isDC_any _ _).mono ?_); rintro e w' ⟨rfl, rfl⟩) | (go_at_call 44; (with_reducible refine (isTx_any _ _).mono ?_); rintro e w' ⟨rfl, rfl⟩))
          go_ret
          exact ⟨rfl, al0 _ _⟩
end Go.Proofs.Ytlojmojmijklmaa.stoB
