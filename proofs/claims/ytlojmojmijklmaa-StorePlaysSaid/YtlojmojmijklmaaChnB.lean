/- The contracts of a version's mark and of 'is it ahead?', in the program and in the document's own answer. -/
import Derived.Test.YtlojmojmijklmaaChnA
set_option linter.unusedVariables false
namespace Go.Proofs.Ytlojmojmijklmaa.chnB
open Go.ChangeShapes Go.WideShapes Go.ChangeAt Go.RowKit Go.Deep
open opV chnM gen chnA

theorem of_any (x : Ver) (w : World) : Calls Try.prog 55 #[.agg #[.string x.key, .string x.val, .bool x.gone, .int .u64 x.ts, .int .i64 x.dc, .int .i64 x.tx]] w fun e w' => e = .returned (.agg #[.int .u64 x.ts, .int .i64 x.dc, .int .i64 x.tx]) ∧ Below w.heap.size w w' := by
  obtain ⟨s1, s2, g, ts, dc, tx⟩ := x
  go_enter Try.func55, Try.ntmps55
  go_wp2
  exact bodyPost_ret (v := mk (ts, dc, tx)) (by simp [results, Try.results55, go_sem]) rfl ⟨rfl, ((Below.refl _ _).alloc (Nat.le_refl _) _).alloc (by simp) _⟩
theorem rof_any (x : Ver) (w : World) : Calls Try.prog 40 #[.agg #[.string x.key, .string x.val, .bool x.gone, .int .u64 x.ts, .int .i64 x.dc, .int .i64 x.tx]] w fun e w' => e = .returned (.agg #[.int .u64 x.ts, .int .i64 x.dc, .int .i64 x.tx]) ∧ Below w.heap.size w w' := by
  obtain ⟨s1, s2, g, ts, dc, tx⟩ := x
  go_enter Try.func40, Try.ntmps40
  go_wp2
  exact bodyPost_ret (v := mk (ts, dc, tx)) (by simp [results, Try.results40, go_sem]) rfl ⟨rfl, ((Below.refl _ _).alloc (Nat.le_refl _) _).alloc (by simp) _⟩
set_option maxRecDepth 100000 in
set_option maxHeartbeats 1000000 in
theorem below_any (x y : Ver) (w : World) : Calls Try.prog 53 #[.agg #[.string x.key, .string x.val, .bool x.gone, .int .u64 x.ts, .int .i64 x.dc, .int .i64 x.tx], .agg #[.string y.key, .string y.val, .bool y.gone, .int .u64 y.ts, .int .i64 y.dc, .int .i64 y.tx]] w fun e w' => e = .returned (.bool (lt x y)) ∧ Below w.heap.size w w' := by
  have h1 := (V6.new w x 35).below (al0 _ (.cells #[.string y.key, .string y.val, .bool y.gone, .int .u64 y.ts, .int .i64 y.dc, .int .i64 y.tx] 35))
  have h2 := V6.new (w.alloc (.cells #[.string x.key, .string x.val, .bool x.gone, .int .u64 x.ts, .int .i64 x.dc, .int .i64 x.tx] 35)) y 35
  have hB := trans0 (al0 w (.cells #[.string x.key, .string x.val, .bool x.gone, .int .u64 x.ts, .int .i64 x.dc, .int .i64 x.tx] 35)) (al0 _ (.cells #[.string y.key, .string y.val, .bool y.gone, .int .u64 y.ts, .int .i64 y.dc, .int .i64 y.tx] 35))
  rw [World.size_alloc] at h2
  obtain ⟨W, hW⟩ : ∃ W, (w.alloc (.cells #[.string x.key, .string x.val, .bool x.gone, .int .u64 x.ts, .int .i64 x.dc, .int .i64 x.tx] 35)).alloc (.cells #[.string y.key, .string y.val, .bool y.gone, .int .u64 y.ts, .int .i64 y.dc, .int .i64 y.tx] 35) = W := ⟨_, rfl⟩
  rw [hW] at h1 h2 hB
  have hS : Hid (S2 w.heap.size 0 (w.heap.size + 1) 0 x y W.drew ∧ Below w.heap.size w W.drew) := Lib.hid ⟨⟨h1, h2⟩, hB.drew⟩
  have hl : isAhead (x.ts, x.dc, x.tx) (y.ts, y.dc, y.tx) = lt x y := rfl
  have hl' : decide (cm (x.ts, x.dc, x.tx) (y.ts, y.dc, y.tx) < 0) = lt x y := rfl
  replace hW := Lib.hid hW
  clear h1 h2 hB
  go_enter Try.func53, Try.ntmps53
  go_wp2
  rw [hW.out]
  go_region_held3 (fun w' => S2 w.heap.size 0 (w.heap.size + 1) 0 x y w' ∧ Below w.heap.size w w')
    (first | with_reducible exact hS.out | with_reducible assumption | with_reducible exact ⟨S2.below (And.left (by assumption)) (by assumption), trans0 (And.right (by assumption)) (by assumption)⟩ | fail)
    (first
      | (go_at_call 55; ((with_reducible refine (of_any _ _).mono ?_); rintro e w' ⟨rfl, hB⟩))
      | (go_at_call 54; ((with_reducible refine (cmp_any (x.ts, x.dc, x.tx) (y.ts, y.dc, y.tx) _).mono ?_); rintro e w' ⟨rfl, hB⟩)) | fail)
  all_goals
    rename_i hHeld
    go_wp2
    go_ret
    first | exact ⟨rfl, hHeld.2⟩ | exact ⟨by rw [hl], hHeld.2⟩ | exact ⟨by rw [hl'], hHeld.2⟩
set_option maxRecDepth 100000 in
set_option maxHeartbeats 1000000 in
theorem rless_any (x y : Ver) (w : World) : Calls Try.prog 56 #[.agg #[.string x.key, .string x.val, .bool x.gone, .int .u64 x.ts, .int .i64 x.dc, .int .i64 x.tx], .agg #[.string y.key, .string y.val, .bool y.gone, .int .u64 y.ts, .int .i64 y.dc, .int .i64 y.tx]] w fun e w' => e = .returned (.bool (lt x y)) ∧ Below w.heap.size w w' := by
  have h1 := (V6.new w x 35).below (al0 _ (.cells #[.string y.key, .string y.val, .bool y.gone, .int .u64 y.ts, .int .i64 y.dc, .int .i64 y.tx] 35))
  have h2 := V6.new (w.alloc (.cells #[.string x.key, .string x.val, .bool x.gone, .int .u64 x.ts, .int .i64 x.dc, .int .i64 x.tx] 35)) y 35
  have hB := trans0 (al0 w (.cells #[.string x.key, .string x.val, .bool x.gone, .int .u64 x.ts, .int .i64 x.dc, .int .i64 x.tx] 35)) (al0 _ (.cells #[.string y.key, .string y.val, .bool y.gone, .int .u64 y.ts, .int .i64 y.dc, .int .i64 y.tx] 35))
  rw [World.size_alloc] at h2
  obtain ⟨W, hW⟩ : ∃ W, (w.alloc (.cells #[.string x.key, .string x.val, .bool x.gone, .int .u64 x.ts, .int .i64 x.dc, .int .i64 x.tx] 35)).alloc (.cells #[.string y.key, .string y.val, .bool y.gone, .int .u64 y.ts, .int .i64 y.dc, .int .i64 y.tx] 35) = W := ⟨_, rfl⟩
  rw [hW] at h1 h2 hB
  have hS : Hid (S2 w.heap.size 0 (w.heap.size + 1) 0 x y W.drew ∧ Below w.heap.size w W.drew) := Lib.hid ⟨⟨h1, h2⟩, hB.drew⟩
  have hl : isAhead (x.ts, x.dc, x.tx) (y.ts, y.dc, y.tx) = lt x y := rfl
  have hl' : decide (cm (x.ts, x.dc, x.tx) (y.ts, y.dc, y.tx) < 0) = lt x y := rfl
  replace hW := Lib.hid hW
  clear h1 h2 hB
  go_enter Try.func56, Try.ntmps56
  go_wp2
  rw [hW.out]
  go_region_held3 (fun w' => S2 w.heap.size 0 (w.heap.size + 1) 0 x y w' ∧ Below w.heap.size w w')
    (first | with_reducible exact hS.out | with_reducible assumption | with_reducible exact ⟨S2.below (And.left (by assumption)) (by assumption), trans0 (And.right (by assumption)) (by assumption)⟩ | fail)
    (first
      | (go_at_call 40; ((with_reducible refine (rof_any _ _).mono ?_); rintro e w' ⟨rfl, hB⟩))
      | (go_at_call 39; ((with_reducible refine (less_any (x.ts, x.dc, x.tx) (y.ts, y.dc, y.tx) _).mono ?_); rintro e w' ⟨rfl, hB⟩)) | fail)
  all_goals
    rename_i hHeld
    go_wp2
    go_ret
    first | exact ⟨rfl, hHeld.2⟩ | exact ⟨by rw [hl], hHeld.2⟩ | exact ⟨by rw [hl'], hHeld.2⟩
end Go.Proofs.Ytlojmojmijklmaa.chnB
