/- The contracts of least, Local, Applied, Stable, Members. -/
import Derived.Test.YtmhflemmkoiffaaStbB
set_option linter.unusedVariables false
set_option linter.unusedSimpArgs false
namespace Go.Proofs.Ytmhflemmkoiffaa.stbC
open Go.ChangeShapes Go.WideShapes Go.ChangeAt Go.RowKit Go.Deep
open stVA stVB stVC stVD stVF stVH stVP stbA stbB

abbrev SL (w0 : World) (b p q : Nat) (v : V) (s : Tb) (w : World) : Prop := (V9 b v w ∧ C0 p q s w) ∧ R9 42 b v w ∧ T p q s w ∧ Below w0.heap.size w0 w
theorem SL.mk {w0 : World} {b p q : Nat} {v : V} {s : Tb} {w : World} (h1 : R9 42 b v w) (h2 : T p q s w) (hB : Below w0.heap.size w0 w) : SL w0 b p q v s w := ⟨⟨h1.v9, h2.c0⟩, h1, h2, hB⟩
theorem SL.fo {w0 : World} {b p q : Nat} {v : V} {s : Tb} {w w1 : World} (hB : Below w.heap.size w w1) (h : SL w0 b p q v s w) : SL w0 b p q v s w1 := SL.mk (R9.below h.2.1 hB) (h.2.2.1.below hB) (trans0 h.2.2.2 hB)
set_option maxRecDepth 100000 in
set_option maxHeartbeats 1000000 in
theorem mleast_any {p q : Nat} {s : Tb} (v : V) (x : Int) (w : World) (h : T p q s w) : Calls Try.prog 19 #[.pointer (some ⟨p, 0, none⟩), vV v, .int .u64 x] w fun r w' => r = .returned (.int .u64 (lsO v s.dc x)) ∧ Below w.heap.size w w' := by
  have hS := Lib.hid (SL.fo (below_drew _) (SL.mk (R9.new w v 42) (h.below (al0 w _)) (al0 w _)))
  clear h
  obtain ⟨R, hR⟩ : ∃ R, lsO v s.dc x = R := ⟨_, rfl⟩
  rw [hR]
  replace hR := Lib.hid hR
  go_enter Try.func19, Try.ntmps19
  go_upto_region 1 with (fail)
  generalize hW : w.alloc (.cells #[.int .i64 v.e, .bool v.h0, .bool v.h1, .bool v.h2, .bool v.h3, .int .u64 v.t0, .int .u64 v.t1, .int .u64 v.t2, .int .u64 v.t3] 42) = W at *
  obtain ⟨b, hb⟩ : ∃ b, w.heap.size = b := ⟨_, rfl⟩
  replace hS : Hid (SL w b p q v s W.drew) := Lib.hid (by rw [← hb]; exact hS.out)
  rw [hb]
  clear hW
  go_region_held3 (SL w b p q v s)
    (first | with_reducible exact hS.out | with_reducible assumption | with_reducible exact SL.fo (by assumption) (by assumption) | (go_must (exact (0 : Nat))) | fail)
    (first
      | (go_at_call 24; ((with_reducible refine (raise_any _ _ _ _).mono ?_); rintro e w' ⟨rfl, hB9⟩))
      | (go_at_call 25; ((with_reducible refine (least_any _ _).mono ?_); rintro e w' ⟨rfl, hB9⟩))
      | fail)
  rename_i hH
  have hBe := Lib.hid hH.2.2.2
  clear hH
  rw [show (lsS (rsV v s.dc x) 4).fst = R from hR.out]
  go_wp2
  go_ret
  exact ⟨rfl, hBe.out⟩
/-! ### Local -/
set_option maxRecDepth 100000 in
theorem local_any {p q : Nat} {s : Tb} (w : World) (h : T p q s w) : Calls Try.prog 8 #[.pointer (some ⟨p, 0, none⟩)] w fun r w' => r = .returned (.int .u64 (loc s)) ∧ w' = w := by
  obtain ⟨c0, c1, c2, c3⟩ := h.c0
  have hm := Lib.hid (min_any w h.bts h.ok.bs.1 h.ok.bs.2)
  clear h c0 c2 c3
  go_enter Try.func8, Try.ntmps8
  go_wp2_with (fail)
  refine hm.out.mono ?_
  rintro e w1 ⟨rfl, rfl⟩
  go_wp2
  go_ret
  exact ⟨rfl, by trivial⟩
theorem local_nil (w : World) : Calls Try.prog 8 #[.pointer none] w fun r w' => r = .returned (.int .u64 0) ∧ w' = w := by
  go_enter Try.func8, Try.ntmps8
  go_wp2
  go_ret
  exact ⟨rfl, by trivial⟩
/-! ### Applied -/
abbrev SA (w0 : World) (p q : Nat) (s : Tb) (w : World) : Prop := CG p s.g w ∧ T p q s w ∧ Below w0.heap.size w0 w
theorem SA.mk {w0 : World} {p q : Nat} {s : Tb} {w : World} (h2 : T p q s w) (hB : Below w0.heap.size w0 w) : SA w0 p q s w := ⟨h2.cg, h2, hB⟩
theorem SA.fo {w0 : World} {p q : Nat} {s : Tb} {w w1 : World} (hB : Below w.heap.size w w1) (h : SA w0 p q s w) : SA w0 p q s w1 := SA.mk (h.2.1.below hB) (trans0 h.2.2 hB)
theorem SA.T {w0 : World} {p q : Nat} {s : Tb} {w : World} (h : SA w0 p q s w) : stbA.T p q s w := h.2.1
set_option maxRecDepth 100000 in
set_option maxHeartbeats 1000000 in
theorem applied_any {p q : Nat} {s : Tb} (w : World) (h : T p q s w) : Calls Try.prog 9 #[.pointer (some ⟨p, 0, none⟩)] w fun r w' => r = .returned (.int .u64 (ap s)) ∧ Below w.heap.size w w' := by
  have hS : Hid (SA w p q s w.drew) := Lib.hid (SA.mk h.drew (below_drew w))
  clear h
  obtain ⟨R, hR⟩ : ∃ R, ap s = R := ⟨_, rfl⟩
  rw [hR]
  replace hR := Lib.hid hR
  go_enter Try.func9, Try.ntmps9
  go_upto_region 3 with (fail)
  go_region_held3 (SA w p q s)
    (first | with_reducible exact hS.out | with_reducible assumption | with_reducible exact SA.fo (by assumption) (by assumption) | (go_must (exact (0 : Nat))) | fail)
    (first
      | (go_at_call 8; ((with_reducible refine (local_any (s := s) _ (SA.T (by with_reducible assumption))).mono ?_); rintro e w' ⟨rfl, rfl⟩))
      | (go_at_call 19; ((with_reducible refine (mleast_any (s := s) _ _ _ (SA.T (by with_reducible assumption))).mono ?_); rintro e w' ⟨rfl, hB9⟩))
      | fail)
  rename_i hH
  have hBe := Lib.hid hH.2.2
  clear hH
  rw [show lsO s.g s.dc (loc s) = R from hR.out]
  go_wp2
  go_ret
  exact ⟨rfl, hBe.out⟩
theorem applied_nil (w : World) : Calls Try.prog 9 #[.pointer none] w fun r w' => r = .returned (.int .u64 0) ∧ w' = w := by
  go_enter Try.func9, Try.ntmps9
  go_wp2
  go_ret
  exact ⟨rfl, by trivial⟩
/-! ### Stable, Members -/
theorem stable_any {p q : Nat} {s : Tb} (w : World) (h : T p q s w) : Calls Try.prog 10 #[.pointer (some ⟨p, 0, none⟩)] w fun r w' => r = .returned (.int .u64 s.st) ∧ w' = w := by
  obtain ⟨c0, c1, c2, c3⟩ := h.c0
  clear h c0 c1 c2
  go_enter Try.func10, Try.ntmps10
  go_wp2
  go_ret
  exact ⟨rfl, by trivial⟩
theorem stable_nil (w : World) : Calls Try.prog 10 #[.pointer none] w fun r w' => r = .returned (.int .u64 0) ∧ w' = w := by
  go_enter Try.func10, Try.ntmps10
  go_wp2
  go_ret
  exact ⟨rfl, by trivial⟩
set_option maxRecDepth 100000 in
theorem members_any {p q : Nat} {s : Tb} (w : World) (h : T p q s w) : Calls Try.prog 11 #[.pointer (some ⟨p, 0, none⟩)] w fun r w' => r = .returned (hV s.g) ∧ Below w.heap.size w w' := by
  have hB := Lib.hid (al0 w (.cells (aH z9) 22))
  obtain ⟨c0, c1, c2, c3, c4, c5, c6, c7, c8⟩ := (h.below (al0 w (.cells (aH z9) 22))).cg
  have hn : p ≠ w.heap.size := Nat.ne_of_lt h.row.lt
  have hR := R4.new w z9
  have f0 := hR.frozen 0
  have f1 := hR.frozen 1
  have f2 := hR.frozen 2
  have f3 := hR.frozen 3
  obtain ⟨d0, d1, d2, d3⟩ := R4.cells hR
  clear hR h c0 c5 c6 c7 c8
  go_enter Try.func11, Try.ntmps11
  go_wp2
  exact bodyPost_ret (v := hV s.g) (by simp [results, Try.results11, go_sem, d0, d1, d2, d3]) rfl ⟨rfl, al0 w _⟩
set_option maxRecDepth 100000 in
theorem members_nil (w : World) : Calls Try.prog 11 #[.pointer none] w fun r w' => r = .returned (hV z9) ∧ Below w.heap.size w w' := by
  have hB := Lib.hid (al0 w (.cells (aH z9) 22))
  have hR := R4.new w z9
  have f0 := hR.frozen 0
  have f1 := hR.frozen 1
  have f2 := hR.frozen 2
  have f3 := hR.frozen 3
  obtain ⟨d0, d1, d2, d3⟩ := R4.cells hR
  clear hR
  go_enter Try.func11, Try.ntmps11
  go_wp2
  exact bodyPost_ret (v := hV z9) (by simp [results, Try.results11, go_sem, d0, d1, d2, d3]) rfl ⟨rfl, al0 w _⟩
end Go.Proofs.Ytmhflemmkoiffaa.stbC
