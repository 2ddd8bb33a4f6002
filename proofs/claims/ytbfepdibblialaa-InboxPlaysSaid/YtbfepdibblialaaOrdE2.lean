/- The contracts of Same of two commits, of same of two rows of them. -/
import Derived.Test.YtbfepdibblialaaOrdCr
set_option linter.unusedVariables false
set_option linter.unusedSimpArgs false
set_option maxRecDepth 100000
namespace Go.Proofs.Ytbfepdibblialaa.ordE2
open Go.ChangeShapes Go.WideShapes Go.ChangeAt Go.RowKit Go.Deep
open opV chnM gen chnA chnR chnE ordA ordB ordC

theorem eql_mk (a b : Int × Int × Int) (w : World) : (binOp .eql 61 (mk a) (mk b)).run Try.prog w = .ok (.bool (decide (a = b))) w := by
  obtain ⟨a1, a2, a3⟩ := a
  obtain ⟨b1, b2, b3⟩ := b
  go_simp
  by_cases h4 : a1 = b1 <;> by_cases h5 : a2 = b2 <;> by_cases h6 : a3 = b3 <;> simp [h4, h5, h6]
def sameR (x y : MR) : Bool := decide (x.r = y.r)
theorem sameR_no {x y : MR} (h : ¬ x.k = y.k) : sameR x y = false := decide_eq_false (fun e => h (congrArg Prod.fst e))
theorem sameR_yes {x y : MR} (h : x.k = y.k) : sameR x y = decide (x.vs = y.vs) := by
  unfold sameR MR.r
  rw [decide_eq_decide, h]
  exact ⟨fun e => congrArg Prod.snd e, fun e => by rw [e]⟩
set_option maxHeartbeats 2000000 in
theorem rsame_any (x y : MR) (w : World) (hx : HV w x.A x.c x.vs) (hy : HV w y.A y.c y.vs) : Calls Try.prog 15 #[rv x, rv y] w fun e w' => e = .returned (.bool (sameR x y)) ∧ Below w.heap.size w w' := by
  have h1 := (R4.new w x 30).below (al0 _ (.cells #[.int .u64 y.ts, .int .i64 y.dc, .int .i64 y.tx, .slice y.A y.vs.length y.c] 30))
  have h2 := R4.new (w.alloc (.cells #[.int .u64 x.ts, .int .i64 x.dc, .int .i64 x.tx, .slice x.A x.vs.length x.c] 30)) y 30
  have hB := trans0 (al0 w (.cells #[.int .u64 x.ts, .int .i64 x.dc, .int .i64 x.tx, .slice x.A x.vs.length x.c] 30)) (al0 _ (.cells #[.int .u64 y.ts, .int .i64 y.dc, .int .i64 y.tx, .slice y.A y.vs.length y.c] 30))
  rw [World.size_alloc] at h2
  obtain ⟨W, hW⟩ : ∃ W, (w.alloc (.cells #[.int .u64 x.ts, .int .i64 x.dc, .int .i64 x.tx, .slice x.A x.vs.length x.c] 30)).alloc (.cells #[.int .u64 y.ts, .int .i64 y.dc, .int .i64 y.tx, .slice y.A y.vs.length y.c] 30) = W := ⟨_, rfl⟩
  rw [hW] at h1 h2 hB
  have hS : Hid (D2 w.heap.size 0 (w.heap.size + 1) 0 x y W.drew ∧ Below w.heap.size w W.drew) := Lib.hid ⟨⟨h1, h2⟩, hB.drew⟩
  have hsv := Lib.hid (fun w' (hB : Below w.heap.size w w') => samevers x.A x.c x.vs y.A y.c y.vs w' (hx.below hB) (hy.below hB))
  obtain ⟨kx, hkx⟩ : ∃ k, x.k = k := ⟨_, rfl⟩
  obtain ⟨ky, hky⟩ : ∃ k, y.k = k := ⟨_, rfl⟩
  have hmx := Lib.hid (rmark_any x)
  have hmy := Lib.hid (rmark_any y)
  rw [hkx] at hmx
  rw [hky] at hmy
  have hq := eql_mk kx ky
  by_cases hk : kx = ky
  · rw [sameR_yes (by rw [hkx, hky]; exact hk)]
    rw [decide_eq_true hk] at hq
    obtain ⟨R, hR⟩ : ∃ R, decide (x.vs = y.vs) = R := ⟨_, rfl⟩
    rw [hR] at hsv ⊢
    clear hkx hky hk hR h1 h2 hB hx hy
    replace hW := Lib.hid hW
    go_enter Try.func15, Try.ntmps15
    go_wp2
    rw [hW.out]
    go_region_held3 (fun w' => D2 w.heap.size 0 (w.heap.size + 1) 0 x y w' ∧ Below w.heap.size w w')
      (first | with_reducible exact hS.out | with_reducible assumption | with_reducible exact ⟨D2.below (And.left (by assumption)) (by assumption), trans0 (And.right (by assumption)) (by assumption)⟩ | fail)
      (first
        | (go_at_call 29; ((with_reducible refine (hmx.out _).mono ?_); rintro e w' ⟨rfl, hB⟩))
        | (go_at_call 29; ((with_reducible refine (hmy.out _).mono ?_); rintro e w' ⟨rfl, hB⟩))
        | (go_at_call 30; ((with_reducible refine (hsv.out _ (by first | with_reducible exact (And.right (by assumption)) | with_reducible exact trans0 (And.right (by assumption)) (by assumption))).mono ?_); rintro e w' ⟨rfl, hB⟩)) | fail)
    all_goals
      rename_i hHeld
      go_wp2
      go_ret
      exact ⟨rfl, hHeld.2⟩
  · rw [sameR_no (by rw [hkx, hky]; exact hk)]
    rw [decide_eq_false hk] at hq
    clear hkx hky hk h1 h2 hB hx hy
    replace hW := Lib.hid hW
    go_enter Try.func15, Try.ntmps15
    go_wp2
    rw [hW.out]
    obtain ⟨⟨c0, c1, c2, c3⟩, ⟨d0, d1, d2, d3⟩⟩ := hS.out.1
    first
      | (go_region_law (first
          | (go_simp; go_at_call 29; ((with_reducible refine (hmx.out _).mono ?_); rintro e w3 ⟨rfl, hB3⟩); have hS3 : Hid (D2 w.heap.size 0 (w.heap.size + 1) 0 x y w3 ∧ Below w.heap.size w w3) := Lib.hid ⟨D2.below hS.out.1 hB3, trans0 hS.out.2 hB3⟩; obtain ⟨⟨e0, e1, e2, e3⟩, ⟨f0, f1, f2, f3⟩⟩ := hS3.out.1)
          | (go_simp; go_at_call 29; ((with_reducible refine (hmy.out _).mono ?_); rintro e w4 ⟨rfl, hB4⟩); have hB44 := Lib.hid (trans0 hS3.out.2 hB4))
          | fail))
      | fail
    all_goals
      go_wp2
      go_ret
      exact ⟨rfl, hB44.out⟩
end Go.Proofs.Ytbfepdibblialaa.ordE2
