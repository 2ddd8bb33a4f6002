/- CoordNone: a nil table refuses, and knows nothing. -/
import Derived.Test.YtafocefbpkcoaaaCoA
import Derived.Test.YtafocefbpkcoaaaCoJ
set_option linter.unusedVariables false
set_option linter.unusedSimpArgs false
set_option maxRecDepth 100000
namespace Go.Proofs.Ytafocefbpkcoaaa.coNo
open Go.ChangeShapes Go.WideShapes Go.ChangeAt Go.RowKit Go.Deep
open opG opV chnM gen chnA chnR chnE ordA ordC coG coO coM coP coL coN coB coK coV coE coF coW coT coA coJ

theorem o7_below {B : Nat} {o : Oq} {w w1 : World} (h : O7 B 0 o w) (hB : Below w.heap.size w w1) : O7 B 0 o w1 := o7_of h (hB.block B (o7_lt h))
set_option maxHeartbeats 4000000 in
theorem none_any (o : Oq) (w : World) (hk : kOp w o) : Calls Try.prog 7 #[.agg (cO o)] w fun e w' => e = .returned (.bool true) ∧ Below w.heap.size w w' := by
  obtain ⟨W, hW⟩ : ∃ W, w.alloc (.cells (cO o) 32) = W := ⟨_, rfl⟩
  have hO : O7 w.heap.size 0 o W := by rw [← hW]; exact o7_new w o
  have hBW : Below w.heap.size w W := by rw [← hW]; exact al0 _ _
  obtain ⟨B, hB⟩ : ∃ B, w.heap.size = B := ⟨_, rfl⟩
  rw [hB] at hO
  have hrd := hk.rd.step hBW (Nat.le_refl _)
  have hks : ∀ r ∈ o.rs, kSh W r := fun r hr => kSh.below (hk.sh r hr) hBW
  have hS := Lib.hid hO
  have hSd : Hid (O7 B 0 o W.drew) := Lib.hid (o7_below hO (below_drew W))
  have kA : ∀ w' : World, Below W.heap.size W w' → Calls Try.prog 25 #[] w' fun e w'' => e = .returned (.bool true) ∧ Below W.heap.size W w'' := fun w' hw' => (awake_any w').mono fun _ _ ⟨he, hb⟩ => ⟨he, trans0 hw' hb⟩
  have kF : ∀ w' : World, Below W.heap.size W w' → Calls Try.prog 9 #[.slice o.A o.rs.length o.c] w' fun e w'' => (∃ A c, e = .returned (.slice A (fwR o.rs).length c)) ∧ Below W.heap.size W w'' := fun w' hw' => (few_any w' o.A o.c o.rs (hrd.below hw') (fun r hr => kSh.below (hks r hr) hw')).mono fun _ _ ⟨A, c, he, _, hb⟩ => ⟨⟨A, c, he⟩, trans0 hw' hb⟩
  have kS : ∀ w' : World, ∀ v : Value, Below W.heap.size W w' → Calls Try.prog 10 #[.pointer none, .int .u64 o.tx, .int .u64 o.t, v] w' fun e w'' => e = .returned (.int .i64 1) ∧ Below W.heap.size W w'' := fun w' v hw' => (start_nil w' o.tx o.t v).mono fun _ _ ⟨he, hb⟩ => ⟨he, by rw [← hb]; exact hw'⟩
  have kL : ∀ w' : World, Below W.heap.size W w' → Calls Try.prog 19 #[.pointer none] w' fun e w'' => e = .returned (.int .i64 0) ∧ Below W.heap.size W w'' := fun w' hw' => (len_nil w').mono fun _ _ ⟨he, hb⟩ => ⟨he, by rw [← hb]; exact hw'⟩
  have kW : ∀ w' : World, Below W.heap.size W w' → Calls Try.prog 21 #[.pointer none, .int .u64 o.tx] w' fun e w'' => e = .returned (.slice none 0 0) ∧ Below W.heap.size W w'' := fun w' hw' => (writes_nil w' o.tx).mono fun _ _ ⟨he, hb⟩ => ⟨he, by rw [← hb]; exact hw'⟩
  have kN : ∀ w' : World, Below W.heap.size W w' → Calls Try.prog 17 #[.pointer none, .int .u64 o.tx] w' fun e w'' => e = .returned (.slice none 0 0) ∧ Below W.heap.size W w'' := fun w' hw' => (nodes_nil w' o.tx).mono fun _ _ ⟨he, hb⟩ => ⟨he, by rw [← hb]; exact hw'⟩
  have kT : ∀ w' : World, Below W.heap.size W w' → Calls Try.prog 23 #[.pointer none, .string o.lo, .string o.hi] w' fun e w'' => e = .returned (.bool false) ∧ Below W.heap.size W w'' := fun w' hw' => (touches_nil w' o.lo o.hi).mono fun _ _ ⟨he, hb⟩ => ⟨he, by rw [← hb]; exact hw'⟩
  have hv := Lib.hid (vote_nil W o.tx o.node o.t)
  have he := Lib.hid (end_nil W o.tx o.node)
  obtain ⟨o0, o1, o2, o3, o4, o5, o6⟩ := hO
  replace hBW := Lib.hid hBW
  replace hW := Lib.hid hW
  replace kA := Lib.hid kA
  replace kF := Lib.hid kF
  replace kS := Lib.hid kS
  replace kL := Lib.hid kL
  replace kW := Lib.hid kW
  replace kN := Lib.hid kN
  replace kT := Lib.hid kT
  clear hk hrd hks
  generalize (fwR o.rs).length = NF at *
  go_enter Try.func7, Try.ntmps7
  go_upto_region 2 with (fail)
  rw [hW.out]
  go_wp2_with (fail)
  with_reducible refine hv.out.mono ?_
  rintro e w1 ⟨rfl, rfl⟩
  clear hv
  go_wp2_with (fail)
  with_reducible refine he.out.mono ?_
  rintro e w1 ⟨rfl, rfl⟩
  clear he hW
  go_upto_region 4 with (fail)
  go_region_held3 (O7 B 0 o)
    (first | with_reducible exact hSd.out | with_reducible exact hS.out | with_reducible assumption | with_reducible exact o7_below hS.out (by assumption) | fail)
    (first
      | (go_at_call 25; ((with_reducible refine (kA.out _ (by first | assumption | exact (Below.refl _ _).drew)).mono ?_); rintro e w' ⟨rfl, hBx⟩))
      | (go_at_call 9; ((with_reducible refine (kF.out _ (by first | assumption | exact (Below.refl _ _).drew)).mono ?_); rintro e w' ⟨⟨Af, cf, rfl⟩, hBx⟩))
      | (go_at_call 10; ((with_reducible refine (kS.out _ _ (by first | assumption | exact (Below.refl _ _).drew)).mono ?_); rintro e w' ⟨rfl, hBx⟩))
      | (go_at_call 19; ((with_reducible refine (kL.out _ (by first | assumption | exact (Below.refl _ _).drew)).mono ?_); rintro e w' ⟨rfl, hBx⟩))
      | (go_at_call 21; ((with_reducible refine (kW.out _ (by first | assumption | exact (Below.refl _ _).drew)).mono ?_); rintro e w' ⟨rfl, hBx⟩))
      | (go_at_call 17; ((with_reducible refine (kN.out _ (by first | assumption | exact (Below.refl _ _).drew)).mono ?_); rintro e w' ⟨rfl, hBx⟩))
      | (go_at_call 23; ((with_reducible refine (kT.out _ (by first | assumption | exact (Below.refl _ _).drew)).mono ?_); rintro e w' ⟨rfl, hBx⟩))
      | fail)
  all_goals
    go_wp2
    go_ret
    exact ⟨rfl, hBW.out.trans (Below.mono (by assumption) hBW.out.size)⟩
end Go.Proofs.Ytafocefbpkcoaaa.coNo
