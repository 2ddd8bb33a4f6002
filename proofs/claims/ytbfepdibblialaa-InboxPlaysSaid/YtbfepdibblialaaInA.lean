/- awake; InboxNone. -/
import Derived.Test.YtbfepdibblialaaInD
import Derived.Test.YtbfepdibblialaaOrdE2
set_option linter.unusedVariables false
set_option linter.unusedSimpArgs false
set_option maxRecDepth 100000
namespace Go.Proofs.Ytbfepdibblialaa.inA
open Go.ChangeShapes Go.WideShapes Go.ChangeAt Go.RowKit Go.Deep
open opV chnM gen chnA chnR chnE ordA ordB ordC ordE2 inM inW inL inN inP inPt inG inD

theorem hv_nil (w : World) : HV w none 0 [] := (GV.nil_ w 0).hv (by simp)
theorem sm_nil : Sm [] := fun v hv => by cases hv
theorem lim_B0 {at0 : Int} (h : at0 ≤ 1152921504606846976) : (B0 at0).lim := ⟨by simp only [B0]; omega, by simp [B0], by simp [B0]⟩
/-- what a call of the law leaves of memory that was there -/
theorem lv_below {col : Nat → Nat} {c p : Nat} {S : Bx} {B : Nat} {w w' : World} (h : Lv col c p S w w') (hB : B ≤ w.heap.size) (hc : ∀ k, k < B → col k ≠ c) : Below B w w' := by
  obtain ⟨c2, hC, _⟩ := h
  exact hC.2.2.below hB hc
theorem awake_any (w : World) : Calls Try.prog 25 #[] w fun e w' => e = .returned (.bool true) ∧ Below w.heap.size w w' := by
  have hnew := Lib.hid (new_any 3 w)
  obtain ⟨hA, hC⟩ := at_new (col := fun _ => 0) (c := 1) w 3 (fun _ _ => rfl)
  obtain ⟨W, hW⟩ : ∃ W, newB w 3 = W := ⟨_, rfl⟩
  rw [hW] at hA hC hnew
  have hB1 : Below w.heap.size w W := hC.2.2.below (Nat.le_refl _) (fun k _ => (by decide : (0 : Nat) ≠ 1))
  have hcl : ∀ k, k < w.heap.size → colP (fun _ => 0) w.heap.size 1 k ≠ 1 := fun k hk => by unfold colP; rw [if_neg (by omega)]; exact (by decide : (0 : Nat) ≠ 1)
  have hput := Lib.hid (put_at W hA (ok_B0 3) (lim_B0 (by omega)) (by decide) hC.2.1 3 ⟨5, 0, 0, [], none, 0⟩ (hv_nil W) sm_nil)
  have e1 : bxE (B0 3) 3 = 0 := by decide
  have hap := Lib.hid (fun w' (h : Lv (colP (fun _ => 0) w.heap.size 1) 1 (w.heap.size + 1) (bxS (B0 3) 3 (⟨5, 0, 0, [], none, 0⟩ : MR).r) W w') => (by
    have h2 := h
    obtain ⟨c2, hC2, hA2⟩ := h
    refine ⟨?_, hB1.trans (lv_below h2 hB1.size hcl)⟩
    have := applied_at w' hA2
    rwa [ap_put] at this : Calls Try.prog 22 #[.pointer (some ⟨w.heap.size + 1, 0, none⟩)] w' (fun e w2 => e = .returned (.int .i64 ((B0 3).ap : Nat)) ∧ w' = w2) ∧ Below w.heap.size w w'))
  have e2 : (B0 3).ap = 3 := rfl
  rw [e2] at hap
  rw [e1] at hput
  clear hA hC hB1 hcl hW e1 e2
  go_enter Try.func25, Try.ntmps25
  go_wp2_with (fail)
  with_reducible refine hnew.out.mono ?_
  rintro e w1 ⟨rfl, rfl⟩
  go_wp2_with (fail)
  refine hput.out.mono ?_
  rintro e w2 ⟨rfl, hL⟩
  obtain ⟨q1, q2⟩ := hap.out _ hL
  replace q1 := Lib.hid q1
  replace q2 := Lib.hid q2
  clear hL
  go_wp2_with (fail)
  with_reducible refine q1.out.mono ?_
  rintro e w3 ⟨rfl, rfl⟩
  go_wp2
  go_ret
  exact ⟨rfl, q2.out⟩
set_option maxHeartbeats 2000000 in
theorem none_any (at0 : Int) (m : MR) (t : Int) (w : World) : Calls Try.prog 7 #[.int .i64 at0, rv m, .int .u64 t] w fun e w' => e = .returned (.bool true) ∧ Below w.heap.size w w' := by
  obtain ⟨W, hW⟩ : ∃ W, w.alloc (.cells #[.int .u64 m.ts, .int .i64 m.dc, .int .i64 m.tx, .slice m.A m.vs.length m.c] 30) = W := ⟨_, rfl⟩
  have hP : Hid (P4 w.heap.size m W) := Lib.hid (by rw [← hW]; exact P4.new w m)
  have hBW : Hid (Below w.heap.size w W) := Lib.hid (by rw [← hW]; exact al0 _ _)
  have hp := Lib.hid peek_nil
  have hn := Lib.hid next_nil
  have hnn := Lib.hid (fun w' => rsame_any mz mz w' (hv_nil w') (hv_nil w'))
  have e0 : sameR mz mz = true := decide_eq_true rfl
  rw [e0] at hnn
  clear e0
  replace hW := Lib.hid hW
  go_enter Try.func7, Try.ntmps7
  go_wp2_with (fail)
  rw [hW.out]
  refine (heart_nil t at0 W).mono ?_
  rintro e w1 ⟨rfl, rfl⟩
  go_wp2_with (fail)
  refine (hp.out _).mono ?_
  rintro e w2 ⟨rfl, hB2⟩
  have hBw2 := Lib.hid (trans0 hBW.out hB2)
  have hP2 := Lib.hid (P4.below hP.out hB2)
  clear hB2
  go_wp2_with (fail)
  refine (hn.out _).mono ?_
  rintro e w3 ⟨rfl, hB3⟩
  have hal := al0 w2 (.cells #[.int .u64 0, .int .i64 0, .int .i64 0, .slice none 0 0] 30)
  have hBw3 := Lib.hid (trans0 (trans0 hBw2.out hal) hB3)
  have hP3 := Lib.hid (P4.below (P4.below hP2.out hal) hB3)
  clear hB3 hal hBw2 hP2 hP hBW hp hn
  go_upto_region 5 with (fail)
  obtain ⟨W4, hW4⟩ : ∃ W4, w3.alloc (.cells #[.int .u64 0, .int .i64 0, .int .i64 0, .slice none 0 0] 30) = W4 := ⟨_, rfl⟩
  rw [hW4]
  have hB4 := Lib.hid (show Below w.heap.size w W4 from by rw [← hW4]; exact trans0 hBw3.out (al0 _ _))
  have hP4 := Lib.hid (show P4 w.heap.size m W4 from by rw [← hW4]; exact P4.below hP3.out (al0 _ _))
  have hZ4 := Lib.hid (show P4 w3.heap.size mz W4 from by rw [← hW4]; exact P4.new w3 mz)
  generalize w3.heap.size = zb at *
  clear hBw3 hP3 hW4
  go_wp2_with (fail)
  refine (awake_any W4).mono ?_
  rintro e w5 ⟨rfl, hB5⟩
  obtain ⟨b0, b1, b2, b3⟩ := (P4.below hP4.out hB5).r4
  have hZ5 := Lib.hid (P4.below hZ4.out hB5)
  have hBw5 := Lib.hid (trans0 hB4.out hB5)
  clear hB5 hZ4 hP4 hB4
  go_wp2_with (fail)
  refine (put_nil at0 m w5).mono ?_
  rintro e w6 ⟨rfl, hB6⟩
  have hZ6 := Lib.hid (P4.below hZ5.out hB6)
  have hBw6 := Lib.hid (trans0 hBw5.out hB6)
  clear hB6 hZ5 hBw5 b0 b1 b2 b3
  obtain ⟨b0, b1, b2, b3⟩ := hZ6.out.r4
  go_wp2_with (fail)
  refine (done_nil at0 w6).mono ?_
  rintro e w7 ⟨rfl, rfl⟩
  go_wp2_with (fail)
  refine (hnn.out w6).mono ?_
  rintro e w8 ⟨rfl, hB8⟩
  have hBw8 := Lib.hid (trans0 hBw6.out hB8)
  clear hB8 hZ6 hBw6 b0 b1 b2 b3
  go_wp2_with (fail)
  refine (applied_nil w8).mono ?_
  rintro e w9 ⟨rfl, rfl⟩
  go_wp2_with (fail)
  refine (got_nil w8).mono ?_
  rintro e w9 ⟨rfl, rfl⟩
  go_wp2
  go_ret
  exact ⟨rfl, hBw8.out⟩
end Go.Proofs.Ytbfepdibblialaa.inA
