/- The statement ChainPuts. -/
import Derived.Test.YtbmaaonjohcgbaaChnK
set_option linter.unusedVariables false
namespace Go.Proofs.Ytbmaaonjohcgbaa.chnL
open Go.ChangeShapes Go.WideShapes Go.ChangeAt Go.RowKit Go.Deep
open opV chnM gen chnA chnB chnR chnC chnD chnE chnF chnG chnI chnJ chnK

theorem putL_len (l : List Ver) (v : Ver) : (putL l v).length ≤ l.length + 1 := by
  unfold putL; split
  · rw [put_len]; omega
  · simp
set_option maxRecDepth 100000 in
theorem puts_big (A : Option Addr) (c : Nat) (l : List Ver) (v : Ver) (w : World) (h9 : 120 < l.length) :
    Calls Try.prog 3 #[.slice A l.length c, .agg #[.string v.key, .string v.val, .bool v.gone, .int .u64 v.ts, .int .i64 v.dc, .int .i64 v.tx]] w fun e w' => e = .returned (.bool true) ∧ Below w.heap.size w w' := by
  have hg := Lib.hid (fun w => great_any A c l w)
  rw [decide_eq_true h9] at hg
  clear h9
  have hB0 := al0 w (.cells #[.string v.key, .string v.val, .bool v.gone, .int .u64 v.ts, .int .i64 v.dc, .int .i64 v.tx] 25)
  obtain ⟨W, hW⟩ : ∃ W, w.alloc (.cells #[.string v.key, .string v.val, .bool v.gone, .int .u64 v.ts, .int .i64 v.dc, .int .i64 v.tx] 25) = W := ⟨_, rfl⟩
  rw [hW] at hB0
  replace hB0 := Lib.hid hB0
  replace hW := Lib.hid hW
  go_enter Try.func3, Try.ntmps3
  go_wp2_with (fail)
  rw [hW.out]
  refine (hg.out W).mono ?_
  rintro e w' ⟨rfl, rfl⟩
  go_wp2_with (fail)
  refine (awake_any W).mono ?_
  rintro e w' ⟨rfl, hB⟩
  have hfin := Lib.hid (trans0 hB0.out hB)
  clear hB
  go_wp2
  go_ret
  exact ⟨rfl, hfin.out⟩
set_option maxRecDepth 100000 in
set_option maxHeartbeats 2000000 in
theorem puts_small (A : Option Addr) (c : Nat) (l : List Ver) (v : Ver) (w : World) (h : HV w A c l) (h9 : ¬ 120 < l.length) :
    Calls Try.prog 3 #[.slice A l.length c, .agg #[.string v.key, .string v.val, .bool v.gone, .int .u64 v.ts, .int .i64 v.dc, .int .i64 v.tx]] w fun e w' => e = .returned (.bool true) ∧ Below w.heap.size w w' := by
  have hB0 := al0 w (.cells #[.string v.key, .string v.val, .bool v.gone, .int .u64 v.ts, .int .i64 v.dc, .int .i64 v.tx] 25)
  have hv0 := V6.new w v 25
  obtain ⟨W, hW⟩ : ∃ W, w.alloc (.cells #[.string v.key, .string v.val, .bool v.gone, .int .u64 v.ts, .int .i64 v.dc, .int .i64 v.tx] 25) = W := ⟨_, rfl⟩
  rw [hW] at hB0
  have hv0f := Lib.hid (show V6 w.heap.size 0 v W by rw [← hW]; exact hv0)
  have ha := put_any A c l v W (h.below hB0) (by omega)
  have hb := fun X (hB : Below W.heap.size W X) => rput_any A c l v X ((h.below hB0).below hB) (by omega)
  have hg := Lib.hid (fun w => great_any A c l w)
  rw [decide_eq_false h9] at hg
  have hsm := Lib.hid (show (putL l v).length * 64 ≤ 140737488355328 by have := putL_len l v; omega)
  replace ha := Lib.hid ha
  replace hb := Lib.hid hb
  replace hB0 := Lib.hid hB0
  replace hW := Lib.hid hW
  clear h h9
  generalize putE l v = E at *
  generalize putL l v = r at *
  obtain ⟨a0, a1, a2, a3, a4, a5⟩ := hv0f.out
  go_enter Try.func3, Try.ntmps3
  go_wp2_with (fail)
  rw [hW.out]
  refine (hg.out W).mono ?_
  rintro e w' ⟨rfl, rfl⟩
  go_wp2_with (fail)
  refine ha.out.mono ?_
  rintro e w1 ⟨A1, c1, rfl, hG1, hB1⟩
  clear a0 a1 a2 a3 a4 a5
  have hx := Lib.hid (hG1.hv hsm.out)
  obtain ⟨d0, d1, d2, d3, d4, d5⟩ := hv0f.out.below hB1
  replace hB1 := Lib.hid hB1
  clear hG1
  go_wp2_with (fail)
  refine (hb.out w1 hB1.out).mono ?_
  rintro e w2 ⟨A2, c2, rfl, hG2, hB2⟩
  clear d0 d1 d2 d3 d4 d5
  have hy := Lib.hid (hG2.hv hsm.out)
  have hx2 := Lib.hid (hx.out.below hB2)
  have hB2' := Lib.hid (trans0 hB1.out hB2)
  clear hG2 hB2
  go_wp2_with (fail)
  refine (awake_any w2).mono ?_
  rintro e w3 ⟨rfl, hB3⟩
  have hsv := samevers A1 c1 r A2 c2 r w3 (hx2.out.below hB3) (hy.out.below hB3)
  rw [decide_eq_true (rfl : r = r)] at hsv
  replace hsv := Lib.hid hsv
  have hB3' := Lib.hid (trans0 hB2'.out hB3)
  clear hB3
  go_wp2_with (fail)
  refine hsv.out.mono ?_
  rintro e w4 ⟨rfl, hB4⟩
  have hfin := Lib.hid (trans0 hB0.out (trans0 hB3'.out hB4))
  clear hB4
  go_wp2
  go_ret
  exact ⟨rfl, hfin.out⟩
theorem puts (A : Option Addr) (c : Nat) (l : List Ver) (v : Ver) (w : World) (h : HV w A c l) :
    Calls Try.prog 3 #[.slice A l.length c, .agg #[.string v.key, .string v.val, .bool v.gone, .int .u64 v.ts, .int .i64 v.dc, .int .i64 v.tx]] w fun e w' => e = .returned (.bool true) ∧ Below w.heap.size w w' := by
  by_cases h9 : 120 < l.length
  · exact puts_big A c l v w h9
  · exact puts_small A c l v w h h9
end Go.Proofs.Ytbmaaonjohcgbaa.chnL
