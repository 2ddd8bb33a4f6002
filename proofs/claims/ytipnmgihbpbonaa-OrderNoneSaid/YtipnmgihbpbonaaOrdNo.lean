/- OrderNone. -/
import Derived.Test.YtipnmgihbpbonaaOrdS
set_option linter.unusedVariables false
set_option linter.unusedSimpArgs false
set_option maxRecDepth 100000
namespace Go.Proofs.Ytipnmgihbpbonaa.ordNo
open Go.ChangeShapes Go.WideShapes Go.ChangeAt Go.RowKit Go.Deep
open opV chnM gen chnA chnR chnE ordA ordB ordC ordM ordL ordD ordH ordK ordW ordS

set_option maxHeartbeats 1000000 in
theorem none_any (m : MR) (t at0 : Int) (w : World) (h9 : at0 ≤ 9223372036854775807) : Calls Try.prog 7 #[rv m, .int .u64 t, .int .i64 at0] w fun e w' => e = .returned (.bool true) ∧ Below w.heap.size w w' := by
  obtain ⟨W, hW⟩ : ∃ W, w.alloc (.cells #[.int .u64 m.ts, .int .i64 m.dc, .int .i64 m.tx, .slice m.A m.vs.length m.c] 32) = W := ⟨_, rfl⟩
  have hP : Hid (P4 w.heap.size m W) := Lib.hid (by rw [← hW]; exact P4.new w m)
  have hBW : Hid (Below w.heap.size w W) := Lib.hid (by rw [← hW]; exact al0 _ _)
  replace hW := Lib.hid hW
  go_enter Try.func7, Try.ntmps7
  go_wp2_with (fail)
  rw [hW.out]
  refine (awake_any W).mono ?_
  rintro e w1 ⟨rfl, hB1⟩
  obtain ⟨b0, b1, b2, b3⟩ := (P4.below hP.out hB1).r4
  have hBw1 := Lib.hid (trans0 hBW.out hB1)
  clear hB1
  go_wp2_with (fail)
  refine (decide_nil m w1).mono ?_
  rintro e w2 ⟨rfl, hB2⟩
  have hBw2 := Lib.hid (trans0 hBw1.out hB2)
  clear hB2 b0 b1 b2 b3
  go_wp2_with (fail)
  refine (release_nil t w2).mono ?_
  rintro e w3 ⟨rfl, rfl⟩
  go_wp2_with (fail)
  refine (len_nil w2).mono ?_
  rintro e w3 ⟨rfl, rfl⟩
  go_wp2_with (fail)
  refine (waiting_nil w2).mono ?_
  rintro e w3 ⟨rfl, rfl⟩
  go_wp2_with (fail)
  refine (stable_nil at0 w2 h9).mono ?_
  rintro e w3 ⟨A, c, l, rfl, hl, hG, hB3⟩
  obtain rfl : l = [] := by simpa using hl
  have hBw3 := Lib.hid (trans0 hBw2.out hB3)
  clear hG hl hB3
  go_wp2
  go_ret
  exact ⟨rfl, hBw3.out⟩
end Go.Proofs.Ytipnmgihbpbonaa.ordNo
