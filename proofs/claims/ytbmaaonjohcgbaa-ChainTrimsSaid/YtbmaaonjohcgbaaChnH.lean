/- The statement ChainTrims. -/
import Derived.Test.YtbmaaonjohcgbaaChnG
set_option linter.unusedVariables false
namespace Go.Proofs.Ytbmaaonjohcgbaa.chnH
open Go.ChangeShapes Go.WideShapes Go.ChangeAt Go.RowKit Go.Deep
open opV chnM gen chnA chnB chnR chnC chnD chnE chnF chnG

set_option maxRecDepth 100000 in
set_option maxHeartbeats 2000000 in
theorem trims (A : Option Addr) (c : Nat) (l : List Ver) (sn : Int) (w : World) (h : HV w A c l) :
    Calls Try.prog 5 #[.slice A l.length c, .int .u64 sn] w fun e w' => e = .returned (.bool true) ∧ Below w.heap.size w w' := by
  have ha := trim_any A c l sn w h
  have hb := fun W (hB : Below w.heap.size w W) => rtrim_any A c l sn W (h.below hB)
  have hsm := Lib.hid (show (trm l sn).length * 64 ≤ 140737488355328 by have := trm_le l sn; have := h.sm; omega)
  replace ha := Lib.hid ha
  replace hb := Lib.hid hb
  clear h
  generalize l.length - (trm l sn).length = E at *
  generalize trm l sn = r at *
  go_enter Try.func5, Try.ntmps5
  go_wp2_with (fail)
  refine ha.out.mono ?_
  rintro e w1 ⟨A1, c1, rfl, hG1, hB1⟩
  have hx := Lib.hid (hG1.hv hsm.out)
  replace hB1 := Lib.hid hB1
  clear hG1
  go_wp2_with (fail)
  refine (hb.out w1 hB1.out).mono ?_
  rintro e w2 ⟨A2, c2, rfl, hG2, hB2⟩
  have hy := Lib.hid (hG2.hv hsm.out)
  have hx2 := Lib.hid (hx.out.below hB2)
  have hB2' := Lib.hid (trans0 hB1.out hB2)
  clear hG2 hB2
  go_wp2_with (fail)
  refine (awake_any w2).mono ?_
  rintro e w3 ⟨rfl, hB3⟩
  have hsv := samevers A1 c1 r A2 c2 r w3 (hx2.out.below hB3) (hy.out.below hB3)
  rw [decide_eq_true (rfl : r = r)] at hsv
  replace hsv := Lib.hid hsv
  have hB3' := Lib.hid (trans0 hB2'.out hB3)
  clear hB3
  go_wp2_with (fail)
  refine hsv.out.mono ?_
  rintro e w4 ⟨rfl, hB4⟩
  have hfin := Lib.hid (trans0 hB3'.out hB4)
  clear hB4
  go_wp2
  go_ret
  exact ⟨rfl, hfin.out⟩
end Go.Proofs.Ytbmaaonjohcgbaa.chnH
