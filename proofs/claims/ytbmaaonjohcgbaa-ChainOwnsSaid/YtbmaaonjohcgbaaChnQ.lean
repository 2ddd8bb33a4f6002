/- The statement ChainJoins. -/
import Derived.Test.YtbmaaonjohcgbaaChnP
set_option linter.unusedVariables false
namespace Go.Proofs.Ytbmaaonjohcgbaa.chnQ
open Go.ChangeShapes Go.WideShapes Go.ChangeAt Go.RowKit Go.Deep
open opV chnM gen chnA chnB chnR chnC chnD chnE chnF chnG chnI chnJ chnK chnL chnN chnO chnOg chnP

theorem joiL_len (a b : List Ver) : (joiL a b).length ≤ a.length + b.length := by
  unfold joiL
  cases h : joi a b b.length with
  | none => simp
  | some r => exact joi_len h
set_option maxRecDepth 100000 in
theorem joins_big1 (A : Option Addr) (c : Nat) (a : List Ver) (B : Option Addr) (d : Nat) (b : List Ver) (w : World) (h9 : 120 < a.length) :
    Calls Try.prog 6 #[.slice A a.length c, .slice B b.length d] w fun e w' => e = .returned (.bool true) ∧ Below w.heap.size w w' := by
  have hg := Lib.hid (fun w => great_any A c a w)
  have hg2 := Lib.hid (fun w => great_any B d b w)
  rw [decide_eq_true h9] at hg
  clear h9
  go_enter Try.func6, Try.ntmps6
  go_wp2_with (fail)
  refine (hg.out w).mono ?_
  rintro e w' ⟨rfl, rfl⟩
  go_wp2_with (fail)
  refine (awake_any w).mono ?_
  rintro e w' ⟨rfl, hB⟩
  have hfin := Lib.hid hB
  clear hB
  go_wp2
  go_ret
  exact ⟨rfl, hfin.out⟩
set_option maxRecDepth 100000 in
theorem joins_big2 (A : Option Addr) (c : Nat) (a : List Ver) (B : Option Addr) (d : Nat) (b : List Ver) (w : World) (h9 : ¬ 120 < a.length) (h8 : 120 < b.length) :
    Calls Try.prog 6 #[.slice A a.length c, .slice B b.length d] w fun e w' => e = .returned (.bool true) ∧ Below w.heap.size w w' := by
  have hg := Lib.hid (fun w => great_any A c a w)
  have hg2 := Lib.hid (fun w => great_any B d b w)
  rw [decide_eq_false h9] at hg
  rw [decide_eq_true h8] at hg2
  clear h9 h8
  go_enter Try.func6, Try.ntmps6
  go_wp2_with (fail)
  refine (hg.out w).mono ?_
  rintro e w' ⟨rfl, rfl⟩
  go_wp2_with (fail)
  refine (hg2.out w).mono ?_
  rintro e w' ⟨rfl, rfl⟩
  go_wp2_with (fail)
  refine (awake_any w).mono ?_
  rintro e w' ⟨rfl, hB⟩
  have hfin := Lib.hid hB
  clear hB
  go_wp2
  go_ret
  exact ⟨rfl, hfin.out⟩
set_option maxRecDepth 100000 in
set_option maxHeartbeats 2000000 in
theorem joins_small (A : Option Addr) (c : Nat) (a : List Ver) (B : Option Addr) (d : Nat) (b : List Ver) (w : World) (h1 : HV w A c a) (h2 : HV w B d b) (h9 : ¬ 120 < a.length) (h8 : ¬ 120 < b.length) :
    Calls Try.prog 6 #[.slice A a.length c, .slice B b.length d] w fun e w' => e = .returned (.bool true) ∧ Below w.heap.size w w' := by
  have ha := join_any A c a B d b w h1 h2 (by omega)
  have hb := fun W (hB : Below w.heap.size w W) => rjoin_any A c a B d b W (h1.below hB) (h2.below hB) (by omega)
  have hg := Lib.hid (fun w => great_any A c a w)
  have hg2 := Lib.hid (fun w => great_any B d b w)
  rw [decide_eq_false h9] at hg
  rw [decide_eq_false h8] at hg2
  have hsm := Lib.hid (show (joiL a b).length * 64 ≤ 140737488355328 by have := joiL_len a b; omega)
  replace ha := Lib.hid ha
  replace hb := Lib.hid hb
  clear h1 h2 h9 h8
  generalize joiE a b = E at *
  generalize joiL a b = r at *
  go_enter Try.func6, Try.ntmps6
  go_wp2_with (fail)
  refine (hg.out w).mono ?_
  rintro e w' ⟨rfl, rfl⟩
  go_wp2_with (fail)
  refine (hg2.out w).mono ?_
  rintro e w' ⟨rfl, rfl⟩
  go_wp2_with (fail)
  refine ha.out.mono ?_
  rintro e w1 ⟨A1, c1, rfl, hG1, hB1⟩
  have hx := Lib.hid (hG1.hv hsm.out)
  replace hB1 := Lib.hid hB1
  clear hG1
  go_wp2_with (fail)
  refine (hb.out w1 hB1.out).mono ?_
  rintro e w2 ⟨A2, c2, rfl, hG2, hB2⟩
  have hy := Lib.hid (hG2.hv hsm.out)
  have hx2 := Lib.hid (hx.out.below hB2)
  have hB2' := Lib.hid (trans0 hB1.out hB2)
  clear hG2 hB2
  go_wp2_with (fail)
  refine (awake_any w2).mono ?_
  rintro e w3 ⟨rfl, hB3⟩
  have hsv := samevers A1 c1 r A2 c2 r w3 (hx2.out.below hB3) (hy.out.below hB3)
  rw [decide_eq_true (rfl : r = r)] at hsv
  replace hsv := Lib.hid hsv
  have hB3' := Lib.hid (trans0 hB2'.out hB3)
  clear hB3
  go_wp2_with (fail)
  refine hsv.out.mono ?_
  rintro e w4 ⟨rfl, hB4⟩
  have hfin := Lib.hid (trans0 hB3'.out hB4)
  clear hB4
  go_wp2
  go_ret
  exact ⟨rfl, hfin.out⟩
theorem joins (A : Option Addr) (c : Nat) (a : List Ver) (B : Option Addr) (d : Nat) (b : List Ver) (w : World) (h1 : HV w A c a) (h2 : HV w B d b) :
    Calls Try.prog 6 #[.slice A a.length c, .slice B b.length d] w fun e w' => e = .returned (.bool true) ∧ Below w.heap.size w w' := by
  by_cases h9 : 120 < a.length
  · exact joins_big1 A c a B d b w h9
  · by_cases h8 : 120 < b.length
    · exact joins_big2 A c a B d b w h9 h8
    · exact joins_small A c a B d b w h1 h2 h9 h8
end Go.Proofs.Ytbmaaonjohcgbaa.chnQ
