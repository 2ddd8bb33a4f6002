/- Calls of a nil table, the laws' do, awake. -/
import Derived.Test.YtmhflemmkoiffaaStbG
import Derived.Test.YtmhflemmkoiffaaOpB
set_option linter.unusedVariables false
set_option linter.unusedSimpArgs false
namespace Go.Proofs.Ytmhflemmkoiffaa.stbH
open Go.ChangeShapes Go.WideShapes Go.ChangeAt Go.RowKit Go.Deep
open opG opB stVA stVB stVC stVD stVF stVH stVP stbA stbB stbC stbD stbE stbF stbG

theorem beat_nil (n t : Int) (w : World) : Calls Try.prog 15 #[.pointer none, .int .i64 n, .int .u64 t] w fun r w' => r = .returned (.tuple #[]) ∧ w' = w := by
  go_enter Try.func15, Try.ntmps15
  go_wp2
  refine bodyPost_ret (results_none rfl _ _ _) rfl ?_
  exact ⟨rfl, by trivial⟩
theorem got_nil (n t : Int) (w : World) : Calls Try.prog 16 #[.pointer none, .int .i64 n, .int .u64 t] w fun r w' => r = .returned (.tuple #[]) ∧ w' = w := by
  go_enter Try.func16, Try.ntmps16
  go_wp2
  refine bodyPost_ret (results_none rfl _ _ _) rfl ?_
  exact ⟨rfl, by trivial⟩
theorem told_nil (n e t : Int) (w : World) : Calls Try.prog 17 #[.pointer none, .int .i64 n, .int .i64 e, .int .u64 t] w fun r w' => r = .returned (.tuple #[]) ∧ w' = w := by
  go_enter Try.func17, Try.ntmps17
  go_wp2
  refine bodyPost_ret (results_none rfl _ _ _) rfl ?_
  exact ⟨rfl, by trivial⟩
theorem lift_nil (t : Int) (w : World) : Calls Try.prog 22 #[.pointer none, .int .u64 t] w fun r w' => r = .returned (.tuple #[]) ∧ w' = w := by
  go_enter Try.func22, Try.ntmps22
  go_wp2
  go_end0
  exact ⟨rfl, by trivial⟩
theorem join_nil (n e : Int) (w : World) : Calls Try.prog 20 #[.pointer none, .int .i64 n, .int .i64 e] w fun r w' => r = .returned (.int .i64 1) ∧ w' = w := by
  go_enter Try.func20, Try.ntmps20
  go_wp2
  go_ret
  exact ⟨rfl, by trivial⟩
theorem leave_nil (n e : Int) (w : World) : Calls Try.prog 21 #[.pointer none, .int .i64 n, .int .i64 e] w fun r w' => r = .returned (.int .i64 1) ∧ w' = w := by
  go_enter Try.func21, Try.ntmps21
  go_wp2
  go_ret
  exact ⟨rfl, by trivial⟩
/-! ### do -/
def doE (s : Tb) (o : opB.Op) : Int := if o.k = 3 then joinE s o.a o.e else if o.k = 4 then leaveE s o.a o.e else 0
def doS (s : Tb) (o : opB.Op) : Tb := if o.k = 0 then beatS s o.a o.t else if o.k = 1 then gotS s o.a o.t else if o.k = 2 then toldS s o.a o.e o.t else if o.k = 3 then joinS s o.a o.e else if o.k = 4 then leaveS s o.a o.e else liftS s o.t
theorem eq_do {s : Tb} (h : s.eq) (o : opB.Op) : (doS s o).eq := by
  unfold doS
  split
  · exact eq_beat h _ _
  split
  · exact eq_got h _ _
  split
  · exact eq_told h _ _ _
  split
  · exact eq_join h _ _
  split
  · exact eq_leave h _ _
  · exact eq_lift h _
abbrev vO (o : opB.Op) : Value := .agg #[.int .i64 o.k, .int .i64 o.a, .int .i64 o.e, .int .u64 o.t]
abbrev bO (o : opB.Op) : Obj := .cells #[.int .i64 o.k, .int .i64 o.a, .int .i64 o.e, .int .u64 o.t] 34
set_option maxRecDepth 100000 in
set_option maxHeartbeats 1000000 in
theorem do_any {p q : Nat} {s : Tb} (o : opB.Op) (w : World) (h : stbA.T p q s w) (hq : s.eq) : Calls Try.prog 12 #[.pointer (some ⟨p, 0, none⟩), vO o] w fun r w' => r = .returned (.int .i64 (doE s o)) ∧ stbA.T p q (doS s o) w' ∧ Kp p q w w' := by
  have hT := Lib.hid (h.below (al0 w (bO o)))
  have hK := Lib.hid (Kp.of (p := p) (q := q) (al0 w (bO o)))
  clear h
  obtain ⟨k, a, e, t⟩ := o
  by_cases h0 : k = 0
  · subst h0
    have e1 : doS s ⟨0, a, e, t⟩ = beatS s a t := rfl
    have e2 : doE s ⟨0, a, e, t⟩ = 0 := rfl
    rw [e1, e2]
    clear e1 e2
    go_enter Try.func12, Try.ntmps12
    go_wp2_with (fail)
    refine (beat_any _ _ _ hT.out).mono ?_
    rintro e w2 ⟨rfl, hT2, hK2⟩
    replace hT2 := Lib.hid hT2
    replace hK2 := Lib.hid (hK.out.trans hK2)
    go_wp2
    go_ret
    exact ⟨rfl, hT2.out, hK2.out⟩
  by_cases h1 : k = 1
  · subst h1
    have e1 : doS s ⟨1, a, e, t⟩ = gotS s a t := rfl
    have e2 : doE s ⟨1, a, e, t⟩ = 0 := rfl
    rw [e1, e2]
    clear e1 e2
    go_enter Try.func12, Try.ntmps12
    go_wp2_with (fail)
    refine (got_any _ _ _ hT.out).mono ?_
    rintro e w2 ⟨rfl, hT2, hK2⟩
    replace hT2 := Lib.hid hT2
    replace hK2 := Lib.hid (hK.out.trans hK2)
    go_wp2
    go_ret
    exact ⟨rfl, hT2.out, hK2.out⟩
  by_cases h2 : k = 2
  · subst h2
    have e1 : doS s ⟨2, a, e, t⟩ = toldS s a e t := rfl
    have e2 : doE s ⟨2, a, e, t⟩ = 0 := rfl
    rw [e1, e2]
    clear e1 e2
    go_enter Try.func12, Try.ntmps12
    go_wp2_with (fail)
    refine (told_any _ _ _ _ hT.out).mono ?_
    rintro e w2 ⟨rfl, hT2, hK2⟩
    replace hT2 := Lib.hid hT2
    replace hK2 := Lib.hid (hK.out.trans hK2)
    go_wp2
    go_ret
    exact ⟨rfl, hT2.out, hK2.out⟩
  by_cases h3 : k = 3
  · subst h3
    have e1 : doS s ⟨3, a, e, t⟩ = joinS s a e := rfl
    have e2 : doE s ⟨3, a, e, t⟩ = joinE s a e := rfl
    rw [e1, e2]
    clear e1 e2
    go_enter Try.func12, Try.ntmps12
    go_wp2_with (fail)
    refine (join_any _ _ _ hT.out hq).mono ?_
    rintro e w2 ⟨rfl, hT2, hK2⟩
    replace hT2 := Lib.hid hT2
    replace hK2 := Lib.hid (hK.out.trans hK2)
    go_wp2
    go_ret
    exact ⟨rfl, hT2.out, hK2.out⟩
  by_cases h4 : k = 4
  · subst h4
    have e1 : doS s ⟨4, a, e, t⟩ = leaveS s a e := rfl
    have e2 : doE s ⟨4, a, e, t⟩ = leaveE s a e := rfl
    rw [e1, e2]
    clear e1 e2
    go_enter Try.func12, Try.ntmps12
    go_wp2_with (fail)
    refine (leave_any _ _ _ hT.out hq).mono ?_
    rintro e w2 ⟨rfl, hT2, hK2⟩
    replace hT2 := Lib.hid hT2
    replace hK2 := Lib.hid (hK.out.trans hK2)
    go_wp2
    go_ret
    exact ⟨rfl, hT2.out, hK2.out⟩
  · have e1 : doS s ⟨k, a, e, t⟩ = liftS s t := by unfold doS; rw [if_neg h0, if_neg h1, if_neg h2, if_neg h3, if_neg h4]
    have e2 : doE s ⟨k, a, e, t⟩ = 0 := by unfold doE; rw [if_neg h3, if_neg h4]
    rw [e1, e2]
    clear e1 e2
    go_enter Try.func12, Try.ntmps12
    go_wp2_with (fail)
    refine (lift_any _ _ hT.out).mono ?_
    rintro e w2 ⟨rfl, hT2, hK2⟩
    replace hT2 := Lib.hid hT2
    replace hK2 := Lib.hid (hK.out.trans hK2)
    go_wp2
    go_ret
    exact ⟨rfl, hT2.out, hK2.out⟩
def nlE (o : opB.Op) : Int := if o.k = 3 ∨ o.k = 4 then 1 else 0
set_option maxRecDepth 100000 in
set_option maxHeartbeats 1000000 in
theorem do_nil (o : opB.Op) (w : World) : Calls Try.prog 12 #[.pointer none, vO o] w fun r w' => r = .returned (.int .i64 (nlE o)) ∧ Below w.heap.size w w' := by
  have hK := Lib.hid (al0 w (bO o))
  obtain ⟨k, a, e, t⟩ := o
  by_cases h0 : k = 0
  · subst h0
    rw [show nlE ⟨0, a, e, t⟩ = 0 from rfl]
    go_enter Try.func12, Try.ntmps12
    go_wp2_with (fail)
    refine (beat_nil _ _ _).mono ?_
    rintro e w2 ⟨rfl, rfl⟩
    go_wp2
    go_ret
    exact ⟨rfl, hK.out⟩
  by_cases h1 : k = 1
  · subst h1
    rw [show nlE ⟨1, a, e, t⟩ = 0 from rfl]
    go_enter Try.func12, Try.ntmps12
    go_wp2_with (fail)
    refine (got_nil _ _ _).mono ?_
    rintro e w2 ⟨rfl, rfl⟩
    go_wp2
    go_ret
    exact ⟨rfl, hK.out⟩
  by_cases h2 : k = 2
  · subst h2
    rw [show nlE ⟨2, a, e, t⟩ = 0 from rfl]
    go_enter Try.func12, Try.ntmps12
    go_wp2_with (fail)
    refine (told_nil _ _ _ _).mono ?_
    rintro e w2 ⟨rfl, rfl⟩
    go_wp2
    go_ret
    exact ⟨rfl, hK.out⟩
  by_cases h3 : k = 3
  · subst h3
    rw [show nlE ⟨3, a, e, t⟩ = 1 from rfl]
    go_enter Try.func12, Try.ntmps12
    go_wp2_with (fail)
    refine (join_nil _ _ _).mono ?_
    rintro e w2 ⟨rfl, rfl⟩
    go_wp2
    go_ret
    exact ⟨rfl, hK.out⟩
  by_cases h4 : k = 4
  · subst h4
    rw [show nlE ⟨4, a, e, t⟩ = 1 from rfl]
    go_enter Try.func12, Try.ntmps12
    go_wp2_with (fail)
    refine (leave_nil _ _ _).mono ?_
    rintro e w2 ⟨rfl, rfl⟩
    go_wp2
    go_ret
    exact ⟨rfl, hK.out⟩
  · rw [show nlE ⟨k, a, e, t⟩ = 0 from by unfold nlE; rw [if_neg (by show ¬ (k = 3 ∨ k = 4); omega)]]
    go_enter Try.func12, Try.ntmps12
    go_wp2_with (fail)
    refine (lift_nil _ _).mono ?_
    rintro e w2 ⟨rfl, rfl⟩
    go_wp2
    go_ret
    exact ⟨rfl, hK.out⟩
/-! ### awake -/
abbrev wk : V := ⟨0, true, true, false, false, 0, 0, 0, 0⟩
abbrev wkT : Tb := toldS (gotS (beatS (newT 0 1 wk) 0 9) 1 5) 1 0 7
theorem wk_is : loc wkT = 9 ∧ ap wkT = 5 ∧ wkT.st = 5 := by decide
set_option maxRecDepth 100000 in
theorem awake_any (w : World) : Calls Try.prog 7 #[] w fun r w' => r = .returned (.bool true) ∧ Below w.heap.size w w' := by
  have hn := Lib.hid (new_ok 0 1 wk w (by decide) (by decide))
  go_enter Try.func7, Try.ntmps7
  go_wp2_with (fail)
  refine hn.out.mono ?_
  rintro e w1 ⟨p, q, rfl, hp, hq, hT1, hB1⟩
  clear hn
  replace hT1 := Lib.hid hT1
  replace hB1 := Lib.hid hB1
  go_wp2_with (fail)
  refine (beat_any _ _ _ hT1.out).mono ?_
  rintro e w2 ⟨rfl, hT2, hK2⟩
  replace hT2 := Lib.hid hT2
  replace hK2 := Lib.hid hK2
  go_wp2_with (fail)
  refine (got_any _ _ _ hT2.out).mono ?_
  rintro e w3 ⟨rfl, hT3, hK3⟩
  replace hT3 := Lib.hid hT3
  replace hK3 := Lib.hid (hK2.out.trans hK3)
  go_wp2_with (fail)
  refine (told_any _ _ _ _ hT3.out).mono ?_
  rintro e w4 ⟨rfl, hT4, hK4⟩
  have hT5 : Hid (stbA.T p q wkT w4) := Lib.hid hT4
  replace hK4 := Lib.hid (hK3.out.trans hK4)
  clear hT4 hT1 hT2 hT3 hK2 hK3
  have e1 := wk_is
  generalize wkT = s at *
  obtain ⟨e1, e2, e3⟩ := e1
  have hL := local_any _ hT5.out
  have hA := applied_any _ hT5.out
  rw [e1] at hL
  rw [e2] at hA
  replace hL := Lib.hid hL
  replace hA := Lib.hid hA
  have hS := Lib.hid (fun wx (hx : stbA.T p q s wx) => stable_any _ hx)
  rw [e3] at hS
  clear e1 e2 e3
  go_wp2_with (fail)
  refine hL.out.mono ?_
  rintro e w5 ⟨rfl, rfl⟩
  go_wp2_with (fail)
  refine hA.out.mono ?_
  rintro e w6 ⟨rfl, hB6⟩
  have hT6 := Lib.hid (hT5.out.below hB6)
  have hB7 := Lib.hid ((hK4.out.then hB6).below hB1.out.size hp hq)
  have hB8 : Hid (Below w.heap.size w w6) := Lib.hid (by
    have h1 := hB1.out
    have h2 := hB7.out
    exact h1.trans h2)
  clear hB6 hB7
  go_wp2_with (fail)
  refine (hS.out _ hT6.out).mono ?_
  rintro e w7 ⟨rfl, rfl⟩
  go_wp2
  go_ret
  exact ⟨rfl, hB8.out⟩
end Go.Proofs.Ytmhflemmkoiffaa.stbH
