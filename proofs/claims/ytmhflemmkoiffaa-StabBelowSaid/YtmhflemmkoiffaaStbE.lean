/- The contracts of Beat, Got, Told, Lift. -/
import Derived.Test.YtmhflemmkoiffaaStbD
set_option linter.unusedVariables false
set_option linter.unusedSimpArgs false
namespace Go.Proofs.Ytmhflemmkoiffaa.stbE
open Go.ChangeShapes Go.WideShapes Go.ChangeAt Go.RowKit Go.Deep
open stVA stVB stVC stVD stVF stVH stVP stbA stbB stbC stbD

/-- a call that answers nothing, and leaves the table s' -/
abbrev Leaves (F : FuncId) (args : Array Value) (p q : Nat) (s' : Tb) (w : World) : Prop := Calls Try.prog F args w fun r w' => r = .returned (.tuple #[]) ∧ stbA.T p q s' w' ∧ Kp p q w w'
set_option maxRecDepth 100000 in
theorem lift_any {p q : Nat} {s : Tb} (t : Int) (w : World) (h : stbA.T p q s w) : Calls Try.prog 22 #[.pointer (some ⟨p, 0, none⟩), .int .u64 t] w fun r w' => r = .returned (.tuple #[]) ∧ stbA.T p q (liftS s t) w' ∧ Kp p q w w' := by
  have hx := Lib.hid (show ∀ x, mx s.st t = x → stbA.T p q (liftS s t) (w.setCell ⟨p, 21, none⟩ (.int .u64 x)) ∧ Kp p q w (w.setCell ⟨p, 21, none⟩ (.int .u64 x)) from fun x hx => by
    have h1 := h.putS x
    rw [show ({ s with st := x } : Tb) = liftS s t from by unfold liftS; rw [hx]] at h1
    exact ⟨h1, (Kp.refl p q w).setCell (a := ⟨p, 21, none⟩) (.inl rfl) _⟩)
  have hs := Lib.hid (show mx s.st t = s.st → stbA.T p q (liftS s t) w ∧ Kp p q w w from fun hx => ⟨by unfold liftS; rw [hx]; exact h, Kp.refl p q w⟩)
  obtain ⟨c0, c1, c2, c3⟩ := h.c0
  have fz := h.fz 21
  clear h c0 c1 c2
  by_cases hlt : s.st < t
  · replace hx := Lib.hid (hx.out t (by unfold mx; rw [if_pos hlt]))
    go_enter Try.func22, Try.ntmps22
    go_wp2
    go_end0
    exact ⟨rfl, hx.out⟩
  · replace hx := Lib.hid (hx.out s.st (by unfold mx; rw [if_neg hlt]))
    replace hs := Lib.hid (hs.out (by unfold mx; rw [if_neg hlt]))
    go_enter Try.func22, Try.ntmps22
    go_wp2
    go_end0
    first | exact ⟨rfl, hx.out⟩ | exact ⟨rfl, hs.out⟩
/-! ### Got, Told -/
set_option maxRecDepth 100000 in
set_option maxHeartbeats 1000000 in
theorem got_own {p q : Nat} {s : Tb} (dc t : Int) (w : World) (h : stbA.T p q s w) (hd : dc = s.dc) : Calls Try.prog 16 #[.pointer (some ⟨p, 0, none⟩), .int .i64 dc, .int .u64 t] w fun r w' => r = .returned (.tuple #[]) ∧ w' = w := by
  obtain ⟨c0, c1, c2, c3⟩ := h.c0
  rw [← hd] at c0
  clear h c1 c2 c3 hd
  go_enter Try.func16, Try.ntmps16
  go_wp2
  refine bodyPost_ret (results_none rfl _ _ _) rfl ?_
  exact ⟨rfl, by trivial⟩
set_option maxRecDepth 100000 in
set_option maxHeartbeats 1000000 in
theorem got_other {p q : Nat} {s : Tb} (dc t : Int) (w : World) (h : stbA.T p q s w) (hd : dc ≠ s.dc) : Calls Try.prog 16 #[.pointer (some ⟨p, 0, none⟩), .int .i64 dc, .int .u64 t] w fun r w' => r = .returned (.tuple #[]) ∧ stbA.T p q (stl (putG s dc t)) w' ∧ Kp p q w w' := by
  obtain ⟨b0, b1, b2, b3⟩ := h.c0
  obtain ⟨c0, c1, c2, c3, c4, c5, c6, c7, c8⟩ := h.cg
  have hR := Lib.hid (raise_any s.g dc t w)
  have hT := Lib.hid h
  clear h b1 b2 b3
  go_enter Try.func16, Try.ntmps16
  go_wp2_with (fail)
  refine hR.out.mono ?_
  rintro e w1 ⟨rfl, hB1⟩
  have hT1 := Lib.hid (hT.out.below hB1)
  have hK1 := Lib.hid (kpG (Kp.of hB1 (p := p) (q := q)) (rsV s.g dc t))
  have hT2 := Lib.hid (show stbA.T p q (putG s dc t) (ptG w1 p (rsV s.g dc t)) from hT1.out.putG _)
  have f2 := hT1.out.fz 2
  have f3 := hT1.out.fz 3
  have f4 := hT1.out.fz 4
  have f5 := hT1.out.fz 5
  have f6 := hT1.out.fz 6
  have f7 := hT1.out.fz 7
  have f8 := hT1.out.fz 8
  have f9 := hT1.out.fz 9
  have f10 := hT1.out.fz 10
  clear c0 c1 c2 c3 c4 c5 c6 c7 c8 b0
  obtain ⟨c0, c1, c2, c3, c4, c5, c6, c7, c8⟩ := hT1.out.cg
  go_wp2_with (fail)
  refine (settle_any (s := putG s dc t) _ hT2.out).mono ?_
  rintro e w2 ⟨rfl, hT3, hK3⟩
  have hT3' := Lib.hid hT3
  have hK3' := Lib.hid (hK1.out.trans hK3)
  clear hT3 hK3 c0 c1 c2 c3 c4 c5 c6 c7 c8 f2 f3 f4 f5 f6 f7 f8 f9 f10
  go_wp2
  go_end0
  exact ⟨rfl, hT3'.out, hK3'.out⟩
theorem got_any {p q : Nat} {s : Tb} (dc t : Int) (w : World) (h : stbA.T p q s w) : Calls Try.prog 16 #[.pointer (some ⟨p, 0, none⟩), .int .i64 dc, .int .u64 t] w fun r w' => r = .returned (.tuple #[]) ∧ stbA.T p q (gotS s dc t) w' ∧ Kp p q w w' := by
  unfold gotS
  by_cases hd : dc = s.dc
  · rw [if_pos hd]
    refine (got_own dc t w h hd).mono ?_
    rintro e w1 ⟨rfl, rfl⟩
    exact ⟨rfl, h, Kp.refl p q _⟩
  · rw [if_neg hd]
    exact got_other dc t w h hd
set_option maxRecDepth 100000 in
set_option maxHeartbeats 1000000 in
theorem told_own {p q : Nat} {s : Tb} (dc ep t : Int) (w : World) (h : stbA.T p q s w) (hd : dc = s.dc ∨ ep < s.j) : Calls Try.prog 17 #[.pointer (some ⟨p, 0, none⟩), .int .i64 dc, .int .i64 ep, .int .u64 t] w fun r w' => r = .returned (.tuple #[]) ∧ w' = w := by
  obtain ⟨c0, c1, c2, c3⟩ := h.c0
  clear h c1 c3
  by_cases h1 : dc = s.dc
  · rw [← h1] at c0
    clear h1 hd
    go_enter Try.func17, Try.ntmps17
    go_wp2
    refine bodyPost_ret (results_none rfl _ _ _) rfl ?_
    exact ⟨rfl, by trivial⟩
  · have h2 : ep < s.j := by omega
    go_enter Try.func17, Try.ntmps17
    go_wp2
    refine bodyPost_ret (results_none rfl _ _ _) rfl ?_
    exact ⟨rfl, by trivial⟩
set_option maxRecDepth 100000 in
set_option maxHeartbeats 1000000 in
theorem told_other {p q : Nat} {s : Tb} (dc ep t : Int) (w : World) (h : stbA.T p q s w) (hd : dc ≠ s.dc) (he : ¬ ep < s.j) : Calls Try.prog 17 #[.pointer (some ⟨p, 0, none⟩), .int .i64 dc, .int .i64 ep, .int .u64 t] w fun r w' => r = .returned (.tuple #[]) ∧ stbA.T p q (stl (putU s dc t)) w' ∧ Kp p q w w' := by
  obtain ⟨b0, b1, b2, b3⟩ := h.c0
  obtain ⟨c0, c1, c2, c3, c4, c5, c6, c7, c8⟩ := h.cu
  have hR := Lib.hid (raise_any s.u dc t w)
  have hT := Lib.hid h
  clear h b1 b3
  go_enter Try.func17, Try.ntmps17
  go_wp2_with (fail)
  refine hR.out.mono ?_
  rintro e w1 ⟨rfl, hB1⟩
  have hT1 := Lib.hid (hT.out.below hB1)
  have hK1 := Lib.hid (kpU (Kp.of hB1 (p := p) (q := q)) (rsV s.u dc t))
  have hT2 := Lib.hid (show stbA.T p q (putU s dc t) (ptU w1 p (rsV s.u dc t)) from hT1.out.putU _)
  have f2 := hT1.out.fz 11
  have f3 := hT1.out.fz 12
  have f4 := hT1.out.fz 13
  have f5 := hT1.out.fz 14
  have f6 := hT1.out.fz 15
  have f7 := hT1.out.fz 16
  have f8 := hT1.out.fz 17
  have f9 := hT1.out.fz 18
  have f10 := hT1.out.fz 19
  clear c0 c1 c2 c3 c4 c5 c6 c7 c8 b0 b2
  obtain ⟨c0, c1, c2, c3, c4, c5, c6, c7, c8⟩ := hT1.out.cu
  go_wp2_with (fail)
  refine (settle_any (s := putU s dc t) _ hT2.out).mono ?_
  rintro e w2 ⟨rfl, hT3, hK3⟩
  have hT3' := Lib.hid hT3
  have hK3' := Lib.hid (hK1.out.trans hK3)
  clear hT3 hK3 c0 c1 c2 c3 c4 c5 c6 c7 c8 f2 f3 f4 f5 f6 f7 f8 f9 f10
  go_wp2
  go_end0
  exact ⟨rfl, hT3'.out, hK3'.out⟩
theorem told_any {p q : Nat} {s : Tb} (dc ep t : Int) (w : World) (h : stbA.T p q s w) : Calls Try.prog 17 #[.pointer (some ⟨p, 0, none⟩), .int .i64 dc, .int .i64 ep, .int .u64 t] w fun r w' => r = .returned (.tuple #[]) ∧ stbA.T p q (toldS s dc ep t) w' ∧ Kp p q w w' := by
  unfold toldS
  by_cases hd : dc = s.dc ∨ ep < s.j
  · rw [if_pos hd]
    refine (told_own dc ep t w h hd).mono ?_
    rintro e w1 ⟨rfl, rfl⟩
    exact ⟨rfl, h, Kp.refl p q _⟩
  · rw [if_neg hd]
    exact told_other dc ep t w h (fun e => hd (.inl e)) (fun e => hd (.inr e))
/-! ### Beat -/
set_option maxRecDepth 100000 in
set_option maxHeartbeats 1000000 in
theorem beat_none {p q : Nat} {s : Tb} (n t : Int) (w : World) (h : stbA.T p q s w) (hd : n < 0 ∨ (s.bs.length : Int) ≤ n) : Calls Try.prog 15 #[.pointer (some ⟨p, 0, none⟩), .int .i64 n, .int .u64 t] w fun r w' => r = .returned (.tuple #[]) ∧ w' = w := by
  obtain ⟨c0, c1, c2, c3⟩ := h.c0
  clear h c0 c2 c3
  by_cases h1 : n < 0
  · clear hd
    go_enter Try.func15, Try.ntmps15
    go_wp2
    refine bodyPost_ret (results_none rfl _ _ _) rfl ?_
    exact ⟨rfl, by trivial⟩
  · have h2 : (s.bs.length : Int) ≤ n := by omega
    clear hd
    go_enter Try.func15, Try.ntmps15
    go_wp2
    refine bodyPost_ret (results_none rfl _ _ _) rfl ?_
    exact ⟨rfl, by trivial⟩
set_option maxRecDepth 100000 in
set_option maxHeartbeats 1000000 in
theorem beat_some {p q : Nat} {s : Tb} (i : Nat) (t : Int) (w : World) (h : stbA.T p q s w) (hi : i < s.bs.length) : Calls Try.prog 15 #[.pointer (some ⟨p, 0, none⟩), .int .i64 (i : Int), .int .u64 t] w fun r w' => r = .returned (.tuple #[]) ∧ stbA.T p q (stl (putB s i t)) w' ∧ Kp p q w w' := by
  obtain ⟨c0, c1, c2, c3⟩ := h.c0
  have hc := h.bcell hi
  have fz := h.bts.frozen i
  have hx := Lib.hid (show ∀ x, mx (s.bs.getD i 0) t = x → stbA.T p q (putB s i t) (w.setCell ⟨q, i, none⟩ (.int .u64 x)) ∧ Kp p q w (w.setCell ⟨q, i, none⟩ (.int .u64 x)) from fun x hx => by
    have h1 := h.putB hi x
    rw [show ({ s with bs := s.bs.set i x } : Tb) = putB s i t from by unfold putB; rw [show ((i : Int)).toNat = i from rfl, hx]] at h1
    exact ⟨h1, (Kp.refl p q w).setCell (a := ⟨q, i, none⟩) (.inr rfl) _⟩)
  clear h c0 c2 c3
  have h1 : ¬ ((i : Int) < 0) := by omega
  have h2 : ¬ ((s.bs.length : Int) ≤ (i : Int)) := by omega
  obtain ⟨old, ho⟩ : ∃ x, s.bs.getD i 0 = x := ⟨_, rfl⟩
  rw [ho] at hc hx
  clear ho
  by_cases hlt : old < t
  · replace hx := Lib.hid (hx.out t (by unfold mx; rw [if_pos hlt]))
    go_enter Try.func15, Try.ntmps15
    go_upto_region 1 with (fail)
    go_region
    all_goals
      go_wp2_with (fail)
      refine (settle_any (s := putB s i t) _ hx.out.1.drew).mono ?_
      rintro e w2 ⟨rfl, hT3, hK3⟩
      have hT3' := Lib.hid hT3
      have hK3' := Lib.hid (hx.out.2.drew.trans hK3)
      clear hT3 hK3
      go_wp2
      go_end0
      exact ⟨rfl, hT3'.out, hK3'.out⟩
  · replace hx := Lib.hid (hx.out old (by unfold mx; rw [if_neg hlt]))
    go_enter Try.func15, Try.ntmps15
    go_upto_region 1 with (fail)
    go_region
    all_goals
      go_wp2_with (fail)
      refine (settle_any (s := putB s i t) _ hx.out.1.drew).mono ?_
      rintro e w2 ⟨rfl, hT3, hK3⟩
      have hT3' := Lib.hid hT3
      have hK3' := Lib.hid (hx.out.2.drew.trans hK3)
      clear hT3 hK3
      go_wp2
      go_end0
      exact ⟨rfl, hT3'.out, hK3'.out⟩
theorem beat_any {p q : Nat} {s : Tb} (n t : Int) (w : World) (h : stbA.T p q s w) : Calls Try.prog 15 #[.pointer (some ⟨p, 0, none⟩), .int .i64 n, .int .u64 t] w fun r w' => r = .returned (.tuple #[]) ∧ stbA.T p q (beatS s n t) w' ∧ Kp p q w w' := by
  unfold beatS
  by_cases hd : n < 0 ∨ (s.bs.length : Int) ≤ n
  · rw [if_pos hd]
    refine (beat_none n t w h hd).mono ?_
    rintro e w1 ⟨rfl, rfl⟩
    exact ⟨rfl, h, Kp.refl p q _⟩
  · rw [if_neg hd]
    obtain ⟨i, rfl⟩ := Int.eq_ofNat_of_zero_le (show 0 ≤ n by omega)
    exact beat_some i t w h (by omega)
end Go.Proofs.Ytmhflemmkoiffaa.stbE
