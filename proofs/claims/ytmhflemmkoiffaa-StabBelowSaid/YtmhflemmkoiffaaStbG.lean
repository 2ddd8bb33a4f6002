/- The contracts of Join and Leave. -/
import Derived.Test.YtmhflemmkoiffaaStbF
set_option linter.unusedVariables false
set_option linter.unusedSimpArgs false
namespace Go.Proofs.Ytmhflemmkoiffaa.stbG
open Go.ChangeShapes Go.WideShapes Go.ChangeAt Go.RowKit Go.Deep
open stVA stVB stVC stVD stVF stVH stVP stbA stbB stbC stbD stbE stbF

abbrev PT (p : Nat) : Value := .pointer (some ⟨p, 0, none⟩)
set_option maxRecDepth 100000 in
set_option maxHeartbeats 1000000 in
theorem join_arg {p q : Nat} {s : Tb} (dc ep : Int) (w : World) (h : stbA.T p q s w) (hd : dc < 0 ∨ 4 ≤ dc) : Calls Try.prog 20 #[.pointer (some ⟨p, 0, none⟩), .int .i64 dc, .int .i64 ep] w fun r w' => r = .returned (.int .i64 1) ∧ w' = w := by
  go_enter Try.func20, Try.ntmps20
  go_wp2_with (fail)
  refine (isdc_any dc _).mono ?_
  rintro e w1 ⟨rfl, rfl⟩
  rw [show isD dc = false from if_pos hd]
  clear hd
  go_wp2
  go_ret
  exact ⟨rfl, by trivial⟩
set_option maxRecDepth 100000 in
set_option maxHeartbeats 1000000 in
theorem join_in {p q : Nat} {s : Tb} (j : Nat) (ep : Int) (w : World) (h : stbA.T p q s w) (hj : j < 4) (hq : s.eq) : Calls Try.prog 20 #[.pointer (some ⟨p, 0, none⟩), .int .i64 (j : Int), .int .i64 ep] w fun r w' => r = .returned (.int .i64 (joinE s j ep)) ∧ stbA.T p q (joinS s j ep) w' ∧ Kp p q w w' := by
  have hc := h.hcell hj
  have hd : ¬ ((j : Int) < 0 ∨ 4 ≤ (j : Int)) := by omega
  have hT := Lib.hid h
  obtain ⟨E, hE⟩ : ∃ E, joinE s j ep = E := ⟨_, rfl⟩
  obtain ⟨S, hS⟩ : ∃ S, joinS s j ep = S := ⟨_, rfl⟩
  rw [hE, hS]
  clear h
  by_cases hh : hb s.g j = true
  · have e1 : E = 8 := by unfold joinE at hE; rw [if_neg hd, if_pos (show hb s.g ((j : Int)).toNat = true from hh)] at hE; exact hE.symm
    have e2 : S = s := by unfold joinS at hS; rw [hE, e1, if_neg (by decide)] at hS; exact hS.symm
    subst e1
    subst e2
    rw [hh] at hc
    clear hE hS hh
    go_enter Try.func20, Try.ntmps20
    go_wp2_with (fail)
    refine (isdc_any _ _).mono ?_
    rintro e w1 ⟨rfl, rfl⟩
    rw [show isD (j : Int) = true from if_neg hd]
    clear hd
    go_wp2
    go_ret
    exact ⟨rfl, hT.out, Kp.refl _ _ _⟩
  · have hh' : hb s.g j = false := by simpa using hh
    have e1 : E = szE s.g ep := by unfold joinE at hE; rw [if_neg hd, if_neg (show ¬ hb s.g ((j : Int)).toNat = true from hh)] at hE; exact hE.symm
    subst e1
    rw [hh'] at hc
    have kZ := Lib.hid (fun wx hx => resize_x (s := s) (p := p) (q := q) j true ep wx hx hj hq)
    by_cases hep : ep ≤ s.g.e
    · have e3 : szE s.g ep = 11 := if_pos hep
      have e2 : S = s := by unfold joinS at hS; rw [hE, e3, if_neg (by decide)] at hS; exact hS.symm
      subst e2
      rw [e3] at kZ ⊢
      replace kZ := Lib.hid (fun wx hx => (kZ.out wx hx))
      simp only [if_neg (show ¬ (11 : Int) = 0 by decide)] at kZ
      clear hE hS hh hh' e3
      go_enter Try.func20, Try.ntmps20
      go_wp2_with (fail)
      refine (isdc_any _ _).mono ?_
      rintro e w1 ⟨rfl, rfl⟩
      rw [show isD (j : Int) = true from if_neg hd]
      clear hd
      go_wp2_with (fail)
      refine (kZ.out _ hT.out).mono ?_
      rintro e w2 ⟨rfl, hT2, hK2⟩
      replace hT2 := Lib.hid hT2
      replace hK2 := Lib.hid hK2
      clear hc
      go_wp2
      go_ret
      exact ⟨rfl, hT2.out, hK2.out⟩
    · have e3 : szE s.g ep = 0 := if_neg hep
      have e2 : S = fgt (szT s j true ep) ep := by unfold joinS at hS; rw [hE, e3, if_pos rfl] at hS; exact hS.symm
      subst e2
      rw [e3] at kZ ⊢
      simp only [if_true] at kZ
      clear hE hS hh hh' e3
      go_enter Try.func20, Try.ntmps20
      go_wp2_with (fail)
      refine (isdc_any _ _).mono ?_
      rintro e w1 ⟨rfl, rfl⟩
      rw [show isD (j : Int) = true from if_neg hd]
      clear hd
      go_wp2_with (fail)
      refine (kZ.out _ hT.out).mono ?_
      rintro e w2 ⟨rfl, hT2, hK2⟩
      replace hT2 := Lib.hid hT2
      replace hK2 := Lib.hid hK2
      clear hc kZ hT
      obtain ⟨u0, u1, u2, u3, u4, u5, u6, u7, u8⟩ := hT2.out.cu
      go_wp2_with (fail)
      refine (new_any ep (szT s j true ep).u _).mono ?_
      rintro e w3 ⟨rfl, hB3⟩
      have hT3 := Lib.hid (hT2.out.below hB3)
      have hK3 := Lib.hid ((kpU (hK2.out.then hB3) (newV ep (szT s j true ep).u)).setCell (a := ⟨p, 20, none⟩) (.inl rfl) (.int .i64 ep))
      have hT4 := Lib.hid (show stbA.T p q (fgt (szT s j true ep) ep) ((ptU w3 p (newV ep (szT s j true ep).u)).setCell ⟨p, 20, none⟩ (.int .i64 ep)) from (hT3.out.putU (newV ep (szT s j true ep).u)).putJ ep)
      clear hT2 hK2 u0 u1 u2 u3 u4 u5 u6 u7 u8 hB3
      obtain ⟨u0, u1, u2, u3, u4, u5, u6, u7, u8⟩ := hT3.out.cu
      obtain ⟨f0, f1, f2, f3, f4, f5, f6, f7, f8⟩ := fu hT3.out
      obtain ⟨-, -, b20, -⟩ := hT3.out.c0
      have fz := hT3.out.fz 20
      go_wp2
      go_ret
      exact ⟨rfl, hT4.out, hK3.out⟩
theorem join_any {p q : Nat} {s : Tb} (dc ep : Int) (w : World) (h : stbA.T p q s w) (hq : s.eq) : Calls Try.prog 20 #[.pointer (some ⟨p, 0, none⟩), .int .i64 dc, .int .i64 ep] w fun r w' => r = .returned (.int .i64 (joinE s dc ep)) ∧ stbA.T p q (joinS s dc ep) w' ∧ Kp p q w w' := by
  by_cases hd : dc < 0 ∨ 4 ≤ dc
  · have e1 : joinE s dc ep = 1 := if_pos hd
    have e2 : joinS s dc ep = s := by unfold joinS; rw [e1, if_neg (by decide)]
    rw [e1, e2]
    refine (join_arg dc ep w h hd).mono ?_
    rintro e w1 ⟨rfl, rfl⟩
    exact ⟨rfl, h, Kp.refl _ _ _⟩
  · obtain ⟨j, rfl⟩ := Int.eq_ofNat_of_zero_le (show 0 ≤ dc by omega)
    exact join_in j ep w h (by omega) hq
/-! ### Leave -/
set_option maxRecDepth 100000 in
set_option maxHeartbeats 1000000 in
theorem leave_arg {p q : Nat} {s : Tb} (dc ep : Int) (w : World) (h : stbA.T p q s w) (hd : dc < 0 ∨ 4 ≤ dc) : Calls Try.prog 21 #[.pointer (some ⟨p, 0, none⟩), .int .i64 dc, .int .i64 ep] w fun r w' => r = .returned (.int .i64 1) ∧ w' = w := by
  go_enter Try.func21, Try.ntmps21
  go_wp2_with (fail)
  refine (isdc_any dc _).mono ?_
  rintro e w1 ⟨rfl, rfl⟩
  rw [show isD dc = false from if_pos hd]
  clear hd
  go_wp2
  go_ret
  exact ⟨rfl, by trivial⟩
set_option maxRecDepth 100000 in
set_option maxHeartbeats 1000000 in
theorem leave_in {p q : Nat} {s : Tb} (j : Nat) (ep : Int) (w : World) (h : stbA.T p q s w) (hj : j < 4) (hq : s.eq) : Calls Try.prog 21 #[.pointer (some ⟨p, 0, none⟩), .int .i64 (j : Int), .int .i64 ep] w fun r w' => r = .returned (.int .i64 (leaveE s j ep)) ∧ stbA.T p q (leaveS s j ep) w' ∧ Kp p q w w' := by
  have hc := h.hcell hj
  have hd : ¬ ((j : Int) < 0 ∨ 4 ≤ (j : Int)) := by omega
  have hT := Lib.hid h
  obtain ⟨E, hE⟩ : ∃ E, leaveE s j ep = E := ⟨_, rfl⟩
  obtain ⟨S, hS⟩ : ∃ S, leaveS s j ep = S := ⟨_, rfl⟩
  rw [hE, hS]
  clear h
  by_cases hh : hb s.g j = false
  · have e1 : E = 7 := by unfold leaveE at hE; rw [if_neg hd, if_pos (show hb s.g ((j : Int)).toNat = false from hh)] at hE; exact hE.symm
    have e2 : S = s := by unfold leaveS at hS; rw [hE, e1, if_neg (by decide)] at hS; exact hS.symm
    subst e1
    subst e2
    rw [hh] at hc
    clear hE hS hh
    go_enter Try.func21, Try.ntmps21
    go_wp2_with (fail)
    refine (isdc_any _ _).mono ?_
    rintro e w1 ⟨rfl, rfl⟩
    rw [show isD (j : Int) = true from if_neg hd]
    clear hd
    go_wp2
    go_ret
    exact ⟨rfl, hT.out, Kp.refl _ _ _⟩
  · have hh' : hb s.g j = true := by simpa using hh
    have e1 : E = szE s.g ep := by unfold leaveE at hE; rw [if_neg hd, if_neg (show ¬ hb s.g ((j : Int)).toNat = false from hh)] at hE; exact hE.symm
    subst e1
    rw [hh'] at hc
    have kZ := Lib.hid (fun wx hx => resize_x (s := s) (p := p) (q := q) j false ep wx hx hj hq)
    by_cases hep : ep ≤ s.g.e
    · have e3 : szE s.g ep = 11 := if_pos hep
      have e2 : S = s := by unfold leaveS at hS; rw [hE, e3, if_neg (by decide)] at hS; exact hS.symm
      subst e2
      rw [e3] at kZ ⊢
      simp only [if_neg (show ¬ (11 : Int) = 0 by decide)] at kZ
      clear hE hS hh hh' e3
      go_enter Try.func21, Try.ntmps21
      go_wp2_with (fail)
      refine (isdc_any _ _).mono ?_
      rintro e w1 ⟨rfl, rfl⟩
      rw [show isD (j : Int) = true from if_neg hd]
      clear hd
      go_wp2_with (fail)
      refine (kZ.out _ hT.out).mono ?_
      rintro e w2 ⟨rfl, hT2, hK2⟩
      replace hT2 := Lib.hid hT2
      replace hK2 := Lib.hid hK2
      clear hc
      go_wp2
      go_ret
      exact ⟨rfl, hT2.out, hK2.out⟩
    · have e3 : szE s.g ep = 0 := if_neg hep
      have e2 : S = stl (szT s j false ep) := by unfold leaveS at hS; rw [hE, e3, if_pos rfl] at hS; exact hS.symm
      subst e2
      rw [e3] at kZ ⊢
      simp only [if_true] at kZ
      clear hE hS hh hh' e3
      go_enter Try.func21, Try.ntmps21
      go_wp2_with (fail)
      refine (isdc_any _ _).mono ?_
      rintro e w1 ⟨rfl, rfl⟩
      rw [show isD (j : Int) = true from if_neg hd]
      clear hd
      go_wp2_with (fail)
      refine (kZ.out _ hT.out).mono ?_
      rintro e w2 ⟨rfl, hT2, hK2⟩
      replace hT2 := Lib.hid hT2
      replace hK2 := Lib.hid hK2
      clear hc kZ hT
      go_wp2_with (fail)
      refine (settle_any _ hT2.out).mono ?_
      rintro e w3 ⟨rfl, hT3, hK3⟩
      have hT4 := Lib.hid hT3
      have hK4 := Lib.hid (hK2.out.trans hK3)
      clear hT3 hK3 hT2 hK2
      go_wp2
      go_ret
      exact ⟨rfl, hT4.out, hK4.out⟩
theorem leave_any {p q : Nat} {s : Tb} (dc ep : Int) (w : World) (h : stbA.T p q s w) (hq : s.eq) : Calls Try.prog 21 #[.pointer (some ⟨p, 0, none⟩), .int .i64 dc, .int .i64 ep] w fun r w' => r = .returned (.int .i64 (leaveE s dc ep)) ∧ stbA.T p q (leaveS s dc ep) w' ∧ Kp p q w w' := by
  by_cases hd : dc < 0 ∨ 4 ≤ dc
  · have e1 : leaveE s dc ep = 1 := if_pos hd
    have e2 : leaveS s dc ep = s := by unfold leaveS; rw [e1, if_neg (by decide)]
    rw [e1, e2]
    refine (leave_arg dc ep w h hd).mono ?_
    rintro e w1 ⟨rfl, rfl⟩
    exact ⟨rfl, h, Kp.refl _ _ _⟩
  · obtain ⟨j, rfl⟩ := Int.eq_ofNat_of_zero_le (show 0 ≤ dc by omega)
    exact leave_in j ep w h (by omega) hq
end Go.Proofs.Ytmhflemmkoiffaa.stbG
