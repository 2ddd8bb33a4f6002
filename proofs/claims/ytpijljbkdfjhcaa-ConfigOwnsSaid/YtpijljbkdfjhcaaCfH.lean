/- change and Apply: a configuration behind a command. -/
import Derived.Test.YtpijljbkdfjhcaaCfG
set_option linter.unusedVariables false
set_option maxRecDepth 100000
namespace Go.Proofs.Ytpijljbkdfjhcaa.cfH
open Go.ChangeShapes Go.WideShapes Go.ChangeAt Go.RowKit Go.Deep
open spnM spnA spnB spnD spnI spnJ spnK spnS cfA cfB cfC cfD cfE cfF cfG

abbrev dcN (c : Cm) : Nat := c.dc.toNat
/-- what is wrong with a command, what it comes to -/
def apE (s : Cf) (c : Cm) : Nat :=
  if ¬ (1 ≤ c.kind ∧ c.kind ≤ 6) then 5 else if ¬ (0 ≤ c.dc ∧ c.dc ≤ 3 ∧ c.dc < s.pool) then 12 else
  if c.kind = 1 then (if s.me (dcN c) = true then 8 else 0) else if s.me (dcN c) = false then 12 else
  if c.kind = 2 then (if cnt s = 1 then 13 else 0) else if c.kind = 6 then swE s c else rsE (s.ms (dcN c)) s.nodes c
def chM (s : Cf) (c : Cm) : Cf := if c.kind = 1 then addM s (dcN c) else if c.kind = 2 then remM s (dcN c) else if c.kind = 6 then swM s c else shpM s (dcN c) c
def apM (s : Cf) (c : Cm) : Cf := if apE s c = 0 then chM s c else zC
/-- the ways that a command may go -/
inductive Way (s : Cf) (c : Cm) : Prop where
  | kind (h : ¬ (1 ≤ c.kind ∧ c.kind ≤ 6)) (e : apE s c = 5)
  | dc (h : 1 ≤ c.kind ∧ c.kind ≤ 6) (h2 : ¬ (0 ≤ c.dc ∧ c.dc ≤ 3)) (e : apE s c = 12)
  | pool (h : 1 ≤ c.kind ∧ c.kind ≤ 6) (h2 : 0 ≤ c.dc ∧ c.dc ≤ 3) (h3 : s.pool ≤ c.dc) (e : apE s c = 12)
  | add (h : c.kind = 1) (h2 : 0 ≤ c.dc ∧ c.dc ≤ 3) (h3 : c.dc < s.pool) (e : apE s c = if s.me (dcN c) = true then 8 else 0) (e2 : chM s c = addM s (dcN c))
  | no (h : 2 ≤ c.kind ∧ c.kind ≤ 6) (h2 : 0 ≤ c.dc ∧ c.dc ≤ 3) (h3 : c.dc < s.pool) (h4 : s.me (dcN c) = false) (e : apE s c = 12)
  | rem (h : c.kind = 2) (h2 : 0 ≤ c.dc ∧ c.dc ≤ 3) (h3 : c.dc < s.pool) (h4 : s.me (dcN c) = true) (e : apE s c = if cnt s = 1 then 13 else 0) (e2 : chM s c = remM s (dcN c))
  | sw (h : c.kind = 6) (h2 : 0 ≤ c.dc ∧ c.dc ≤ 3) (h3 : c.dc < s.pool) (h4 : s.me (dcN c) = true) (e : apE s c = swE s c) (e2 : chM s c = swM s c)
  | shp (h : 3 ≤ c.kind ∧ c.kind ≤ 5) (h2 : 0 ≤ c.dc ∧ c.dc ≤ 3) (h3 : c.dc < s.pool) (h4 : s.me (dcN c) = true) (e : apE s c = rsE (s.ms (dcN c)) s.nodes c) (e2 : chM s c = shpM s (dcN c) c)
theorem way (s : Cf) (c : Cm) : Way s c := by
  by_cases h : 1 ≤ c.kind ∧ c.kind ≤ 6
  · by_cases h2 : 0 ≤ c.dc ∧ c.dc ≤ 3
    · by_cases h3 : c.dc < s.pool
      · have hg : ¬ ¬ (0 ≤ c.dc ∧ c.dc ≤ 3 ∧ c.dc < s.pool) := fun q => q ⟨h2.1, h2.2, h3⟩
        by_cases h1 : c.kind = 1
        · exact .add h1 h2 h3 (by unfold apE; rw [if_neg (fun q => q h), if_neg hg, if_pos h1]) (by unfold chM; rw [if_pos h1])
        · cases h4 : s.me (dcN c) with
          | false => exact .no ⟨by omega, h.2⟩ h2 h3 h4 (by unfold apE; rw [if_neg (fun q => q h), if_neg hg, if_neg h1, if_pos h4])
          | true =>
            have h4' : ¬ s.me (dcN c) = false := by rw [h4]; simp
            by_cases hk2 : c.kind = 2
            · exact .rem hk2 h2 h3 h4 (by unfold apE; rw [if_neg (fun q => q h), if_neg hg, if_neg h1, if_neg h4', if_pos hk2]) (by unfold chM; rw [if_neg h1, if_pos hk2])
            · by_cases hk6 : c.kind = 6
              · exact .sw hk6 h2 h3 h4 (by unfold apE; rw [if_neg (fun q => q h), if_neg hg, if_neg h1, if_neg h4', if_neg hk2, if_pos hk6]) (by unfold chM; rw [if_neg h1, if_neg hk2, if_pos hk6])
              · exact .shp ⟨by omega, by omega⟩ h2 h3 h4 (by unfold apE; rw [if_neg (fun q => q h), if_neg hg, if_neg h1, if_neg h4', if_neg hk2, if_neg hk6]) (by unfold chM; rw [if_neg h1, if_neg hk2, if_neg hk6])
      · exact .pool h h2 (by omega) (by unfold apE; rw [if_neg (fun q => q h), if_pos (fun q => h3 q.2.2)])
    · exact .dc h h2 (by unfold apE; rw [if_neg (fun q => q h), if_pos (fun q => h2 ⟨q.1, q.2.1⟩)])
  · exact .kind h (by unfold apE; rw [if_pos h])
theorem turn_good' (b base : Nat) (s : Cf) (a : Wh) (c : Cm) (w : World) (hd0 : 0 ≤ c.dc) (hd3 : c.dc ≤ 3) (hk : KC c) (hS : SB TS b s a w) (hG : GS w base s a) (hb : base ≤ b) (hbw : base ≤ w.heap.size) :
    Calls Try.prog 42 #[.pointer (some ⟨b, 0, none⟩), vC c] w fun e w' => e = .returned (.int .i64 (swE s c)) ∧ Bx TS b base (if swE s c = 0 then swM s c else s) w w' := by
  cases hm : may s c
  · have e : swE s c = 1 := by unfold swE; rw [if_pos hm]
    rw [e]
    exact turn_bad b base s a c w hk hS hG hb hbw hm
  · exact turn_good b base s a c w hd0 hd3 hk hS hG hb hbw hm
set_option maxHeartbeats 2000000 in
theorem change_any (b base : Nat) (s : Cf) (a : Wh) (c : Cm) (w : World) (hk : KC c) (hS : SB TS b s a w) (hG : GS w base s a) (hz : Sz s) (hb : base ≤ b) (hbw : base ≤ w.heap.size) :
    Calls Try.prog 31 #[.pointer (some ⟨b, 0, none⟩), vC c] w fun e w' => e = .returned (.int .i64 (apE s c)) ∧ Bx TS b base (if apE s c = 0 then chM s c else s) w w' := by
  have hB0 := al0 w (.cells (cC c) 43)
  obtain ⟨d0, d1, d2⟩ := cells6 w c 43
  obtain ⟨e0, e2, e3, e5⟩ := cells6b w c 43
  obtain ⟨W, hW⟩ : ∃ W, w.alloc (.cells (cC c) 43) = W := ⟨_, rfl⟩
  have hS1 := hS.below hB0
  have hG1 := hG.below hB0
  have hBw := (Below.refl base w).alloc hbw (.cells (cC c) 43)
  have hsz : base ≤ W.heap.size := by rw [← hW]; simp; omega
  rw [hW] at hS1 d0 d1 d2 e0 e2 e3 e5 hG1 hBw
  have k0 := hS1.c0
  have hX : Hid (∀ n, Bx TS b base s w (W.drewN n)) := Lib.hid fun n => Bx.drewN ⟨a, hS1, hG1, hBw⟩ n
  have hWf := Lib.hid hW
  have hf1 := Lib.hid (fun (w : World) => isFrom_any 1 6 c.kind w)
  have hf2 := Lib.hid (fun (w : World) => isFrom_any 0 3 c.dc w)
  have hS1' := hS1
  replace hS1 := Lib.hid hS1
  replace hG1 := Lib.hid hG1
  replace hBw := Lib.hid hBw
  replace hk := Lib.hid hk
  replace hz := Lib.hid hz
  clear hS hG hB0 hW
  obtain ⟨R, hR⟩ : ∃ R, (if apE s c = 0 then chM s c else s) = R := ⟨_, rfl⟩
  rw [hR]
  replace hR := Lib.hid hR
  obtain ⟨X, hE⟩ : ∃ X : Int, ((apE s c : Nat) : Int) = X := ⟨_, rfl⟩
  rw [hE]
  replace hE := Lib.hid hE
  cases way s c
  case kind h e =>
    have hb1 : (decide (1 ≤ c.kind) && decide (c.kind ≤ 6)) = false := by simp; omega
    rw [hb1] at hf1
    clear hb1
    clear hf2
    have he : X = 5 := by rw [← hE.out, e]; rfl
    have hr : R = s := by rw [← hR.out, if_neg (by rw [e]; omega)]
    subst he hr
    clear h e k0 hS1' d0 d1 d2 e2 e3 e5 hR hE
    go_enter Try.func31, Try.ntmps31
    go_wp2_with (fail)
    rw [hWf.out]
    go_wp2_with (first | (go_at_call 27; ((with_reducible refine (hf1.out _).mono ?_); rintro e w' ⟨rfl, rfl⟩)) | fail)
    go_ret
    exact ⟨rfl, hX.out 0⟩
  case dc h h2 e =>
    have hb1 : (decide (1 ≤ c.kind) && decide (c.kind ≤ 6)) = true := by simp; omega
    rw [hb1] at hf1
    clear hb1
    have hb2 : (decide (0 ≤ c.dc) && decide (c.dc ≤ 3)) = false := by simp; omega
    rw [hb2] at hf2
    clear hb2
    have hq2 := Lib.hid (fun n => quiet1 (hf2.out (W.drewN n)))
    clear hf2
    have he : X = 12 := by rw [← hE.out, e]; rfl
    have hr : R = s := by rw [← hR.out, if_neg (by rw [e]; omega)]
    subst he hr
    clear h h2 e hS1' d1 d2 e2 e3 e5 hR hE
    go_enter Try.func31, Try.ntmps31
    go_wp2_with (fail)
    rw [hWf.out]
    go_wp2_with (first | (go_at_call 27; ((with_reducible refine (hf1.out _).mono ?_); rintro e w' ⟨rfl, rfl⟩)) | fail)
    go_quiet (first | (go_at_call 27; first | (with_reducible exact hq2.out _) | go_must (exact (0 : Nat))) | fail)
    go_wp2
    go_ret
    exact ⟨rfl, hX.out _⟩
  case pool h h2 h3 e =>
    have hb1 : (decide (1 ≤ c.kind) && decide (c.kind ≤ 6)) = true := by simp; omega
    rw [hb1] at hf1
    clear hb1
    have hb2 : (decide (0 ≤ c.dc) && decide (c.dc ≤ 3)) = true := by simp; omega
    rw [hb2] at hf2
    clear hb2
    have hq2 := Lib.hid (fun n => quiet1 (hf2.out (W.drewN n)))
    clear hf2
    have he : X = 12 := by rw [← hE.out, e]; rfl
    have hr : R = s := by rw [← hR.out, if_neg (by rw [e]; omega)]
    subst he hr
    have hge : decide (R.pool ≤ c.dc) = true := decide_eq_true h3
    clear h h2 e hS1' d1 d2 e2 e3 e5 hR hE
    go_enter Try.func31, Try.ntmps31
    go_wp2_with (fail)
    rw [hWf.out]
    go_wp2_with (first | (go_at_call 27; ((with_reducible refine (hf1.out _).mono ?_); rintro e w' ⟨rfl, rfl⟩)) | fail)
    go_quiet (first | (go_at_call 27; first | (with_reducible exact hq2.out _) | go_must (exact (0 : Nat))) | fail)
    go_wp2
    go_ret
    exact ⟨rfl, hX.out _⟩
  case add h h2 h3 e q =>
    have hb1 : (decide (1 ≤ c.kind) && decide (c.kind ≤ 6)) = true := by simp; omega
    rw [hb1] at hf1
    clear hb1
    have hb2 : (decide (0 ≤ c.dc) && decide (c.dc ≤ 3)) = true := by simp; omega
    rw [hb2] at hf2
    clear hb2
    have hq2 := Lib.hid (fun n => quiet1 (hf2.out (W.drewN n)))
    clear hf2
    have hge : decide (s.pool ≤ c.dc) = false := decide_eq_false (by omega)
    have hj4 : dcN c < 4 := by unfold dcN; omega
    have hj0 : (0 : Int) ≤ c.dc := h2.1
    have hj1 : c.dc < 4 := by omega
    have hj2 : c.dc = (dcN c : Int) := by unfold dcN; omega
    have t1 : (c.kind == 1) = true := by rw [beq_iff_eq]; exact h
    have hc : Hid (∀ n, Calls Try.prog 40 #[.pointer (some ⟨b, 0, none⟩), .int .i64 c.dc] (W.drewN n) fun e w' => e = .returned (.int .i64 X) ∧ Bx TS b base R w w') := Lib.hid (fun n => by
      have hcall := add_any b base (dcN c) s a (W.drewN n) hj4 hS1.out (gs_drewN hG1.out n) hb hsz
      rw [← hj2] at hcall
      refine hcall.mono ?_
      rintro e w' ⟨rfl, hq⟩
      refine ⟨by rw [← hE.out, ‹apE s c = _›]; split <;> rfl, Bx.trans ?_ (below_drewN' hBw.out n)⟩
      rw [← hR.out, ‹apE s c = _›, q]
      cases hme : s.me (dcN c)
      · rw [hme] at hq; exact hq
      · rw [hme] at hq; exact hq)
    clear h h2 h3 e q hS1' d1 d2 e2 e3 e5 hj2 hX hR hE
    go_enter Try.func31, Try.ntmps31
    go_wp2_with (fail)
    rw [hWf.out]
    go_wp2_with (first | (go_at_call 27; ((with_reducible refine (hf1.out _).mono ?_); rintro e w' ⟨rfl, rfl⟩)) | fail)
    go_quiet (first | (go_at_call 27; first | (with_reducible exact hq2.out _) | go_must (exact (0 : Nat))) | fail)
    go_wp2_with (first | (go_at_call 40; ((with_reducible refine (hc.out _).mono ?_); rintro e w' ⟨rfl, hq⟩; have hq' := Lib.hid hq; clear hq)) | fail)
    go_ret
    exact ⟨rfl, hq'.out⟩
  case no h h2 h3 h4 e =>
    have hb1 : (decide (1 ≤ c.kind) && decide (c.kind ≤ 6)) = true := by simp; omega
    rw [hb1] at hf1
    clear hb1
    have hb2 : (decide (0 ≤ c.dc) && decide (c.dc ≤ 3)) = true := by simp; omega
    rw [hb2] at hf2
    clear hb2
    have hq2 := Lib.hid (fun n => quiet1 (hf2.out (W.drewN n)))
    clear hf2
    have hge : decide (s.pool ≤ c.dc) = false := decide_eq_false (by omega)
    have hj4 : dcN c < 4 := by unfold dcN; omega
    have hj0 : (0 : Int) ≤ c.dc := h2.1
    have hj1 : c.dc < 4 := by omega
    have hj2 : c.dc = (dcN c : Int) := by unfold dcN; omega
    have t1 : (c.kind == 1) = false := by rw [beq_eq_false_iff_ne]; omega
    have km := hS1'.me hj4
    rw [h4] at km
    have hj3 : c.dc.toNat = dcN c := rfl
    have he : X = 12 := by rw [← hE.out, e]; rfl
    have hr : R = s := by rw [← hR.out, if_neg (by rw [e]; omega)]
    subst he hr
    clear h h2 h3 h4 e hS1' d1 d2 e2 e3 e5 hj2 hR hE
    generalize dcN c = jn at *
    go_enter Try.func31, Try.ntmps31
    go_wp2_with (fail)
    rw [hWf.out]
    go_wp2_with (first | (go_at_call 27; ((with_reducible refine (hf1.out _).mono ?_); rintro e w' ⟨rfl, rfl⟩)) | fail)
    go_quiet (first | (go_at_call 27; first | (with_reducible exact hq2.out _) | go_must (exact (0 : Nat))) | fail)
    clear hge
    go_wp2_with (fail)
    go_quiet (fail)
    rw [World.drewN_drewN]
    go_wp2
    go_ret
    exact ⟨rfl, hX.out _⟩
  case rem h h2 h3 h4 e q =>
    have hb1 : (decide (1 ≤ c.kind) && decide (c.kind ≤ 6)) = true := by simp; omega
    rw [hb1] at hf1
    clear hb1
    have hb2 : (decide (0 ≤ c.dc) && decide (c.dc ≤ 3)) = true := by simp; omega
    rw [hb2] at hf2
    clear hb2
    have hq2 := Lib.hid (fun n => quiet1 (hf2.out (W.drewN n)))
    clear hf2
    have hge : decide (s.pool ≤ c.dc) = false := decide_eq_false (by omega)
    have hj4 : dcN c < 4 := by unfold dcN; omega
    have hj0 : (0 : Int) ≤ c.dc := h2.1
    have hj1 : c.dc < 4 := by omega
    have hj2 : c.dc = (dcN c : Int) := by unfold dcN; omega
    have t1 : (c.kind == 1) = false := by rw [beq_eq_false_iff_ne]; omega
    have t2 : (c.kind == 2) = true := by rw [beq_iff_eq]; exact h
    have t6 : (c.kind == 6) = false := by rw [beq_eq_false_iff_ne]; omega
    have km := hS1'.me hj4
    rw [h4] at km
    have hj3 : c.dc.toNat = dcN c := rfl
    have hc : Hid (∀ n, Calls Try.prog 41 #[.pointer (some ⟨b, 0, none⟩), .int .i64 c.dc] (W.drewN n) fun e w' => e = .returned (.int .i64 X) ∧ Bx TS b base R w w') := Lib.hid (fun n => by
      have hcall := remove_any b base (dcN c) s a (W.drewN n) hj4 hS1.out (gs_drewN hG1.out n) hb hsz
      rw [← hj2] at hcall
      refine hcall.mono ?_
      rintro e w' ⟨rfl, hq⟩
      refine ⟨by rw [← hE.out, ‹apE s c = _›]; split <;> rfl, Bx.trans ?_ (below_drewN' hBw.out n)⟩
      rw [← hR.out, ‹apE s c = _›, q]
      by_cases hn : cnt s = 1
      · rw [if_pos hn] at hq ⊢; exact hq
      · rw [if_neg hn] at hq ⊢; exact hq)
    clear h h2 h3 h4 e q hS1' hj2 hX hR hE
    generalize dcN c = jn at *
    go_enter Try.func31, Try.ntmps31
    go_wp2_with (fail)
    rw [hWf.out]
    go_wp2_with (first | (go_at_call 27; ((with_reducible refine (hf1.out _).mono ?_); rintro e w' ⟨rfl, rfl⟩)) | fail)
    go_quiet (first | (go_at_call 27; first | (with_reducible exact hq2.out _) | go_must (exact (0 : Nat))) | fail)
    clear hge
    go_wp2_with (fail)
    go_quiet (fail)
    rw [World.drewN_drewN]
    go_wp2_with (first | (go_at_call 41; ((with_reducible refine (hc.out _).mono ?_); rintro e w' ⟨rfl, hq⟩; have hq' := Lib.hid hq; clear hq)) | fail)
    go_ret
    exact ⟨rfl, hq'.out⟩
  case sw h h2 h3 h4 e q =>
    have hb1 : (decide (1 ≤ c.kind) && decide (c.kind ≤ 6)) = true := by simp; omega
    rw [hb1] at hf1
    clear hb1
    have hb2 : (decide (0 ≤ c.dc) && decide (c.dc ≤ 3)) = true := by simp; omega
    rw [hb2] at hf2
    clear hb2
    have hq2 := Lib.hid (fun n => quiet1 (hf2.out (W.drewN n)))
    clear hf2
    have hge : decide (s.pool ≤ c.dc) = false := decide_eq_false (by omega)
    have hj4 : dcN c < 4 := by unfold dcN; omega
    have hj0 : (0 : Int) ≤ c.dc := h2.1
    have hj1 : c.dc < 4 := by omega
    have hj2 : c.dc = (dcN c : Int) := by unfold dcN; omega
    have t1 : (c.kind == 1) = false := by rw [beq_eq_false_iff_ne]; omega
    have t2 : (c.kind == 2) = false := by rw [beq_eq_false_iff_ne]; omega
    have t6 : (c.kind == 6) = true := by rw [beq_iff_eq]; exact h
    have km := hS1'.me hj4
    rw [h4] at km
    have hj3 : c.dc.toNat = dcN c := rfl
    have hc : Hid (∀ n, Calls Try.prog 42 #[.pointer (some ⟨b, 0, none⟩), vC c] (W.drewN n) fun e w' => e = .returned (.int .i64 X) ∧ Bx TS b base R w w') := Lib.hid (fun n => by
      have hcall := turn_good' b base s a c (W.drewN n) hj0 (by omega) hk.out hS1.out (gs_drewN hG1.out n) hb hsz
      refine hcall.mono ?_
      rintro e w' ⟨rfl, hq⟩
      refine ⟨by rw [← hE.out, ‹apE s c = _›], Bx.trans ?_ (below_drewN' hBw.out n)⟩
      rw [← hR.out, ‹apE s c = _›, q]
      exact hq)
    clear h h2 h3 h4 e q hS1' hj2 hX hR hE
    generalize dcN c = jn at *
    go_enter Try.func31, Try.ntmps31
    go_wp2_with (fail)
    rw [hWf.out]
    go_wp2_with (first | (go_at_call 27; ((with_reducible refine (hf1.out _).mono ?_); rintro e w' ⟨rfl, rfl⟩)) | fail)
    go_quiet (first | (go_at_call 27; first | (with_reducible exact hq2.out _) | go_must (exact (0 : Nat))) | fail)
    clear hge
    go_wp2_with (fail)
    go_quiet (fail)
    rw [World.drewN_drewN]
    go_wp2_with (first | (go_at_call 42; ((with_reducible refine (hc.out _).mono ?_); rintro e w' ⟨rfl, hq⟩; have hq' := Lib.hid hq; clear hq)) | fail)
    go_ret
    exact ⟨rfl, hq'.out⟩
  case shp h h2 h3 h4 e q =>
    have hb1 : (decide (1 ≤ c.kind) && decide (c.kind ≤ 6)) = true := by simp; omega
    rw [hb1] at hf1
    clear hb1
    have hb2 : (decide (0 ≤ c.dc) && decide (c.dc ≤ 3)) = true := by simp; omega
    rw [hb2] at hf2
    clear hb2
    have hq2 := Lib.hid (fun n => quiet1 (hf2.out (W.drewN n)))
    clear hf2
    have hge : decide (s.pool ≤ c.dc) = false := decide_eq_false (by omega)
    have hj4 : dcN c < 4 := by unfold dcN; omega
    have hj0 : (0 : Int) ≤ c.dc := h2.1
    have hj1 : c.dc < 4 := by omega
    have hj2 : c.dc = (dcN c : Int) := by unfold dcN; omega
    have t1 : (c.kind == 1) = false := by rw [beq_eq_false_iff_ne]; omega
    have t2 : (c.kind == 2) = false := by rw [beq_eq_false_iff_ne]; omega
    have t6 : (c.kind == 6) = false := by rw [beq_eq_false_iff_ne]; omega
    have km := hS1'.me hj4
    rw [h4] at km
    have hj3 : c.dc.toNat = dcN c := rfl
    have hc : Hid (∀ n, Calls Try.prog 43 #[.pointer (some ⟨b, 0, none⟩), vC c] (W.drewN n) fun e w' => e = .returned (.int .i64 X) ∧ Bx TS b base R w w') := Lib.hid (fun n => by
      have hcall := reshape_any b base (dcN c) s a c (W.drewN n) hj4 hj2 hS1.out (gs_drewN hG1.out n) hz.out hb hsz
      refine hcall.mono ?_
      rintro e w' ⟨rfl, hq⟩
      refine ⟨by rw [← hE.out, ‹apE s c = _›], Bx.trans ?_ (below_drewN' hBw.out n)⟩
      rw [← hR.out, ‹apE s c = _›, q]
      exact hq)
    clear h h2 h3 h4 e q hS1' hj2 hX hR hE
    generalize dcN c = jn at *
    go_enter Try.func31, Try.ntmps31
    go_wp2_with (fail)
    rw [hWf.out]
    go_wp2_with (first | (go_at_call 27; ((with_reducible refine (hf1.out _).mono ?_); rintro e w' ⟨rfl, rfl⟩)) | fail)
    go_quiet (first | (go_at_call 27; first | (with_reducible exact hq2.out _) | go_must (exact (0 : Nat))) | fail)
    clear hge
    go_wp2_with (fail)
    go_quiet (fail)
    rw [World.drewN_drewN]
    go_wp2_with (first | (go_at_call 43; ((with_reducible refine (hc.out _).mono ?_); rintro e w' ⟨rfl, hq⟩; have hq' := Lib.hid hq; clear hq)) | fail)
    go_ret
    exact ⟨rfl, hq'.out⟩
end Go.Proofs.Ytpijljbkdfjhcaa.cfH
