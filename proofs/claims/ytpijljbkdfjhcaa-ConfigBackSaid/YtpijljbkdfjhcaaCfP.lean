/- The document's speak. -/
import Derived.Test.YtpijljbkdfjhcaaCfO
set_option linter.unusedVariables false
set_option maxRecDepth 100000
namespace Go.Proofs.Ytpijljbkdfjhcaa.cfP
open Go.ChangeShapes Go.WideShapes Go.ChangeAt Go.RowKit Go.Deep
open spnM spnA spnB spnD spnI spnJ spnK spnS cfA cfB cfC cfD cfE cfF cfG cfH cfI cfJ cfK cfR cfL cfM cfN cfO
attribute [local go_sem ↓ high] op_ldS op_ldR op_ldM ex_ldS ex_ldR ex_ldM

def swR (s : Cf) (c : Cm) : Cf := if swE s c = 0 then swM s c else zC
def swA (s : Cf) (a : Wh) (c : Cm) : Wh := if swE s c = 0 then a else zA
/-- the ways of a switch -/
inductive SWay (s : Cf) (c : Cm) : Prop where
  | bad (h : c.node < 0 ∨ (¬ c.node < 0 ∧ s.nodes < c.node) ∨ (¬ c.node < 0 ∧ ¬ s.nodes < c.node ∧ 4 < c.node) ∨ (¬ c.node < 0 ∧ ¬ s.nodes < c.node ∧ ¬ 4 < c.node ∧ c.mode < 1) ∨ (¬ c.node < 0 ∧ ¬ s.nodes < c.node ∧ ¬ 4 < c.node ∧ ¬ c.mode < 1 ∧ 3 < c.mode)) (e : swE s c = 1)
  | same (h : may s c = true) (h2 : s.mo (plc c) = c.mode) (e : swE s c = 8)
  | step3 (h : may s c = true) (h2 : s.mo (plc c) = 1) (h3 : c.mode = 3) (e : swE s c = 15)
  | step1 (h : may s c = true) (h2 : s.mo (plc c) = 3) (h3 : c.mode = 1) (e : swE s c = 15)
  | some3 (h : may s c = true) (h2 : s.mo (plc c) ≠ 1) (h0 : s.mo (plc c) ≠ 3) (h3 : c.mode = 3) (h4 : anyM s.mo 1 = true) (e : swE s c = 15)
  | some1 (h : may s c = true) (h2 : s.mo (plc c) ≠ 3) (h0 : s.mo (plc c) ≠ 1) (h3 : c.mode = 1) (h4 : anyM s.mo 3 = true) (e : swE s c = 15)
  | ok3 (h : may s c = true) (h2 : s.mo (plc c) ≠ 1) (h0 : s.mo (plc c) ≠ 3) (h3 : c.mode = 3) (h4 : anyM s.mo 1 = false) (e : swE s c = 0)
  | ok1 (h : may s c = true) (h2 : s.mo (plc c) ≠ 3) (h0 : s.mo (plc c) ≠ 1) (h3 : c.mode = 1) (h4 : anyM s.mo 3 = false) (e : swE s c = 0)
  | ok2 (h : may s c = true) (h2 : s.mo (plc c) ≠ 2) (h3 : c.mode = 2) (e : swE s c = 0)
theorem sway (s : Cf) (c : Cm) (h0 : 0 ≤ c.dc) (h3 : c.dc ≤ 3) : SWay s c := by
  cases hm : may s c
  · refine .bad ?_ (by unfold swE; rw [if_pos hm])
    by_cases h : may s c = true
    · rw [hm] at h; cases h
    · unfold may at h
      simp only [Bool.and_eq_true, decide_eq_true_eq] at h
      omega
  · obtain ⟨n0, n1, n2, n3, n4⟩ := may_yes hm
    have hp : plc c < 21 := by unfold plc; omega
    have hf : ¬ may s c = false := by rw [hm]; simp
    by_cases hy : s.mo (plc c) = c.mode
    · exact .same hm hy (by unfold swE; rw [if_neg hf, if_pos hy])
    · have hE : swE s c = if apart s.mo c.mode = true then 15 else 0 := by unfold swE; rw [if_neg hf, if_neg hy]
      have : c.mode = 1 ∨ c.mode = 2 ∨ c.mode = 3 := by omega
      rcases this with h1 | h2 | h3
      · have ha : apart s.mo c.mode = anyM s.mo 3 := by unfold apart; rw [if_pos h1]
        by_cases hq : s.mo (plc c) = 3
        · exact .step1 hm hq h1 (by rw [hE, ha, (anyM_iff s.mo 3).2 ⟨_, hp, hq⟩]; rfl)
        · cases hz : anyM s.mo 3
          · exact .ok1 hm hq (by rw [h1] at hy; exact hy) h1 hz (by rw [hE, ha, hz]; rfl)
          · exact .some1 hm hq (by rw [h1] at hy; exact hy) h1 hz (by rw [hE, ha, hz]; rfl)
      · have ha : apart s.mo c.mode = false := by unfold apart; rw [if_neg (by omega), if_neg (by omega)]
        exact .ok2 hm (by rw [h2] at hy; exact hy) h2 (by rw [hE, ha]; rfl)
      · have ha : apart s.mo c.mode = anyM s.mo 1 := by unfold apart; rw [if_neg (by omega), if_pos h3]
        by_cases hq : s.mo (plc c) = 1
        · exact .step3 hm hq h3 (by rw [hE, ha, (anyM_iff s.mo 1).2 ⟨_, hp, hq⟩]; rfl)
        · cases hz : anyM s.mo 1
          · exact .ok3 hm hq (by rw [h3] at hy; exact hy) h3 hz (by rw [hE, ha, hz]; rfl)
          · exact .some3 hm hq (by rw [h3] at hy; exact hy) h3 hz (by rw [hE, ha, hz]; rfl)
set_option maxHeartbeats 4000000 in
theorem rspeak_any (s : Cf) (a : Wh) (c : Cm) (w : World) (hd0 : 0 ≤ c.dc) (hd3 : c.dc ≤ 3) : Calls Try.prog 33 #[.agg (cS s a), vC c] w fun e w' => e = .returned (.tuple #[.agg (cS (swR s c) (swA s a c)), .int .i64 (swE s c)]) ∧ Below w.heap.size w w' := by
  have hB1 := al0 w (.cells (cS s a) TR)
  have hS1 := SB.new TR s a w
  obtain ⟨W1, hW1⟩ : ∃ W1, w.alloc (.cells (cS s a) TR) = W1 := ⟨_, rfl⟩
  have hz1 : W1.heap.size = w.heap.size + 1 := by rw [← hW1]; simp
  rw [hW1] at hB1 hS1
  have hB2 := al0 W1 (.cells (cC c) 43)
  obtain ⟨d0, d1, d2⟩ := cells6 W1 c 43
  obtain ⟨W2, hW2⟩ : ∃ W2, W1.alloc (.cells (cC c) 43) = W2 := ⟨_, rfl⟩
  have hz2 : W2.heap.size = w.heap.size + 1 + 1 := by rw [← hW2]; simp [hz1]
  rw [hW2] at hB2 d0 d1 d2
  rw [hz1] at d0 d1 d2
  have hB3 := al0 W2 (.cells #[.int .i64 0, .int .i64 0, .bool false, .bool false, .bool false, .bool false, .slice none 0 0, .slice none 0 0, .slice none 0 0, .slice none 0 0, .slice none 0 0, .slice none 0 0, .slice none 0 0, .slice none 0 0, .int .i64 0, .int .i64 0, .int .i64 0, .int .i64 0, .int .i64 0, .int .i64 0, .int .i64 0, .int .i64 0, .int .i64 0, .int .i64 0, .int .i64 0, .int .i64 0, .int .i64 0, .int .i64 0, .int .i64 0, .int .i64 0, .int .i64 0, .int .i64 0, .int .i64 0, .int .i64 0, .int .i64 0] TR)
  have hS3 : SB TR W2.heap.size zC zA (W2.alloc (.cells #[.int .i64 0, .int .i64 0, .bool false, .bool false, .bool false, .bool false, .slice none 0 0, .slice none 0 0, .slice none 0 0, .slice none 0 0, .slice none 0 0, .slice none 0 0, .slice none 0 0, .slice none 0 0, .int .i64 0, .int .i64 0, .int .i64 0, .int .i64 0, .int .i64 0, .int .i64 0, .int .i64 0, .int .i64 0, .int .i64 0, .int .i64 0, .int .i64 0, .int .i64 0, .int .i64 0, .int .i64 0, .int .i64 0, .int .i64 0, .int .i64 0, .int .i64 0, .int .i64 0, .int .i64 0, .int .i64 0] TR)) := SB.new TR zC zA W2
  obtain ⟨W, hW3⟩ : ∃ W3, W2.alloc (.cells #[.int .i64 0, .int .i64 0, .bool false, .bool false, .bool false, .bool false, .slice none 0 0, .slice none 0 0, .slice none 0 0, .slice none 0 0, .slice none 0 0, .slice none 0 0, .slice none 0 0, .slice none 0 0, .int .i64 0, .int .i64 0, .int .i64 0, .int .i64 0, .int .i64 0, .int .i64 0, .int .i64 0, .int .i64 0, .int .i64 0, .int .i64 0, .int .i64 0, .int .i64 0, .int .i64 0, .int .i64 0, .int .i64 0, .int .i64 0, .int .i64 0, .int .i64 0, .int .i64 0, .int .i64 0, .int .i64 0] TR) = W3 := ⟨_, rfl⟩
  rw [hW3] at hB3 hS3
  rw [hz2] at hS3
  have hB03 := trans0 (trans0 hB1 hB2) hB3
  have hS := (hS1.below hB2).below hB3
  have hWf : Hid (((w.alloc (.cells (cS s a) TR)).alloc (.cells (cC c) 43)).alloc (.cells #[.int .i64 0, .int .i64 0, .bool false, .bool false, .bool false, .bool false, .slice none 0 0, .slice none 0 0, .slice none 0 0, .slice none 0 0, .slice none 0 0, .slice none 0 0, .slice none 0 0, .slice none 0 0, .int .i64 0, .int .i64 0, .int .i64 0, .int .i64 0, .int .i64 0, .int .i64 0, .int .i64 0, .int .i64 0, .int .i64 0, .int .i64 0, .int .i64 0, .int .i64 0, .int .i64 0, .int .i64 0, .int .i64 0, .int .i64 0, .int .i64 0, .int .i64 0, .int .i64 0, .int .i64 0, .int .i64 0] TR) = W) := Lib.hid (by rw [hW1, hW2, hW3])
  have D0 := keep_cell hB3 d0
  have D1 := keep_cell hB3 d1
  have D2 := keep_cell hB3 d2
  have k1 := hS.c1
  have hgt := Lib.hid (fun w => gate_any c.dc w hd0 hd3)
  have hpw : Hid (may s c = true → plc c < 21 ∧ (1 + 5 * c.dc + c.node : Int) = (plc c : Int)) := Lib.hid fun h => by
    obtain ⟨n0, n1, n2, n3, n4⟩ := may_yes h
    unfold plc; omega
  have hle := Lib.hid (show w.heap.size ≤ w.heap.size + 1 + 1 by omega)
  obtain ⟨X, hE⟩ : ∃ X : Int, ((swE s c : Nat) : Int) = X := ⟨_, rfl⟩
  obtain ⟨R, hR⟩ : ∃ R, swR s c = R := ⟨_, rfl⟩
  obtain ⟨A, hA⟩ : ∃ A, swA s a c = A := ⟨_, rfl⟩
  rw [hE, hR, hA]
  unfold swR at hR
  unfold swA at hA
  replace hB03 := Lib.hid hB03
  replace hS3 := Lib.hid hS3
  have hS' := Lib.hid hS
  clear hB1 hS1 hW1 hz1 hB2 d0 d1 d2 hW2 hz2 hB3 hW3 hS
  cases sway s c hd0 hd3
  case bad h e =>
    have he : X = 1 := by rw [← hE, e]; rfl
    have hr : R = zC := by rw [← hR, if_neg (by rw [e]; omega)]
    have ha : A = zA := by rw [← hA, if_neg (by rw [e]; omega)]
    subst he hr ha
    clear hE hR hA e
    clear hS' hpw
    rcases h with h1 | ⟨h1, h2⟩ | ⟨h1, h2, h3⟩ | ⟨h1, h2, h3, h4⟩ | ⟨h1, h2, h3, h4, h5⟩
    all_goals
      have hZ := hS3
      have hBk := hB03
      go_enter Try.func33, Try.ntmps33
      go_upto_region 1 with (fail)
      rw [hWf.out]
      clear hWf
      go_wp2_with (first | (refine st_put rfl TR _ _ rfl (w.heap.size + 1 + 1) zC zA rfl rfl hZ.out (.inr rfl) ?_; intro W9 hS9 hB9 hG9 hz9; have hs9 := Lib.hid hS9; have hb9 := Lib.hid (hB9 w.heap.size hle.out); clear hS9 hB9 hG9 hz9) | fail)
      exact bodyPost_ret (v := .tuple #[.agg (cS zC zA), .int .i64 1]) (st_res2 rfl _ _ (w.heap.size + 1 + 1) _ rfl rfl hs9.out (.inr rfl)) rfl ⟨rfl, hBk.out.trans hb9.out⟩
  case same h h2 e =>
    have he : X = 8 := by rw [← hE, e]; rfl
    have hr : R = zC := by rw [← hR, if_neg (by rw [e]; omega)]
    have ha : A = zA := by rw [← hA, if_neg (by rw [e]; omega)]
    subst he hr ha
    clear hE hR hA e
    obtain ⟨hp, hpe⟩ := hpw.out h
    obtain ⟨n0, n1, n2, n3, n4⟩ := may_yes h
    have hmo := hS'.out.mo hp
    have fz := hS'.out.fz
    have i0 : ¬ c.node < 0 := by omega
    have i1 : ¬ s.nodes < c.node := by omega
    have i2 : ¬ 4 < c.node := by omega
    have i3 : ¬ c.mode < 1 := by omega
    have i4 : ¬ 3 < c.mode := by omega
    have hp0 : (0 : Int) ≤ (plc c : Int) := by omega
    have hp1 : (plc c : Int) < 21 := by omega
    have hw1 : IntKind.i64.wrap (1 + 5 * c.dc + c.node) = (plc c : Int) := by rw [wrap_in _ (by omega) (by omega)]; exact hpe
    have t1 : ((s.mo (plc c)) == c.mode) = true := by rw [beq_iff_eq]; exact h2
    clear h2
    clear h n0 n1 n2 n3 n4 hpe hpw hd0 hd3
    go_enter Try.func33, Try.ntmps33
    go_upto_region 1 with (fail)
    rw [hWf.out]
    clear hWf
    go_wp2_with (fail)
    go_quiet (first | (go_at_call 44; exact quiet1 (hgt.out _)) | fail)
    clear hw1 i0 i1 i2 i3 i4 k1 hgt
    go_wp2_with (fail)
    go_quiet (fail)
    rw [World.drewN_drewN]
    generalize _ + nq = nn
    obtain ⟨V, hV⟩ : ∃ V, W.drewN nn = V := ⟨_, rfl⟩
    have hS4 : SB TR w.heap.size s a V := by rw [← hV]; exact hS'.out
    have hZ : Hid (SB TR (w.heap.size + 1 + 1) zC zA V) := Lib.hid (by rw [← hV]; exact hS3.out)
    have hBk : Hid (Below w.heap.size w V) := Lib.hid (by rw [← hV]; exact below_drewN' hB03.out nn)
    have E0 : V.cell? ⟨w.heap.size + 1, 1, none⟩ = some (.int .i64 c.dc) := by rw [← hV]; exact D0
    have E2 : V.cell? ⟨w.heap.size + 1, 4, none⟩ = some (.int .i64 c.mode) := by rw [← hV]; exact D2
    rw [hV]
    clear hV hB03 hS3 hS' D0 D1 D2 hmo fz
    clear hS4
    go_wp2_with (first | (refine st_put rfl TR _ _ rfl (w.heap.size + 1 + 1) zC zA rfl rfl hZ.out (.inr rfl) ?_; intro W9 hS9 hB9 hG9 hz9; have hs9 := Lib.hid hS9; have hb9 := Lib.hid (hB9 w.heap.size hle.out); clear hS9 hB9 hG9 hz9) | fail)
    exact bodyPost_ret (v := .tuple #[.agg (cS zC zA), .int .i64 8]) (st_res2 rfl _ _ (w.heap.size + 1 + 1) _ rfl rfl hs9.out (.inr rfl)) rfl ⟨rfl, hBk.out.trans hb9.out⟩
  case step3 h h2 h3 e =>
    have he : X = 15 := by rw [← hE, e]; rfl
    have hr : R = zC := by rw [← hR, if_neg (by rw [e]; omega)]
    have ha : A = zA := by rw [← hA, if_neg (by rw [e]; omega)]
    subst he hr ha
    clear hE hR hA e
    obtain ⟨hp, hpe⟩ := hpw.out h
    obtain ⟨n0, n1, n2, n3, n4⟩ := may_yes h
    have hmo := hS'.out.mo hp
    have fz := hS'.out.fz
    have i0 : ¬ c.node < 0 := by omega
    have i1 : ¬ s.nodes < c.node := by omega
    have i2 : ¬ 4 < c.node := by omega
    have i3 : ¬ c.mode < 1 := by omega
    have i4 : ¬ 3 < c.mode := by omega
    have hp0 : (0 : Int) ≤ (plc c : Int) := by omega
    have hp1 : (plc c : Int) < 21 := by omega
    have hw1 : IntKind.i64.wrap (1 + 5 * c.dc + c.node) = (plc c : Int) := by rw [wrap_in _ (by omega) (by omega)]; exact hpe
    have t1 : ((s.mo (plc c)) == c.mode) = false := by rw [beq_eq_false_iff_ne]; omega
    have t2 : ((s.mo (plc c)) == 1) = true := by rw [beq_iff_eq]; exact h2
    have t3 : (c.mode == 3) = true := by rw [beq_iff_eq]; exact h3
    clear h2 h3
    clear h n0 n1 n2 n3 n4 hpe hpw hd0 hd3
    go_enter Try.func33, Try.ntmps33
    go_upto_region 1 with (fail)
    rw [hWf.out]
    clear hWf
    go_wp2_with (fail)
    go_quiet (first | (go_at_call 44; exact quiet1 (hgt.out _)) | fail)
    clear hw1 i0 i1 i2 i3 i4 k1 hgt
    go_wp2_with (fail)
    go_quiet (fail)
    rw [World.drewN_drewN]
    generalize _ + nq = nn
    obtain ⟨V, hV⟩ : ∃ V, W.drewN nn = V := ⟨_, rfl⟩
    have hS4 : SB TR w.heap.size s a V := by rw [← hV]; exact hS'.out
    have hZ : Hid (SB TR (w.heap.size + 1 + 1) zC zA V) := Lib.hid (by rw [← hV]; exact hS3.out)
    have hBk : Hid (Below w.heap.size w V) := Lib.hid (by rw [← hV]; exact below_drewN' hB03.out nn)
    have E0 : V.cell? ⟨w.heap.size + 1, 1, none⟩ = some (.int .i64 c.dc) := by rw [← hV]; exact D0
    have E2 : V.cell? ⟨w.heap.size + 1, 4, none⟩ = some (.int .i64 c.mode) := by rw [← hV]; exact D2
    rw [hV]
    clear hV hB03 hS3 hS' D0 D1 D2 hmo fz
    have hmo := hS4.mo hp
    go_wp2_with (first | (refine st_put rfl TR _ _ rfl (w.heap.size + 1 + 1) zC zA rfl rfl hZ.out (.inr rfl) ?_; intro W9 hS9 hB9 hG9 hz9; have hs9 := Lib.hid hS9; have hb9 := Lib.hid (hB9 w.heap.size hle.out); clear hS9 hB9 hG9 hz9) | fail)
    exact bodyPost_ret (v := .tuple #[.agg (cS zC zA), .int .i64 15]) (st_res2 rfl _ _ (w.heap.size + 1 + 1) _ rfl rfl hs9.out (.inr rfl)) rfl ⟨rfl, hBk.out.trans hb9.out⟩
  case step1 h h2 h3 e =>
    have he : X = 15 := by rw [← hE, e]; rfl
    have hr : R = zC := by rw [← hR, if_neg (by rw [e]; omega)]
    have ha : A = zA := by rw [← hA, if_neg (by rw [e]; omega)]
    subst he hr ha
    clear hE hR hA e
    obtain ⟨hp, hpe⟩ := hpw.out h
    obtain ⟨n0, n1, n2, n3, n4⟩ := may_yes h
    have hmo := hS'.out.mo hp
    have fz := hS'.out.fz
    have i0 : ¬ c.node < 0 := by omega
    have i1 : ¬ s.nodes < c.node := by omega
    have i2 : ¬ 4 < c.node := by omega
    have i3 : ¬ c.mode < 1 := by omega
    have i4 : ¬ 3 < c.mode := by omega
    have hp0 : (0 : Int) ≤ (plc c : Int) := by omega
    have hp1 : (plc c : Int) < 21 := by omega
    have hw1 : IntKind.i64.wrap (1 + 5 * c.dc + c.node) = (plc c : Int) := by rw [wrap_in _ (by omega) (by omega)]; exact hpe
    have t1 : ((s.mo (plc c)) == c.mode) = false := by rw [beq_eq_false_iff_ne]; omega
    have t2 : ((s.mo (plc c)) == 1) = false := by rw [beq_eq_false_iff_ne]; omega
    have t4 : ((s.mo (plc c)) == 3) = true := by rw [beq_iff_eq]; exact h2
    have t3 : (c.mode == 1) = true := by rw [beq_iff_eq]; exact h3
    clear h2 h3
    clear h n0 n1 n2 n3 n4 hpe hpw hd0 hd3
    go_enter Try.func33, Try.ntmps33
    go_upto_region 1 with (fail)
    rw [hWf.out]
    clear hWf
    go_wp2_with (fail)
    go_quiet (first | (go_at_call 44; exact quiet1 (hgt.out _)) | fail)
    clear hw1 i0 i1 i2 i3 i4 k1 hgt
    go_wp2_with (fail)
    go_quiet (fail)
    rw [World.drewN_drewN]
    generalize _ + nq = nn
    obtain ⟨V, hV⟩ : ∃ V, W.drewN nn = V := ⟨_, rfl⟩
    have hS4 : SB TR w.heap.size s a V := by rw [← hV]; exact hS'.out
    have hZ : Hid (SB TR (w.heap.size + 1 + 1) zC zA V) := Lib.hid (by rw [← hV]; exact hS3.out)
    have hBk : Hid (Below w.heap.size w V) := Lib.hid (by rw [← hV]; exact below_drewN' hB03.out nn)
    have E0 : V.cell? ⟨w.heap.size + 1, 1, none⟩ = some (.int .i64 c.dc) := by rw [← hV]; exact D0
    have E2 : V.cell? ⟨w.heap.size + 1, 4, none⟩ = some (.int .i64 c.mode) := by rw [← hV]; exact D2
    rw [hV]
    clear hV hB03 hS3 hS' D0 D1 D2 hmo fz
    have hmo := hS4.mo hp
    go_wp2_with (first | (refine st_put rfl TR _ _ rfl (w.heap.size + 1 + 1) zC zA rfl rfl hZ.out (.inr rfl) ?_; intro W9 hS9 hB9 hG9 hz9; have hs9 := Lib.hid hS9; have hb9 := Lib.hid (hB9 w.heap.size hle.out); clear hS9 hB9 hG9 hz9) | fail)
    exact bodyPost_ret (v := .tuple #[.agg (cS zC zA), .int .i64 15]) (st_res2 rfl _ _ (w.heap.size + 1 + 1) _ rfl rfl hs9.out (.inr rfl)) rfl ⟨rfl, hBk.out.trans hb9.out⟩
  case some3 h h2 h0 h3 h4 e =>
    have he : X = 15 := by rw [← hE, e]; rfl
    have hr : R = zC := by rw [← hR, if_neg (by rw [e]; omega)]
    have ha : A = zA := by rw [← hA, if_neg (by rw [e]; omega)]
    subst he hr ha
    clear hE hR hA e
    obtain ⟨hp, hpe⟩ := hpw.out h
    obtain ⟨n0, n1, n2, n3, n4⟩ := may_yes h
    have hmo := hS'.out.mo hp
    have fz := hS'.out.fz
    have i0 : ¬ c.node < 0 := by omega
    have i1 : ¬ s.nodes < c.node := by omega
    have i2 : ¬ 4 < c.node := by omega
    have i3 : ¬ c.mode < 1 := by omega
    have i4 : ¬ 3 < c.mode := by omega
    have hp0 : (0 : Int) ≤ (plc c : Int) := by omega
    have hp1 : (plc c : Int) < 21 := by omega
    have hw1 : IntKind.i64.wrap (1 + 5 * c.dc + c.node) = (plc c : Int) := by rw [wrap_in _ (by omega) (by omega)]; exact hpe
    have t1 : ((s.mo (plc c)) == c.mode) = false := by rw [beq_eq_false_iff_ne]; omega
    have t2 : ((s.mo (plc c)) == 1) = false := by rw [beq_eq_false_iff_ne]; omega
    have t4 : ((s.mo (plc c)) == 3) = false := by rw [beq_eq_false_iff_ne]; omega
    have u1 : (c.mode == 1) = false := by rw [beq_eq_false_iff_ne]; omega
    have u3 : (c.mode == 3) = true := by rw [beq_iff_eq]; exact h3
    have hsm := Lib.hid (fun w => some_any s a 1 w)
    rw [h4] at hsm
    clear h2 h0 h3 h4
    clear h n0 n1 n2 n3 n4 hpe hpw hd0 hd3
    go_enter Try.func33, Try.ntmps33
    go_upto_region 1 with (fail)
    rw [hWf.out]
    clear hWf
    go_wp2_with (fail)
    go_quiet (first | (go_at_call 44; exact quiet1 (hgt.out _)) | fail)
    clear hw1 i0 i1 i2 i3 i4 k1 hgt
    go_wp2_with (fail)
    go_quiet (fail)
    rw [World.drewN_drewN]
    generalize _ + nq = nn
    obtain ⟨V, hV⟩ : ∃ V, W.drewN nn = V := ⟨_, rfl⟩
    have hS4 : SB TR w.heap.size s a V := by rw [← hV]; exact hS'.out
    have hZ : Hid (SB TR (w.heap.size + 1 + 1) zC zA V) := Lib.hid (by rw [← hV]; exact hS3.out)
    have hBk : Hid (Below w.heap.size w V) := Lib.hid (by rw [← hV]; exact below_drewN' hB03.out nn)
    have E0 : V.cell? ⟨w.heap.size + 1, 1, none⟩ = some (.int .i64 c.dc) := by rw [← hV]; exact D0
    have E2 : V.cell? ⟨w.heap.size + 1, 4, none⟩ = some (.int .i64 c.mode) := by rw [← hV]; exact D2
    rw [hV]
    clear hV hB03 hS3 hS' D0 D1 D2 hmo fz
    have hmo := hS4.mo hp
    obtain ⟨r1, r2⟩ := rd_row hS4 (.inr rfl)
    go_wp2_with (first | (go_at_call 45; ((with_reducible refine (hsm.out _).mono ?_); rintro e w5 ⟨rfl, hB5⟩; have hZ5 := Lib.hid (hZ.out.below hB5); have hB5' := Lib.hid (hBk.out.trans (hB5.mono hBk.out.size)); clear hB5)) | (refine st_put rfl TR _ _ rfl (w.heap.size + 1 + 1) zC zA rfl rfl hZ5.out (.inr rfl) ?_; intro W9 hS9 hB9 hG9 hz9; have hs9 := Lib.hid hS9; have hb9 := Lib.hid (hB9 w.heap.size hle.out); clear hS9 hB9 hG9 hz9) | fail)
    exact bodyPost_ret (v := .tuple #[.agg (cS zC zA), .int .i64 15]) (st_res2 rfl _ _ (w.heap.size + 1 + 1) _ rfl rfl hs9.out (.inr rfl)) rfl ⟨rfl, hB5'.out.trans hb9.out⟩
  case some1 h h2 h0 h3 h4 e =>
    have he : X = 15 := by rw [← hE, e]; rfl
    have hr : R = zC := by rw [← hR, if_neg (by rw [e]; omega)]
    have ha : A = zA := by rw [← hA, if_neg (by rw [e]; omega)]
    subst he hr ha
    clear hE hR hA e
    obtain ⟨hp, hpe⟩ := hpw.out h
    obtain ⟨n0, n1, n2, n3, n4⟩ := may_yes h
    have hmo := hS'.out.mo hp
    have fz := hS'.out.fz
    have i0 : ¬ c.node < 0 := by omega
    have i1 : ¬ s.nodes < c.node := by omega
    have i2 : ¬ 4 < c.node := by omega
    have i3 : ¬ c.mode < 1 := by omega
    have i4 : ¬ 3 < c.mode := by omega
    have hp0 : (0 : Int) ≤ (plc c : Int) := by omega
    have hp1 : (plc c : Int) < 21 := by omega
    have hw1 : IntKind.i64.wrap (1 + 5 * c.dc + c.node) = (plc c : Int) := by rw [wrap_in _ (by omega) (by omega)]; exact hpe
    have t1 : ((s.mo (plc c)) == c.mode) = false := by rw [beq_eq_false_iff_ne]; omega
    have t2 : ((s.mo (plc c)) == 1) = false := by rw [beq_eq_false_iff_ne]; omega
    have t4 : ((s.mo (plc c)) == 3) = false := by rw [beq_eq_false_iff_ne]; omega
    have u1 : (c.mode == 1) = true := by rw [beq_iff_eq]; exact h3
    have u3 : (c.mode == 3) = false := by rw [beq_eq_false_iff_ne]; omega
    have hsm := Lib.hid (fun w => some_any s a 3 w)
    rw [h4] at hsm
    clear h2 h0 h3 h4
    clear h n0 n1 n2 n3 n4 hpe hpw hd0 hd3
    go_enter Try.func33, Try.ntmps33
    go_upto_region 1 with (fail)
    rw [hWf.out]
    clear hWf
    go_wp2_with (fail)
    go_quiet (first | (go_at_call 44; exact quiet1 (hgt.out _)) | fail)
    clear hw1 i0 i1 i2 i3 i4 k1 hgt
    go_wp2_with (fail)
    go_quiet (fail)
    rw [World.drewN_drewN]
    generalize _ + nq = nn
    obtain ⟨V, hV⟩ : ∃ V, W.drewN nn = V := ⟨_, rfl⟩
    have hS4 : SB TR w.heap.size s a V := by rw [← hV]; exact hS'.out
    have hZ : Hid (SB TR (w.heap.size + 1 + 1) zC zA V) := Lib.hid (by rw [← hV]; exact hS3.out)
    have hBk : Hid (Below w.heap.size w V) := Lib.hid (by rw [← hV]; exact below_drewN' hB03.out nn)
    have E0 : V.cell? ⟨w.heap.size + 1, 1, none⟩ = some (.int .i64 c.dc) := by rw [← hV]; exact D0
    have E2 : V.cell? ⟨w.heap.size + 1, 4, none⟩ = some (.int .i64 c.mode) := by rw [← hV]; exact D2
    rw [hV]
    clear hV hB03 hS3 hS' D0 D1 D2 hmo fz
    have hmo := hS4.mo hp
    obtain ⟨r1, r2⟩ := rd_row hS4 (.inr rfl)
    go_wp2_with (first | (go_at_call 45; ((with_reducible refine (hsm.out _).mono ?_); rintro e w5 ⟨rfl, hB5⟩; have hZ5 := Lib.hid (hZ.out.below hB5); have hB5' := Lib.hid (hBk.out.trans (hB5.mono hBk.out.size)); clear hB5)) | (refine st_put rfl TR _ _ rfl (w.heap.size + 1 + 1) zC zA rfl rfl hZ5.out (.inr rfl) ?_; intro W9 hS9 hB9 hG9 hz9; have hs9 := Lib.hid hS9; have hb9 := Lib.hid (hB9 w.heap.size hle.out); clear hS9 hB9 hG9 hz9) | fail)
    exact bodyPost_ret (v := .tuple #[.agg (cS zC zA), .int .i64 15]) (st_res2 rfl _ _ (w.heap.size + 1 + 1) _ rfl rfl hs9.out (.inr rfl)) rfl ⟨rfl, hB5'.out.trans hb9.out⟩
  case ok3 h h2 h0 h3 h4 e =>
    have he : X = 0 := by rw [← hE, e]; rfl
    have hr : R = swM s c := by rw [← hR, if_pos e]
    have ha : a = A := by rw [← hA, if_pos e]
    subst he hr ha
    clear hE hR hA e
    obtain ⟨hp, hpe⟩ := hpw.out h
    obtain ⟨n0, n1, n2, n3, n4⟩ := may_yes h
    have hmo := hS'.out.mo hp
    have fz := hS'.out.fz
    have i0 : ¬ c.node < 0 := by omega
    have i1 : ¬ s.nodes < c.node := by omega
    have i2 : ¬ 4 < c.node := by omega
    have i3 : ¬ c.mode < 1 := by omega
    have i4 : ¬ 3 < c.mode := by omega
    have hp0 : (0 : Int) ≤ (plc c : Int) := by omega
    have hp1 : (plc c : Int) < 21 := by omega
    have hw1 : IntKind.i64.wrap (1 + 5 * c.dc + c.node) = (plc c : Int) := by rw [wrap_in _ (by omega) (by omega)]; exact hpe
    have t1 : ((s.mo (plc c)) == c.mode) = false := by rw [beq_eq_false_iff_ne]; omega
    have t2 : ((s.mo (plc c)) == 1) = false := by rw [beq_eq_false_iff_ne]; omega
    have t4 : ((s.mo (plc c)) == 3) = false := by rw [beq_eq_false_iff_ne]; omega
    have u1 : (c.mode == 1) = false := by rw [beq_eq_false_iff_ne]; omega
    have u3 : (c.mode == 3) = true := by rw [beq_iff_eq]; exact h3
    have hsm := Lib.hid (fun w => some_any s a 1 w)
    rw [h4] at hsm
    clear h2 h0 h3 h4
    clear h n0 n1 n2 n3 n4 hpe hpw hd0 hd3
    go_enter Try.func33, Try.ntmps33
    go_upto_region 1 with (fail)
    rw [hWf.out]
    clear hWf
    go_wp2_with (fail)
    go_quiet (first | (go_at_call 44; exact quiet1 (hgt.out _)) | fail)
    clear hw1 i0 i1 i2 i3 i4 k1 hgt
    go_wp2_with (fail)
    go_quiet (fail)
    rw [World.drewN_drewN]
    generalize _ + nq = nn
    obtain ⟨V, hV⟩ : ∃ V, W.drewN nn = V := ⟨_, rfl⟩
    have hS4 : SB TR w.heap.size s a V := by rw [← hV]; exact hS'.out
    have hZ : Hid (SB TR (w.heap.size + 1 + 1) zC zA V) := Lib.hid (by rw [← hV]; exact hS3.out)
    have hBk : Hid (Below w.heap.size w V) := Lib.hid (by rw [← hV]; exact below_drewN' hB03.out nn)
    have E0 : V.cell? ⟨w.heap.size + 1, 1, none⟩ = some (.int .i64 c.dc) := by rw [← hV]; exact D0
    have E2 : V.cell? ⟨w.heap.size + 1, 4, none⟩ = some (.int .i64 c.mode) := by rw [← hV]; exact D2
    rw [hV]
    clear hV hB03 hS3 hS' D0 D1 D2 hmo fz
    have hmo := hS4.mo hp
    obtain ⟨r1, r2⟩ := rd_row hS4 (.inr rfl)
    go_wp2_with (first | (go_at_call 45; ((with_reducible refine (hsm.out _).mono ?_); rintro e w5 ⟨rfl, hB5⟩; have hS5 := hS4.below hB5; have hZ5 := hZ.out.below hB5; have hB5' := hBk.out.trans (hB5.mono hBk.out.size); have hS6 := Lib.hid (show SB TR w.heap.size (swM s c) a _ from hS5.setMo hp c.mode); have hZ6 := Lib.hid (hZ5.other (b' := w.heap.size) (by omega) (14 + plc c) (.int .i64 c.mode)); have hb6 := Lib.hid (hB5'.setCell (p := ⟨w.heap.size, 14 + plc c, none⟩) (Nat.le_refl _) (.int .i64 c.mode)); have m5 := hS5.mo hp; have f5 := hS5.fz; have e0 := keep_cell hB5 E0; have e2 := keep_cell hB5 E2; clear hB5 hS5 hZ5 hB5')) | (refine st_load rfl TR _ rfl w.heap.size rfl hS6.out (.inr rfl) ?_) | (refine st_put rfl TR _ _ rfl (w.heap.size + 1 + 1) (swM s c) a rfl rfl hZ6.out (.inr rfl) ?_; intro W9 hS9 hB9 hG9 hz9; have hs9 := Lib.hid hS9; have hb9 := Lib.hid (hB9 w.heap.size hle.out); clear hS9 hB9 hG9 hz9) | fail)
    refine bodyPost_ret (v := .tuple #[.agg (cS (swM s c) a), .int .i64 0]) (st_res2 rfl _ _ (w.heap.size + 1 + 1) _ rfl rfl hs9.out (.inr rfl)) rfl ⟨rfl, ?_⟩
    exact hb6.out.trans hb9.out
  case ok1 h h2 h0 h3 h4 e =>
    have he : X = 0 := by rw [← hE, e]; rfl
    have hr : R = swM s c := by rw [← hR, if_pos e]
    have ha : a = A := by rw [← hA, if_pos e]
    subst he hr ha
    clear hE hR hA e
    obtain ⟨hp, hpe⟩ := hpw.out h
    obtain ⟨n0, n1, n2, n3, n4⟩ := may_yes h
    have hmo := hS'.out.mo hp
    have fz := hS'.out.fz
    have i0 : ¬ c.node < 0 := by omega
    have i1 : ¬ s.nodes < c.node := by omega
    have i2 : ¬ 4 < c.node := by omega
    have i3 : ¬ c.mode < 1 := by omega
    have i4 : ¬ 3 < c.mode := by omega
    have hp0 : (0 : Int) ≤ (plc c : Int) := by omega
    have hp1 : (plc c : Int) < 21 := by omega
    have hw1 : IntKind.i64.wrap (1 + 5 * c.dc + c.node) = (plc c : Int) := by rw [wrap_in _ (by omega) (by omega)]; exact hpe
    have t1 : ((s.mo (plc c)) == c.mode) = false := by rw [beq_eq_false_iff_ne]; omega
    have t2 : ((s.mo (plc c)) == 1) = false := by rw [beq_eq_false_iff_ne]; omega
    have t4 : ((s.mo (plc c)) == 3) = false := by rw [beq_eq_false_iff_ne]; omega
    have u1 : (c.mode == 1) = true := by rw [beq_iff_eq]; exact h3
    have u3 : (c.mode == 3) = false := by rw [beq_eq_false_iff_ne]; omega
    have hsm := Lib.hid (fun w => some_any s a 3 w)
    rw [h4] at hsm
    clear h2 h0 h3 h4
    clear h n0 n1 n2 n3 n4 hpe hpw hd0 hd3
    go_enter Try.func33, Try.ntmps33
    go_upto_region 1 with (fail)
    rw [hWf.out]
    clear hWf
    go_wp2_with (fail)
    go_quiet (first | (go_at_call 44; exact quiet1 (hgt.out _)) | fail)
    clear hw1 i0 i1 i2 i3 i4 k1 hgt
    go_wp2_with (fail)
    go_quiet (fail)
    rw [World.drewN_drewN]
    generalize _ + nq = nn
    obtain ⟨V, hV⟩ : ∃ V, W.drewN nn = V := ⟨_, rfl⟩
    have hS4 : SB TR w.heap.size s a V := by rw [← hV]; exact hS'.out
    have hZ : Hid (SB TR (w.heap.size + 1 + 1) zC zA V) := Lib.hid (by rw [← hV]; exact hS3.out)
    have hBk : Hid (Below w.heap.size w V) := Lib.hid (by rw [← hV]; exact below_drewN' hB03.out nn)
    have E0 : V.cell? ⟨w.heap.size + 1, 1, none⟩ = some (.int .i64 c.dc) := by rw [← hV]; exact D0
    have E2 : V.cell? ⟨w.heap.size + 1, 4, none⟩ = some (.int .i64 c.mode) := by rw [← hV]; exact D2
    rw [hV]
    clear hV hB03 hS3 hS' D0 D1 D2 hmo fz
    have hmo := hS4.mo hp
    obtain ⟨r1, r2⟩ := rd_row hS4 (.inr rfl)
    go_wp2_with (first | (go_at_call 45; ((with_reducible refine (hsm.out _).mono ?_); rintro e w5 ⟨rfl, hB5⟩; have hS5 := hS4.below hB5; have hZ5 := hZ.out.below hB5; have hB5' := hBk.out.trans (hB5.mono hBk.out.size); have hS6 := Lib.hid (show SB TR w.heap.size (swM s c) a _ from hS5.setMo hp c.mode); have hZ6 := Lib.hid (hZ5.other (b' := w.heap.size) (by omega) (14 + plc c) (.int .i64 c.mode)); have hb6 := Lib.hid (hB5'.setCell (p := ⟨w.heap.size, 14 + plc c, none⟩) (Nat.le_refl _) (.int .i64 c.mode)); have m5 := hS5.mo hp; have f5 := hS5.fz; have e0 := keep_cell hB5 E0; have e2 := keep_cell hB5 E2; clear hB5 hS5 hZ5 hB5')) | (refine st_load rfl TR _ rfl w.heap.size rfl hS6.out (.inr rfl) ?_) | (refine st_put rfl TR _ _ rfl (w.heap.size + 1 + 1) (swM s c) a rfl rfl hZ6.out (.inr rfl) ?_; intro W9 hS9 hB9 hG9 hz9; have hs9 := Lib.hid hS9; have hb9 := Lib.hid (hB9 w.heap.size hle.out); clear hS9 hB9 hG9 hz9) | fail)
    refine bodyPost_ret (v := .tuple #[.agg (cS (swM s c) a), .int .i64 0]) (st_res2 rfl _ _ (w.heap.size + 1 + 1) _ rfl rfl hs9.out (.inr rfl)) rfl ⟨rfl, ?_⟩
    exact hb6.out.trans hb9.out
  case ok2 h h2 h3 e =>
    have he : X = 0 := by rw [← hE, e]; rfl
    have hr : R = swM s c := by rw [← hR, if_pos e]
    have ha : a = A := by rw [← hA, if_pos e]
    subst he hr ha
    clear hE hR hA e
    obtain ⟨hp, hpe⟩ := hpw.out h
    obtain ⟨n0, n1, n2, n3, n4⟩ := may_yes h
    have hmo := hS'.out.mo hp
    have fz := hS'.out.fz
    have i0 : ¬ c.node < 0 := by omega
    have i1 : ¬ s.nodes < c.node := by omega
    have i2 : ¬ 4 < c.node := by omega
    have i3 : ¬ c.mode < 1 := by omega
    have i4 : ¬ 3 < c.mode := by omega
    have hp0 : (0 : Int) ≤ (plc c : Int) := by omega
    have hp1 : (plc c : Int) < 21 := by omega
    have hw1 : IntKind.i64.wrap (1 + 5 * c.dc + c.node) = (plc c : Int) := by rw [wrap_in _ (by omega) (by omega)]; exact hpe
    have t1 : ((s.mo (plc c)) == c.mode) = false := by rw [beq_eq_false_iff_ne]; omega
    have u1 : (c.mode == 1) = false := by rw [beq_eq_false_iff_ne]; omega
    have u3 : (c.mode == 3) = false := by rw [beq_eq_false_iff_ne]; omega
    clear h2 h3
    clear h n0 n1 n2 n3 n4 hpe hpw hd0 hd3
    go_enter Try.func33, Try.ntmps33
    go_upto_region 1 with (fail)
    rw [hWf.out]
    clear hWf
    go_wp2_with (fail)
    go_quiet (first | (go_at_call 44; exact quiet1 (hgt.out _)) | fail)
    clear hw1 i0 i1 i2 i3 i4 k1 hgt
    go_wp2_with (fail)
    go_quiet (fail)
    rw [World.drewN_drewN]
    generalize _ + nq = nn
    obtain ⟨V, hV⟩ : ∃ V, W.drewN nn = V := ⟨_, rfl⟩
    have hS4 : SB TR w.heap.size s a V := by rw [← hV]; exact hS'.out
    have hZ : Hid (SB TR (w.heap.size + 1 + 1) zC zA V) := Lib.hid (by rw [← hV]; exact hS3.out)
    have hBk : Hid (Below w.heap.size w V) := Lib.hid (by rw [← hV]; exact below_drewN' hB03.out nn)
    have E0 : V.cell? ⟨w.heap.size + 1, 1, none⟩ = some (.int .i64 c.dc) := by rw [← hV]; exact D0
    have E2 : V.cell? ⟨w.heap.size + 1, 4, none⟩ = some (.int .i64 c.mode) := by rw [← hV]; exact D2
    rw [hV]
    clear hV hB03 hS3 hS' D0 D1 D2 hmo fz
    have hmo := hS4.mo hp
    have f5 := hS4.fz
    have hS6 := Lib.hid (show SB TR w.heap.size (swM s c) a _ from hS4.setMo hp c.mode)
    have hZ6 := Lib.hid (hZ.out.other (b' := w.heap.size) (by omega) (14 + plc c) (.int .i64 c.mode))
    have hb6 := Lib.hid (hBk.out.setCell (p := ⟨w.heap.size, 14 + plc c, none⟩) (Nat.le_refl _) (.int .i64 c.mode))
    clear hS4
    by_cases q1 : s.mo (plc c) = 1
    all_goals by_cases q3 : s.mo (plc c) = 3
    all_goals try (exfalso; omega)
    · have t2 : (s.mo (plc c) == 1) = true := by rw [beq_iff_eq]; exact q1
      have t4 : (s.mo (plc c) == 3) = false := by rw [beq_eq_false_iff_ne]; exact q3
      clear q1 q3
      go_wp2_with (first | (refine st_load rfl TR _ rfl w.heap.size rfl hS6.out (.inr rfl) ?_) | (refine st_put rfl TR _ _ rfl (w.heap.size + 1 + 1) (swM s c) a rfl rfl hZ6.out (.inr rfl) ?_; intro W9 hS9 hB9 hG9 hz9; have hs9 := Lib.hid hS9; have hb9 := Lib.hid (hB9 w.heap.size hle.out); clear hS9 hB9 hG9 hz9) | fail)
      refine bodyPost_ret (v := .tuple #[.agg (cS (swM s c) a), .int .i64 0]) (st_res2 rfl _ _ (w.heap.size + 1 + 1) _ rfl rfl hs9.out (.inr rfl)) rfl ⟨rfl, ?_⟩
      exact hb6.out.trans hb9.out
    · have t2 : (s.mo (plc c) == 1) = false := by rw [beq_eq_false_iff_ne]; exact q1
      have t4 : (s.mo (plc c) == 3) = true := by rw [beq_iff_eq]; exact q3
      clear q1 q3
      go_wp2_with (first | (refine st_load rfl TR _ rfl w.heap.size rfl hS6.out (.inr rfl) ?_) | (refine st_put rfl TR _ _ rfl (w.heap.size + 1 + 1) (swM s c) a rfl rfl hZ6.out (.inr rfl) ?_; intro W9 hS9 hB9 hG9 hz9; have hs9 := Lib.hid hS9; have hb9 := Lib.hid (hB9 w.heap.size hle.out); clear hS9 hB9 hG9 hz9) | fail)
      refine bodyPost_ret (v := .tuple #[.agg (cS (swM s c) a), .int .i64 0]) (st_res2 rfl _ _ (w.heap.size + 1 + 1) _ rfl rfl hs9.out (.inr rfl)) rfl ⟨rfl, ?_⟩
      exact hb6.out.trans hb9.out
    · have t2 : (s.mo (plc c) == 1) = false := by rw [beq_eq_false_iff_ne]; exact q1
      have t4 : (s.mo (plc c) == 3) = false := by rw [beq_eq_false_iff_ne]; exact q3
      clear q1 q3
      go_wp2_with (first | (refine st_load rfl TR _ rfl w.heap.size rfl hS6.out (.inr rfl) ?_) | (refine st_put rfl TR _ _ rfl (w.heap.size + 1 + 1) (swM s c) a rfl rfl hZ6.out (.inr rfl) ?_; intro W9 hS9 hB9 hG9 hz9; have hs9 := Lib.hid hS9; have hb9 := Lib.hid (hB9 w.heap.size hle.out); clear hS9 hB9 hG9 hz9) | fail)
      refine bodyPost_ret (v := .tuple #[.agg (cS (swM s c) a), .int .i64 0]) (st_res2 rfl _ _ (w.heap.size + 1 + 1) _ rfl rfl hs9.out (.inr rfl)) rfl ⟨rfl, ?_⟩
      exact hb6.out.trans hb9.out
end Go.Proofs.Ytpijljbkdfjhcaa.cfP
