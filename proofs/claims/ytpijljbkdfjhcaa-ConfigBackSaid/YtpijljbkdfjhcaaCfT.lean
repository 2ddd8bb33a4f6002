/- The document's Apply: Remove. -/
import Derived.Test.YtpijljbkdfjhcaaCfS
set_option linter.unusedVariables false
set_option maxRecDepth 100000
namespace Go.Proofs.Ytpijljbkdfjhcaa.cfT
open Go.ChangeShapes Go.WideShapes Go.ChangeAt Go.RowKit Go.Deep
open spnM spnA spnB spnD spnI spnJ spnK spnS cfA cfB cfC cfD cfE cfF cfG cfH cfI cfJ cfK cfR cfL cfM cfN cfO cfQ cfS
attribute [local go_sem ↓ high] op_ldS op_ldR op_ldM ex_ldS ex_ldR ex_ldM

set_option maxHeartbeats 4000000 in
theorem rap_rem (s : Cf) (a : Wh) (c : Cm) (w : World) (h : c.kind = 2) (h2 : 0 ≤ c.dc ∧ c.dc ≤ 3) (h3 : c.dc < s.pool) (h4 : s.me (dcN c) = true) (h5 : cnt s ≠ 1) (hH : HS w s a) : Calls Try.prog 17 #[.agg (cS s a), vC c] w (DocS s a 0 (remM s (dcN c)) w) := by
  have hB1 := al0 w (.cells (cS s a) TR)
  have hS1 := SB.new TR s a w
  obtain ⟨W1, hW1⟩ : ∃ W1, w.alloc (.cells (cS s a) TR) = W1 := ⟨_, rfl⟩
  have hz1 : W1.heap.size = w.heap.size + 1 := by rw [← hW1]; simp
  rw [hW1] at hB1 hS1
  have hB2 := al0 W1 (.cells (cC c) 43)
  obtain ⟨d0, d1, d2⟩ := cells6 W1 c 43
  obtain ⟨e0, e2, e3, e5⟩ := cells6b W1 c 43
  obtain ⟨W2, hW2⟩ : ∃ W2, W1.alloc (.cells (cC c) 43) = W2 := ⟨_, rfl⟩
  have hz2 : W2.heap.size = w.heap.size + 1 + 1 := by rw [← hW2]; simp [hz1]
  rw [hW2] at hB2 d0 d1 d2 e0 e2 e3 e5
  rw [hz1] at d0 d1 d2 e0 e2 e3 e5
  have hB3 := al0 W2 (.cells #[.int .i64 0, .int .i64 0, .bool false, .bool false, .bool false, .bool false, .slice none 0 0, .slice none 0 0, .slice none 0 0, .slice none 0 0, .slice none 0 0, .slice none 0 0, .slice none 0 0, .slice none 0 0, .int .i64 0, .int .i64 0, .int .i64 0, .int .i64 0, .int .i64 0, .int .i64 0, .int .i64 0, .int .i64 0, .int .i64 0, .int .i64 0, .int .i64 0, .int .i64 0, .int .i64 0, .int .i64 0, .int .i64 0, .int .i64 0, .int .i64 0, .int .i64 0, .int .i64 0, .int .i64 0, .int .i64 0] TR)
  have hS3 : SB TR W2.heap.size zC zA (W2.alloc (.cells #[.int .i64 0, .int .i64 0, .bool false, .bool false, .bool false, .bool false, .slice none 0 0, .slice none 0 0, .slice none 0 0, .slice none 0 0, .slice none 0 0, .slice none 0 0, .slice none 0 0, .slice none 0 0, .int .i64 0, .int .i64 0, .int .i64 0, .int .i64 0, .int .i64 0, .int .i64 0, .int .i64 0, .int .i64 0, .int .i64 0, .int .i64 0, .int .i64 0, .int .i64 0, .int .i64 0, .int .i64 0, .int .i64 0, .int .i64 0, .int .i64 0, .int .i64 0, .int .i64 0, .int .i64 0, .int .i64 0] TR)) := SB.new TR zC zA W2
  obtain ⟨W, hW3⟩ : ∃ W3, W2.alloc (.cells #[.int .i64 0, .int .i64 0, .bool false, .bool false, .bool false, .bool false, .slice none 0 0, .slice none 0 0, .slice none 0 0, .slice none 0 0, .slice none 0 0, .slice none 0 0, .slice none 0 0, .slice none 0 0, .int .i64 0, .int .i64 0, .int .i64 0, .int .i64 0, .int .i64 0, .int .i64 0, .int .i64 0, .int .i64 0, .int .i64 0, .int .i64 0, .int .i64 0, .int .i64 0, .int .i64 0, .int .i64 0, .int .i64 0, .int .i64 0, .int .i64 0, .int .i64 0, .int .i64 0, .int .i64 0, .int .i64 0] TR) = W3 := ⟨_, rfl⟩
  have hz3 : W.heap.size = w.heap.size + 1 + 1 + 1 := by rw [← hW3]; simp [hz2]
  rw [hW3] at hB3 hS3
  rw [hz2] at hS3
  have hB03 := trans0 (trans0 hB1 hB2) hB3
  have hS := (hS1.below hB2).below hB3
  have hWf : Hid (((w.alloc (.cells (cS s a) TR)).alloc (.cells (cC c) 43)).alloc (.cells #[.int .i64 0, .int .i64 0, .bool false, .bool false, .bool false, .bool false, .slice none 0 0, .slice none 0 0, .slice none 0 0, .slice none 0 0, .slice none 0 0, .slice none 0 0, .slice none 0 0, .slice none 0 0, .int .i64 0, .int .i64 0, .int .i64 0, .int .i64 0, .int .i64 0, .int .i64 0, .int .i64 0, .int .i64 0, .int .i64 0, .int .i64 0, .int .i64 0, .int .i64 0, .int .i64 0, .int .i64 0, .int .i64 0, .int .i64 0, .int .i64 0, .int .i64 0, .int .i64 0, .int .i64 0, .int .i64 0] TR) = W) := Lib.hid (by rw [hW1, hW2, hW3])
  have D0 := keep_cell hB3 d0
  have D1 := keep_cell hB3 d1
  have D2 := keep_cell hB3 d2
  have E0 := keep_cell hB3 e0
  have E2 := keep_cell hB3 e2
  have E3 := keep_cell hB3 e3
  have E5 := keep_cell hB3 e5
  have k0 := hS.c0
  have k1 := hS.c1
  have hle := Lib.hid (show w.heap.size ≤ w.heap.size + 1 + 1 by omega)
  have hL := Lib.hid (show L6 (w.heap.size + 1) c W from ⟨E0, D0, E2, D1, D2, E5⟩)
  replace hB03 := Lib.hid hB03
  replace hS3 := Lib.hid hS3
  replace hS := Lib.hid hS
  replace hz3 := Lib.hid hz3
  clear hB1 hS1 hW1 hz1 hB2 d0 d1 d2 e0 e2 e3 e5 hW2 hz2 hB3 hW3
  have hj4 : dcN c < 4 := by unfold dcN; omega
  have hj0 : (0 : Int) ≤ c.dc := by omega
  have hj1 : c.dc < 4 := by omega
  have hj2 : c.dc.toNat = dcN c := rfl
  have i0 : ¬ c.kind < 1 := by omega
  have i1 : ¬ 6 < c.kind := by omega
  have i2 : ¬ c.dc < 0 := by omega
  have i3 : ¬ 3 < c.dc := by omega
  have i4 : decide (s.pool ≤ c.dc) = false := decide_eq_false (by omega)
  have t1 : (c.kind == 1) = false := by rw [beq_eq_false_iff_ne]; omega
  have t2 : (c.kind == 2) = true := by rw [beq_iff_eq]; omega
  have t6 : (c.kind == 6) = false := by rw [beq_eq_false_iff_ne]; omega
  have km := hS.out.me hj4
  have fm := hS.out.fz
  rw [h4] at km
  have hct := Lib.hid (rcount_any s a W)
  have hc' : (((cnt s : Nat) : Int) == 1) = false := by rw [beq_eq_false_iff_ne]; omega
  have hX : Hid (∀ w4, Below W.heap.size W w4 → SB TR w.heap.size s a w4 ∧ SB TR (w.heap.size + 1 + 1) zC zA w4 ∧ Below w.heap.size w w4 ∧ L6 (w.heap.size + 1) c w4) := Lib.hid fun w4 hB => ⟨hS.out.below hB, hS3.out.below hB, trans0 hB03.out hB, L6.to hL.out hB⟩
  have hY : Hid (∀ w4, SB TR w.heap.size s a w4 → SB TR (w.heap.size + 1 + 1) zC zA w4 → Below w.heap.size w w4 → SB TR w.heap.size (outM s (dcN c)) (upd a (dcN c) nAr) (((w4.setCell ⟨w.heap.size, 2 + dcN c, none⟩ (.bool false)).setCell ⟨w.heap.size, 6 + dcN c * 2, none⟩ (.slice none 0 0)).setCell ⟨w.heap.size, 6 + dcN c * 2 + 1, none⟩ (.slice none 0 0)) ∧ SB TR (w.heap.size + 1 + 1) zC zA (((w4.setCell ⟨w.heap.size, 2 + dcN c, none⟩ (.bool false)).setCell ⟨w.heap.size, 6 + dcN c * 2, none⟩ (.slice none 0 0)).setCell ⟨w.heap.size, 6 + dcN c * 2 + 1, none⟩ (.slice none 0 0)) ∧ Below w.heap.size w (((w4.setCell ⟨w.heap.size, 2 + dcN c, none⟩ (.bool false)).setCell ⟨w.heap.size, 6 + dcN c * 2, none⟩ (.slice none 0 0)).setCell ⟨w.heap.size, 6 + dcN c * 2 + 1, none⟩ (.slice none 0 0))) := Lib.hid fun w4 g1 g2 g3 =>
    ⟨(g1.setMe hj4 false).setMa hj4 none 0 none 0 non, ((g2.other (by omega) _ _).other (by omega) _ _).other (by omega) _ _, ((g3.setCell (p := ⟨w.heap.size, 2 + dcN c, none⟩) (Nat.le_refl _) _).setCell (p := ⟨w.heap.size, 6 + dcN c * 2, none⟩) (Nat.le_refl _) _).setCell (p := ⟨w.heap.size, 6 + dcN c * 2 + 1, none⟩) (Nat.le_refl _) _⟩
  have e2 : c.dc = ((dcN c : Nat) : Int) := by unfold dcN; omega
  have hbo := Lib.hid (fun w => rboth_any (outM s (dcN c)) (upd a (dcN c) nAr) (dcN c) hj4 w)
  rw [← e2] at hbo
  replace hH := Lib.hid hH
  have hSo := hS.out
  have hq := Lib.hid (show (remM s (dcN c)).ms = upd s.ms (dcN c) non from rfl)
  unfold remM at hq ⊢
  clear e2 h h2 h3 h4 h5 hS
  generalize cnt s = n at *
  generalize dcN c = jn at *
  go_enter Try.func17, Try.ntmps17
  go_upto_region 1 with (fail)
  rw [hWf.out]
  clear hWf
  go_upto_region 16 with (first | (go_at_call 14; ((with_reducible refine hct.out.mono ?_); rintro e w4 ⟨rfl, hB4⟩; obtain ⟨x1, x2, x3, x4⟩ := hX.out w4 hB4; have y := Lib.hid (hY.out w4 x1 x2 x3); have x5 := Lib.hid x4; obtain ⟨l0, l1, l2, l3, l4, l5⟩ := x4; have u0 := x1.me hj4; have u1 := x1.m1 hj4; have u2 := x1.m2 hj4; have f4 := x1.fz; clear hB4 x1 x2 x3)) | (refine st_load rfl TR _ rfl w.heap.size rfl hSo (.inr rfl) ?_; clear hSo) | fail)
  go_upto_region 18 with (fail)
  obtain ⟨V, hV⟩ : ∃ V, (((w4.setCell ⟨w.heap.size, 2 + jn, none⟩ (.bool false)).setCell ⟨w.heap.size, 6 + jn * 2, none⟩ (.slice none 0 0)).setCell ⟨w.heap.size, 6 + jn * 2 + 1, none⟩ (.slice none 0 0)) = V := ⟨_, rfl⟩
  have y1 : Hid (SB TR w.heap.size (outM s jn) (upd a jn nAr) V) := Lib.hid (hV ▸ y.out.1)
  have y2 : Hid (SB TR (w.heap.size + 1 + 1) zC zA V) := Lib.hid (hV ▸ y.out.2.1)
  have y3 : Hid (Below w.heap.size w V) := Lib.hid (hV ▸ y.out.2.2)
  have hl5 : L6 (w.heap.size + 1) c V := hV ▸ l6_set2 (p := w.heap.size) (l6_set x5.out (p := w.heap.size) (by omega) (2 + jn) (.bool false)) (by omega) (6 + jn * 2) (.slice none 0 0) (6 + jn * 2 + 1) (.slice none 0 0)
  rw [hV]
  clear hV y x5 l0 l1 l2 l3 l4 l5 u0 u1 u2 f4 km fm D0 D1 D2 E0 E2 E3 E5
  obtain ⟨l0, l1, l2, l3, l4, l5⟩ := hl5
  go_wp2_with (first | (go_at_call 32; ((with_reducible refine (hbo.out _).mono ?_); rintro e w5 ⟨rfl, hB5⟩; have hZ5 := Lib.hid (y2.out.below hB5); have hb5 := Lib.hid (y3.out.trans (hB5.mono y3.out.size)); clear hB5)) | (refine st_load rfl TR _ rfl w.heap.size rfl y1.out (.inr rfl) ?_) | (refine st_put rfl TR _ _ rfl (w.heap.size + 1 + 1) (spkM (outM s jn) jn 5 2) (upd a jn nAr) rfl rfl hZ5.out (.inr rfl) ?_; intro W9 hS9 hB9 hG9 hz9; have hs9 := Lib.hid hS9; have hb9 := Lib.hid (hB9 w.heap.size hle.out); clear hS9 hB9 hG9 hz9) | fail)
  refine bodyPost_ret (v := .tuple #[.agg (cS (spkM (outM s jn) jn 5 2) (upd a jn nAr)), .int .i64 0]) (st_res2 rfl _ _ (w.heap.size + 1 + 1) _ rfl rfl hs9.out (.inr rfl)) rfl ⟨_, rfl, mx_fin (m := non) (fun i _ => GM.non_ _ _) (Nat.le_refl _) sm_non hq.out, hb5.out.trans hb9.out⟩
end Go.Proofs.Ytpijljbkdfjhcaa.cfT
