/- The document's Apply. -/
import Derived.Test.YtpijljbkdfjhcaaCfU
import Derived.Test.YtpijljbkdfjhcaaCfP
set_option linter.unusedVariables false
set_option maxRecDepth 100000
namespace Go.Proofs.Ytpijljbkdfjhcaa.cfV
open Go.ChangeShapes Go.WideShapes Go.ChangeAt Go.RowKit Go.Deep
open spnM spnA spnB spnD spnI spnJ spnK spnS cfA cfB cfC cfD cfE cfF cfG cfH cfI cfJ cfK cfR cfL cfM cfN cfO cfP cfQ cfS cfT cfU
attribute [local go_sem ↓ high] op_ldS op_ldR op_ldM ex_ldS ex_ldR ex_ldM

set_option maxHeartbeats 4000000 in
theorem rap_sw (s : Cf) (a : Wh) (c : Cm) (w : World) (h : c.kind = 6) (h2 : 0 ≤ c.dc ∧ c.dc ≤ 3) (h3 : c.dc < s.pool) (h4 : s.me (dcN c) = true) (hH : HS w s a) : Calls Try.prog 17 #[.agg (cS s a), vC c] w (DocS s a (swE s c) (swR s c) w) := by
  have hB1 := al0 w (.cells (cS s a) TR)
  have hS1 := SB.new TR s a w
  obtain ⟨W1, hW1⟩ : ∃ W1, w.alloc (.cells (cS s a) TR) = W1 := ⟨_, rfl⟩
  have hz1 : W1.heap.size = w.heap.size + 1 := by rw [← hW1]; simp
  rw [hW1] at hB1 hS1
  have hB2 := al0 W1 (.cells (cC c) 43)
  obtain ⟨d0, d1, d2⟩ := cells6 W1 c 43
  obtain ⟨e0, e2, e3, e5⟩ := cells6b W1 c 43
  obtain ⟨W2, hW2⟩ : ∃ W2, W1.alloc (.cells (cC c) 43) = W2 := ⟨_, rfl⟩
  have hz2 : W2.heap.size = w.heap.size + 1 + 1 := by rw [← hW2]; simp [hz1]
  rw [hW2] at hB2 d0 d1 d2 e0 e2 e3 e5
  rw [hz1] at d0 d1 d2 e0 e2 e3 e5
  have hB3 := al0 W2 (.cells #[.int .i64 0, .int .i64 0, .bool false, .bool false, .bool false, .bool false, .slice none 0 0, .slice none 0 0, .slice none 0 0, .slice none 0 0, .slice none 0 0, .slice none 0 0, .slice none 0 0, .slice none 0 0, .int .i64 0, .int .i64 0, .int .i64 0, .int .i64 0, .int .i64 0, .int .i64 0, .int .i64 0, .int .i64 0, .int .i64 0, .int .i64 0, .int .i64 0, .int .i64 0, .int .i64 0, .int .i64 0, .int .i64 0, .int .i64 0, .int .i64 0, .int .i64 0, .int .i64 0, .int .i64 0, .int .i64 0] TR)
  have hS3 : SB TR W2.heap.size zC zA (W2.alloc (.cells #[.int .i64 0, .int .i64 0, .bool false, .bool false, .bool false, .bool false, .slice none 0 0, .slice none 0 0, .slice none 0 0, .slice none 0 0, .slice none 0 0, .slice none 0 0, .slice none 0 0, .slice none 0 0, .int .i64 0, .int .i64 0, .int .i64 0, .int .i64 0, .int .i64 0, .int .i64 0, .int .i64 0, .int .i64 0, .int .i64 0, .int .i64 0, .int .i64 0, .int .i64 0, .int .i64 0, .int .i64 0, .int .i64 0, .int .i64 0, .int .i64 0, .int .i64 0, .int .i64 0, .int .i64 0, .int .i64 0] TR)) := SB.new TR zC zA W2
  obtain ⟨W, hW3⟩ : ∃ W3, W2.alloc (.cells #[.int .i64 0, .int .i64 0, .bool false, .bool false, .bool false, .bool false, .slice none 0 0, .slice none 0 0, .slice none 0 0, .slice none 0 0, .slice none 0 0, .slice none 0 0, .slice none 0 0, .slice none 0 0, .int .i64 0, .int .i64 0, .int .i64 0, .int .i64 0, .int .i64 0, .int .i64 0, .int .i64 0, .int .i64 0, .int .i64 0, .int .i64 0, .int .i64 0, .int .i64 0, .int .i64 0, .int .i64 0, .int .i64 0, .int .i64 0, .int .i64 0, .int .i64 0, .int .i64 0, .int .i64 0, .int .i64 0] TR) = W3 := ⟨_, rfl⟩
  have hz3 : W.heap.size = w.heap.size + 1 + 1 + 1 := by rw [← hW3]; simp [hz2]
  rw [hW3] at hB3 hS3
  rw [hz2] at hS3
  have hB03 := trans0 (trans0 hB1 hB2) hB3
  have hS := (hS1.below hB2).below hB3
  have hWf : Hid (((w.alloc (.cells (cS s a) TR)).alloc (.cells (cC c) 43)).alloc (.cells #[.int .i64 0, .int .i64 0, .bool false, .bool false, .bool false, .bool false, .slice none 0 0, .slice none 0 0, .slice none 0 0, .slice none 0 0, .slice none 0 0, .slice none 0 0, .slice none 0 0, .slice none 0 0, .int .i64 0, .int .i64 0, .int .i64 0, .int .i64 0, .int .i64 0, .int .i64 0, .int .i64 0, .int .i64 0, .int .i64 0, .int .i64 0, .int .i64 0, .int .i64 0, .int .i64 0, .int .i64 0, .int .i64 0, .int .i64 0, .int .i64 0, .int .i64 0, .int .i64 0, .int .i64 0, .int .i64 0] TR) = W) := Lib.hid (by rw [hW1, hW2, hW3])
  have D0 := keep_cell hB3 d0
  have D1 := keep_cell hB3 d1
  have D2 := keep_cell hB3 d2
  have E0 := keep_cell hB3 e0
  have E2 := keep_cell hB3 e2
  have E3 := keep_cell hB3 e3
  have E5 := keep_cell hB3 e5
  have k0 := hS.c0
  have k1 := hS.c1
  have hle := Lib.hid (show w.heap.size ≤ w.heap.size + 1 + 1 by omega)
  have hL := Lib.hid (show L6 (w.heap.size + 1) c W from ⟨E0, D0, E2, D1, D2, E5⟩)
  replace hB03 := Lib.hid hB03
  replace hS3 := Lib.hid hS3
  replace hS := Lib.hid hS
  replace hz3 := Lib.hid hz3
  clear hB1 hS1 hW1 hz1 hB2 d0 d1 d2 e0 e2 e3 e5 hW2 hz2 hB3 hW3
  have hj4 : dcN c < 4 := by unfold dcN; omega
  have hj0 : (0 : Int) ≤ c.dc := by omega
  have hj1 : c.dc < 4 := by omega
  have hj2 : c.dc.toNat = dcN c := rfl
  have i0 : ¬ c.kind < 1 := by omega
  have i1 : ¬ 6 < c.kind := by omega
  have i2 : ¬ c.dc < 0 := by omega
  have i3 : ¬ 3 < c.dc := by omega
  have i4 : decide (s.pool ≤ c.dc) = false := decide_eq_false (by omega)
  have t1 : (c.kind == 1) = false := by rw [beq_eq_false_iff_ne]; omega
  have t2 : (c.kind == 2) = false := by rw [beq_eq_false_iff_ne]; omega
  have t6 : (c.kind == 6) = true := by rw [beq_iff_eq]; omega
  have km := hS.out.me hj4
  rw [h4] at km
  have hsp := Lib.hid (rspeak_any s a c W h2.1 h2.2)
  have hSo := hS.out
  replace hH := Lib.hid hH
  have hA : Hid (∀ w', MX w' w.heap.size s a (swR s c) (swA s a c)) := Lib.hid fun w' => by
    unfold swR swA
    by_cases h0 : swE s c = 0
    · rw [if_pos h0, if_pos h0]; exact fun i _ => .inl ⟨rfl, rfl⟩
    · rw [if_neg h0, if_neg h0]; exact mx_zC _ _ _ _
  clear h h2 h3 h4 hS
  generalize swE s c = E at *
  generalize swR s c = R at *
  generalize swA s a c = A at *
  generalize dcN c = jn at *
  go_enter Try.func17, Try.ntmps17
  go_upto_region 1 with (fail)
  rw [hWf.out]
  clear hWf
  go_wp2_with (first | (refine st_load rfl TR _ rfl w.heap.size rfl hSo (.inr rfl) ?_) | (go_at_call 33; ((with_reducible refine hsp.out.mono ?_); rintro e w5 ⟨rfl, hB5⟩; have hZ5 := Lib.hid (hS3.out.below hB5); have hb5 := Lib.hid (trans0 hB03.out hB5); clear hB5)) | (refine st_put rfl TR _ _ rfl (w.heap.size + 1 + 1) R A rfl rfl hZ5.out (.inr rfl) ?_; intro W9 hS9 hB9 hG9 hz9; have hs9 := Lib.hid hS9; have hb9 := Lib.hid (hB9 w.heap.size hle.out); clear hS9 hB9 hG9 hz9) | fail)
  exact bodyPost_ret (v := .tuple #[.agg (cS R A), .int .i64 E]) (st_res2 rfl _ _ (w.heap.size + 1 + 1) _ rfl rfl hs9.out (.inr rfl)) rfl ⟨A, rfl, hA.out _, hb5.out.trans hb9.out⟩
theorem rapply_any (s : Cf) (a : Wh) (c : Cm) (w : World) (hk : KC c) (hH : HS w s a) : Calls Try.prog 17 #[.agg (cS s a), vC c] w (DocS s a (apE s c) (apM s c) w) := by
  unfold apM
  cases way s c with
  | kind h e => rw [e, if_neg (by omega)]; exact rap_kind s a c w h
  | dc h h2 e => rw [e, if_neg (by omega)]; exact rap_dc s a c w h (fun q => h2 ⟨q.1, q.2.1⟩)
  | pool h h2 h3 e => rw [e, if_neg (by omega)]; exact rap_dc s a c w h (fun q => by omega)
  | add h h2 h3 e q =>
    cases h4 : s.me (dcN c) with
    | true => rw [h4, if_pos rfl] at e; rw [e, if_neg (by omega)]; exact rap_there s a c w h h2 h3 h4
    | false => rw [h4, if_neg (by simp)] at e; rw [e, if_pos rfl, q]; exact rap_add s a c w h h2 h3 h4 hH
  | no h h2 h3 h4 e => rw [e, if_neg (by omega)]; exact rap_no s a c w h h2 h3 h4
  | rem h h2 h3 h4 e q =>
    by_cases h5 : cnt s = 1
    · rw [if_pos h5] at e; rw [e, if_neg (by omega)]; exact rap_last s a c w h h2 h3 h4 h5
    · rw [if_neg h5] at e; rw [e, if_pos rfl, q]; exact rap_rem s a c w h h2 h3 h4 h5 hH
  | sw h h2 h3 h4 e q => rw [e, q]; exact rap_sw s a c w h h2 h3 h4 hH
  | shp h h2 h3 h4 e q =>
    rw [e, q]
    have : c.kind = 3 ∨ c.kind = 4 ∨ c.kind = 5 := by omega
    rcases this with h | h | h
    · exact rap_Split s a c w h h2 h3 h4 hk hH
    · exact rap_Merge s a c w h h2 h3 h4 hk hH
    · exact rap_Move s a c w h h2 h3 h4 hk hH
end Go.Proofs.Ytpijljbkdfjhcaa.cfV
