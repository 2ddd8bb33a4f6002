/- The document's Apply: what it refuses. -/
import Derived.Test.YtpijljbkdfjhcaaCfO
set_option linter.unusedVariables false
set_option maxRecDepth 100000
namespace Go.Proofs.Ytpijljbkdfjhcaa.cfQ
open Go.ChangeShapes Go.WideShapes Go.ChangeAt Go.RowKit Go.Deep
open spnM spnA spnB spnD spnI spnJ spnK spnS cfA cfB cfC cfD cfE cfF cfG cfH cfI cfJ cfK cfR cfL cfM cfN cfO 
attribute [local go_sem ↓ high] op_ldS op_ldR op_ldM ex_ldS ex_ldR ex_ldM

/-- maps that are those that came in, or the call's own -/
def MX (w' : World) (base : Nat) (s : Cf) (a : Wh) (s' : Cf) (a' : Wh) : Prop := ∀ i, i < 4 → (a' i = a i ∧ s'.ms i = s.ms i) ∨ (GM w' base (a' i).A1 (a' i).c1 (a' i).A2 (a' i).c2 (s'.ms i) ∧ Sm (s'.ms i))
/-- What the document's call answers. -/
def DocS (s : Cf) (a : Wh) (E : Nat) (s' : Cf) (w : World) (e : Ending) (w' : World) : Prop := ∃ a', e = .returned (.tuple #[.agg (cS s' a'), .int .i64 E]) ∧ MX w' w.heap.size s a s' a' ∧ Below w.heap.size w w'
theorem mx_zC (w : World) (base : Nat) (s : Cf) (a : Wh) : MX w base s a zC zA := fun i _ => .inr ⟨GM.non_ w base, sm_non⟩
theorem MX.hs {w' : World} {base : Nat} {s s' : Cf} {a a' : Wh} (h : MX w' base s a s' a') (hH : HS w' s a) : HS w' s' a' := fun i hi => by
  rcases h i hi with ⟨e1, e2⟩ | ⟨h1, h2⟩
  · rw [e1, e2]; exact hH i hi
  · exact GM.hms h1 h2
/-- one map of the call's own, held as a configuration's are -/
abbrev dmC (m : M) : Cf := ⟨0, 0, fun _ => false, fun _ => m, fun _ => 0⟩
abbrev dmA (A1 : Option Addr) (c1 : Nat) (A2 : Option Addr) (c2 : Nat) : Wh := fun _ => ⟨A1, c1, A2, c2⟩
theorem mx_fin {w' : World} {s s' : Cf} {a : Wh} {j base base' : Nat} {A1 A2 : Option Addr} {c1 c2 : Nat} {m : M} (hg : GS w' base' (dmC m) (dmA A1 c1 A2 c2)) (hb : base ≤ base') (hm : Sm m) (e : s'.ms = upd s.ms j m) : MX w' base s a s' (upd a j ⟨A1, c1, A2, c2⟩) := fun i hi => by
  rw [e]
  by_cases hij : i = j
  · subst hij; rw [upd_same, upd_same]; exact .inr ⟨(hg 0 (by omega)).more hb, hm⟩
  · rw [upd_other _ _ hij, upd_other _ _ hij]; exact .inl ⟨rfl, rfl⟩
set_option maxHeartbeats 4000000 in
theorem rap_kind (s : Cf) (a : Wh) (c : Cm) (w : World) (h : ¬ (1 ≤ c.kind ∧ c.kind ≤ 6)) : Calls Try.prog 17 #[.agg (cS s a), vC c] w (DocS s a 5 zC w) := by
  have hB1 := al0 w (.cells (cS s a) TR)
  have hS1 := SB.new TR s a w
  obtain ⟨W1, hW1⟩ : ∃ W1, w.alloc (.cells (cS s a) TR) = W1 := ⟨_, rfl⟩
  have hz1 : W1.heap.size = w.heap.size + 1 := by rw [← hW1]; simp
  rw [hW1] at hB1 hS1
  have hB2 := al0 W1 (.cells (cC c) 43)
  obtain ⟨d0, d1, d2⟩ := cells6 W1 c 43
  obtain ⟨e0, e2, e3, e5⟩ := cells6b W1 c 43
  obtain ⟨W2, hW2⟩ : ∃ W2, W1.alloc (.cells (cC c) 43) = W2 := ⟨_, rfl⟩
  have hz2 : W2.heap.size = w.heap.size + 1 + 1 := by rw [← hW2]; simp [hz1]
  rw [hW2] at hB2 d0 d1 d2 e0 e2 e3 e5
  rw [hz1] at d0 d1 d2 e0 e2 e3 e5
  have hB3 := al0 W2 (.cells #[.int .i64 0, .int .i64 0, .bool false, .bool false, .bool false, .bool false, .slice none 0 0, .slice none 0 0, .slice none 0 0, .slice none 0 0, .slice none 0 0, .slice none 0 0, .slice none 0 0, .slice none 0 0, .int .i64 0, .int .i64 0, .int .i64 0, .int .i64 0, .int .i64 0, .int .i64 0, .int .i64 0, .int .i64 0, .int .i64 0, .int .i64 0, .int .i64 0, .int .i64 0, .int .i64 0, .int .i64 0, .int .i64 0, .int .i64 0, .int .i64 0, .int .i64 0, .int .i64 0, .int .i64 0, .int .i64 0] TR)
  have hS3 : SB TR W2.heap.size zC zA (W2.alloc (.cells #[.int .i64 0, .int .i64 0, .bool false, .bool false, .bool false, .bool false, .slice none 0 0, .slice none 0 0, .slice none 0 0, .slice none 0 0, .slice none 0 0, .slice none 0 0, .slice none 0 0, .slice none 0 0, .int .i64 0, .int .i64 0, .int .i64 0, .int .i64 0, .int .i64 0, .int .i64 0, .int .i64 0, .int .i64 0, .int .i64 0, .int .i64 0, .int .i64 0, .int .i64 0, .int .i64 0, .int .i64 0, .int .i64 0, .int .i64 0, .int .i64 0, .int .i64 0, .int .i64 0, .int .i64 0, .int .i64 0] TR)) := SB.new TR zC zA W2
  obtain ⟨W, hW3⟩ : ∃ W3, W2.alloc (.cells #[.int .i64 0, .int .i64 0, .bool false, .bool false, .bool false, .bool false, .slice none 0 0, .slice none 0 0, .slice none 0 0, .slice none 0 0, .slice none 0 0, .slice none 0 0, .slice none 0 0, .slice none 0 0, .int .i64 0, .int .i64 0, .int .i64 0, .int .i64 0, .int .i64 0, .int .i64 0, .int .i64 0, .int .i64 0, .int .i64 0, .int .i64 0, .int .i64 0, .int .i64 0, .int .i64 0, .int .i64 0, .int .i64 0, .int .i64 0, .int .i64 0, .int .i64 0, .int .i64 0, .int .i64 0, .int .i64 0] TR) = W3 := ⟨_, rfl⟩
  have hz3 : W.heap.size = w.heap.size + 1 + 1 + 1 := by rw [← hW3]; simp [hz2]
  rw [hW3] at hB3 hS3
  rw [hz2] at hS3
  have hB03 := trans0 (trans0 hB1 hB2) hB3
  have hS := (hS1.below hB2).below hB3
  have hWf : Hid (((w.alloc (.cells (cS s a) TR)).alloc (.cells (cC c) 43)).alloc (.cells #[.int .i64 0, .int .i64 0, .bool false, .bool false, .bool false, .bool false, .slice none 0 0, .slice none 0 0, .slice none 0 0, .slice none 0 0, .slice none 0 0, .slice none 0 0, .slice none 0 0, .slice none 0 0, .int .i64 0, .int .i64 0, .int .i64 0, .int .i64 0, .int .i64 0, .int .i64 0, .int .i64 0, .int .i64 0, .int .i64 0, .int .i64 0, .int .i64 0, .int .i64 0, .int .i64 0, .int .i64 0, .int .i64 0, .int .i64 0, .int .i64 0, .int .i64 0, .int .i64 0, .int .i64 0, .int .i64 0] TR) = W) := Lib.hid (by rw [hW1, hW2, hW3])
  have D0 := keep_cell hB3 d0
  have D1 := keep_cell hB3 d1
  have D2 := keep_cell hB3 d2
  have E0 := keep_cell hB3 e0
  have E2 := keep_cell hB3 e2
  have E3 := keep_cell hB3 e3
  have E5 := keep_cell hB3 e5
  have k0 := hS.c0
  have k1 := hS.c1
  have hle := Lib.hid (show w.heap.size ≤ w.heap.size + 1 + 1 by omega)
  have hL := Lib.hid (show L6 (w.heap.size + 1) c W from ⟨E0, D0, E2, D1, D2, E5⟩)
  replace hB03 := Lib.hid hB03
  replace hS3 := Lib.hid hS3
  replace hS := Lib.hid hS
  replace hz3 := Lib.hid hz3
  clear hB1 hS1 hW1 hz1 hB2 d0 d1 d2 e0 e2 e3 e5 hW2 hz2 hB3 hW3
  have hw : c.kind < 1 ∨ (¬ c.kind < 1 ∧ 6 < c.kind) := by omega
  clear h hS
  rcases hw with h1 | ⟨h1, h2⟩
  all_goals
    go_enter Try.func17, Try.ntmps17
    go_upto_region 1 with (fail)
    rw [hWf.out]
    clear hWf
    go_wp2_with (first | (refine st_put rfl TR _ _ rfl (w.heap.size + 1 + 1) zC zA rfl rfl hS3.out (.inr rfl) ?_; intro W9 hS9 hB9 hG9 hz9; have hs9 := Lib.hid hS9; have hb9 := Lib.hid (hB9 w.heap.size hle.out); clear hS9 hB9 hG9 hz9) | fail)
    exact bodyPost_ret (v := .tuple #[.agg (cS zC zA), .int .i64 5]) (st_res2 rfl _ _ (w.heap.size + 1 + 1) _ rfl rfl hs9.out (.inr rfl)) rfl ⟨zA, rfl, mx_zC _ _ _ _, hB03.out.trans hb9.out⟩
set_option maxHeartbeats 4000000 in
theorem rap_dc (s : Cf) (a : Wh) (c : Cm) (w : World) (h : 1 ≤ c.kind ∧ c.kind ≤ 6) (h2 : ¬ (0 ≤ c.dc ∧ c.dc ≤ 3 ∧ c.dc < s.pool)) : Calls Try.prog 17 #[.agg (cS s a), vC c] w (DocS s a 12 zC w) := by
  have hB1 := al0 w (.cells (cS s a) TR)
  have hS1 := SB.new TR s a w
  obtain ⟨W1, hW1⟩ : ∃ W1, w.alloc (.cells (cS s a) TR) = W1 := ⟨_, rfl⟩
  have hz1 : W1.heap.size = w.heap.size + 1 := by rw [← hW1]; simp
  rw [hW1] at hB1 hS1
  have hB2 := al0 W1 (.cells (cC c) 43)
  obtain ⟨d0, d1, d2⟩ := cells6 W1 c 43
  obtain ⟨e0, e2, e3, e5⟩ := cells6b W1 c 43
  obtain ⟨W2, hW2⟩ : ∃ W2, W1.alloc (.cells (cC c) 43) = W2 := ⟨_, rfl⟩
  have hz2 : W2.heap.size = w.heap.size + 1 + 1 := by rw [← hW2]; simp [hz1]
  rw [hW2] at hB2 d0 d1 d2 e0 e2 e3 e5
  rw [hz1] at d0 d1 d2 e0 e2 e3 e5
  have hB3 := al0 W2 (.cells #[.int .i64 0, .int .i64 0, .bool false, .bool false, .bool false, .bool false, .slice none 0 0, .slice none 0 0, .slice none 0 0, .slice none 0 0, .slice none 0 0, .slice none 0 0, .slice none 0 0, .slice none 0 0, .int .i64 0, .int .i64 0, .int .i64 0, .int .i64 0, .int .i64 0, .int .i64 0, .int .i64 0, .int .i64 0, .int .i64 0, .int .i64 0, .int .i64 0, .int .i64 0, .int .i64 0, .int .i64 0, .int .i64 0, .int .i64 0, .int .i64 0, .int .i64 0, .int .i64 0, .int .i64 0, .int .i64 0] TR)
  have hS3 : SB TR W2.heap.size zC zA (W2.alloc (.cells #[.int .i64 0, .int .i64 0, .bool false, .bool false, .bool false, .bool false, .slice none 0 0, .slice none 0 0, .slice none 0 0, .slice none 0 0, .slice none 0 0, .slice none 0 0, .slice none 0 0, .slice none 0 0, .int .i64 0, .int .i64 0, .int .i64 0, .int .i64 0, .int .i64 0, .int .i64 0, .int .i64 0, .int .i64 0, .int .i64 0, .int .i64 0, .int .i64 0, .int .i64 0, .int .i64 0, .int .i64 0, .int .i64 0, .int .i64 0, .int .i64 0, .int .i64 0, .int .i64 0, .int .i64 0, .int .i64 0] TR)) := SB.new TR zC zA W2
  obtain ⟨W, hW3⟩ : ∃ W3, W2.alloc (.cells #[.int .i64 0, .int .i64 0, .bool false, .bool false, .bool false, .bool false, .slice none 0 0, .slice none 0 0, .slice none 0 0, .slice none 0 0, .slice none 0 0, .slice none 0 0, .slice none 0 0, .slice none 0 0, .int .i64 0, .int .i64 0, .int .i64 0, .int .i64 0, .int .i64 0, .int .i64 0, .int .i64 0, .int .i64 0, .int .i64 0, .int .i64 0, .int .i64 0, .int .i64 0, .int .i64 0, .int .i64 0, .int .i64 0, .int .i64 0, .int .i64 0, .int .i64 0, .int .i64 0, .int .i64 0, .int .i64 0] TR) = W3 := ⟨_, rfl⟩
  have hz3 : W.heap.size = w.heap.size + 1 + 1 + 1 := by rw [← hW3]; simp [hz2]
  rw [hW3] at hB3 hS3
  rw [hz2] at hS3
  have hB03 := trans0 (trans0 hB1 hB2) hB3
  have hS := (hS1.below hB2).below hB3
  have hWf : Hid (((w.alloc (.cells (cS s a) TR)).alloc (.cells (cC c) 43)).alloc (.cells #[.int .i64 0, .int .i64 0, .bool false, .bool false, .bool false, .bool false, .slice none 0 0, .slice none 0 0, .slice none 0 0, .slice none 0 0, .slice none 0 0, .slice none 0 0, .slice none 0 0, .slice none 0 0, .int .i64 0, .int .i64 0, .int .i64 0, .int .i64 0, .int .i64 0, .int .i64 0, .int .i64 0, .int .i64 0, .int .i64 0, .int .i64 0, .int .i64 0, .int .i64 0, .int .i64 0, .int .i64 0, .int .i64 0, .int .i64 0, .int .i64 0, .int .i64 0, .int .i64 0, .int .i64 0, .int .i64 0] TR) = W) := Lib.hid (by rw [hW1, hW2, hW3])
  have D0 := keep_cell hB3 d0
  have D1 := keep_cell hB3 d1
  have D2 := keep_cell hB3 d2
  have E0 := keep_cell hB3 e0
  have E2 := keep_cell hB3 e2
  have E3 := keep_cell hB3 e3
  have E5 := keep_cell hB3 e5
  have k0 := hS.c0
  have k1 := hS.c1
  have hle := Lib.hid (show w.heap.size ≤ w.heap.size + 1 + 1 by omega)
  have hL := Lib.hid (show L6 (w.heap.size + 1) c W from ⟨E0, D0, E2, D1, D2, E5⟩)
  replace hB03 := Lib.hid hB03
  replace hS3 := Lib.hid hS3
  replace hS := Lib.hid hS
  replace hz3 := Lib.hid hz3
  clear hB1 hS1 hW1 hz1 hB2 d0 d1 d2 e0 e2 e3 e5 hW2 hz2 hB3 hW3
  have hw : c.dc < 0 ∨ (¬ c.dc < 0 ∧ 3 < c.dc) ∨ (¬ c.dc < 0 ∧ ¬ 3 < c.dc ∧ decide (s.pool ≤ c.dc) = true) := by
    by_cases q1 : c.dc < 0
    · exact .inl q1
    · by_cases q2 : 3 < c.dc
      · exact .inr (.inl ⟨q1, q2⟩)
      · exact .inr (.inr ⟨q1, q2, decide_eq_true (by omega)⟩)
  have i0 : ¬ c.kind < 1 := by omega
  have i1 : ¬ 6 < c.kind := by omega
  clear h h2 hS
  rcases hw with h1 | ⟨h1, h2⟩ | ⟨h1, h2, h3⟩
  all_goals
    go_enter Try.func17, Try.ntmps17
    go_upto_region 1 with (fail)
    rw [hWf.out]
    clear hWf
    go_wp2_with (first | (refine st_put rfl TR _ _ rfl (w.heap.size + 1 + 1) zC zA rfl rfl hS3.out (.inr rfl) ?_; intro W9 hS9 hB9 hG9 hz9; have hs9 := Lib.hid hS9; have hb9 := Lib.hid (hB9 w.heap.size hle.out); clear hS9 hB9 hG9 hz9) | fail)
    exact bodyPost_ret (v := .tuple #[.agg (cS zC zA), .int .i64 12]) (st_res2 rfl _ _ (w.heap.size + 1 + 1) _ rfl rfl hs9.out (.inr rfl)) rfl ⟨zA, rfl, mx_zC _ _ _ _, hB03.out.trans hb9.out⟩
set_option maxHeartbeats 4000000 in
theorem rap_there (s : Cf) (a : Wh) (c : Cm) (w : World) (h : c.kind = 1) (h2 : 0 ≤ c.dc ∧ c.dc ≤ 3) (h3 : c.dc < s.pool) (h4 : s.me (dcN c) = true) : Calls Try.prog 17 #[.agg (cS s a), vC c] w (DocS s a 8 zC w) := by
  have hB1 := al0 w (.cells (cS s a) TR)
  have hS1 := SB.new TR s a w
  obtain ⟨W1, hW1⟩ : ∃ W1, w.alloc (.cells (cS s a) TR) = W1 := ⟨_, rfl⟩
  have hz1 : W1.heap.size = w.heap.size + 1 := by rw [← hW1]; simp
  rw [hW1] at hB1 hS1
  have hB2 := al0 W1 (.cells (cC c) 43)
  obtain ⟨d0, d1, d2⟩ := cells6 W1 c 43
  obtain ⟨e0, e2, e3, e5⟩ := cells6b W1 c 43
  obtain ⟨W2, hW2⟩ : ∃ W2, W1.alloc (.cells (cC c) 43) = W2 := ⟨_, rfl⟩
  have hz2 : W2.heap.size = w.heap.size + 1 + 1 := by rw [← hW2]; simp [hz1]
  rw [hW2] at hB2 d0 d1 d2 e0 e2 e3 e5
  rw [hz1] at d0 d1 d2 e0 e2 e3 e5
  have hB3 := al0 W2 (.cells #[.int .i64 0, .int .i64 0, .bool false, .bool false, .bool false, .bool false, .slice none 0 0, .slice none 0 0, .slice none 0 0, .slice none 0 0, .slice none 0 0, .slice none 0 0, .slice none 0 0, .slice none 0 0, .int .i64 0, .int .i64 0, .int .i64 0, .int .i64 0, .int .i64 0, .int .i64 0, .int .i64 0, .int .i64 0, .int .i64 0, .int .i64 0, .int .i64 0, .int .i64 0, .int .i64 0, .int .i64 0, .int .i64 0, .int .i64 0, .int .i64 0, .int .i64 0, .int .i64 0, .int .i64 0, .int .i64 0] TR)
  have hS3 : SB TR W2.heap.size zC zA (W2.alloc (.cells #[.int .i64 0, .int .i64 0, .bool false, .bool false, .bool false, .bool false, .slice none 0 0, .slice none 0 0, .slice none 0 0, .slice none 0 0, .slice none 0 0, .slice none 0 0, .slice none 0 0, .slice none 0 0, .int .i64 0, .int .i64 0, .int .i64 0, .int .i64 0, .int .i64 0, .int .i64 0, .int .i64 0, .int .i64 0, .int .i64 0, .int .i64 0, .int .i64 0, .int .i64 0, .int .i64 0, .int .i64 0, .int .i64 0, .int .i64 0, .int .i64 0, .int .i64 0, .int .i64 0, .int .i64 0, .int .i64 0] TR)) := SB.new TR zC zA W2
  obtain ⟨W, hW3⟩ : ∃ W3, W2.alloc (.cells #[.int .i64 0, .int .i64 0, .bool false, .bool false, .bool false, .bool false, .slice none 0 0, .slice none 0 0, .slice none 0 0, .slice none 0 0, .slice none 0 0, .slice none 0 0, .slice none 0 0, .slice none 0 0, .int .i64 0, .int .i64 0, .int .i64 0, .int .i64 0, .int .i64 0, .int .i64 0, .int .i64 0, .int .i64 0, .int .i64 0, .int .i64 0, .int .i64 0, .int .i64 0, .int .i64 0, .int .i64 0, .int .i64 0, .int .i64 0, .int .i64 0, .int .i64 0, .int .i64 0, .int .i64 0, .int .i64 0] TR) = W3 := ⟨_, rfl⟩
  have hz3 : W.heap.size = w.heap.size + 1 + 1 + 1 := by rw [← hW3]; simp [hz2]
  rw [hW3] at hB3 hS3
  rw [hz2] at hS3
  have hB03 := trans0 (trans0 hB1 hB2) hB3
  have hS := (hS1.below hB2).below hB3
  have hWf : Hid (((w.alloc (.cells (cS s a) TR)).alloc (.cells (cC c) 43)).alloc (.cells #[.int .i64 0, .int .i64 0, .bool false, .bool false, .bool false, .bool false, .slice none 0 0, .slice none 0 0, .slice none 0 0, .slice none 0 0, .slice none 0 0, .slice none 0 0, .slice none 0 0, .slice none 0 0, .int .i64 0, .int .i64 0, .int .i64 0, .int .i64 0, .int .i64 0, .int .i64 0, .int .i64 0, .int .i64 0, .int .i64 0, .int .i64 0, .int .i64 0, .int .i64 0, .int .i64 0, .int .i64 0, .int .i64 0, .int .i64 0, .int .i64 0, .int .i64 0, .int .i64 0, .int .i64 0, .int .i64 0] TR) = W) := Lib.hid (by rw [hW1, hW2, hW3])
  have D0 := keep_cell hB3 d0
  have D1 := keep_cell hB3 d1
  have D2 := keep_cell hB3 d2
  have E0 := keep_cell hB3 e0
  have E2 := keep_cell hB3 e2
  have E3 := keep_cell hB3 e3
  have E5 := keep_cell hB3 e5
  have k0 := hS.c0
  have k1 := hS.c1
  have hle := Lib.hid (show w.heap.size ≤ w.heap.size + 1 + 1 by omega)
  have hL := Lib.hid (show L6 (w.heap.size + 1) c W from ⟨E0, D0, E2, D1, D2, E5⟩)
  replace hB03 := Lib.hid hB03
  replace hS3 := Lib.hid hS3
  replace hS := Lib.hid hS
  replace hz3 := Lib.hid hz3
  clear hB1 hS1 hW1 hz1 hB2 d0 d1 d2 e0 e2 e3 e5 hW2 hz2 hB3 hW3
  have hj4 : dcN c < 4 := by unfold dcN; omega
  have hj0 : (0 : Int) ≤ c.dc := by omega
  have hj1 : c.dc < 4 := by omega
  have hj2 : c.dc.toNat = dcN c := rfl
  have i0 : ¬ c.kind < 1 := by omega
  have i1 : ¬ 6 < c.kind := by omega
  have i2 : ¬ c.dc < 0 := by omega
  have i3 : ¬ 3 < c.dc := by omega
  have i4 : decide (s.pool ≤ c.dc) = false := decide_eq_false (by omega)
  have t1 : (c.kind == 1) = true := by rw [beq_iff_eq]; omega
  have km := hS.out.me hj4
  rw [h4] at km
  clear h h2 h3 h4 hS
  generalize dcN c = jn at *
  go_enter Try.func17, Try.ntmps17
  go_upto_region 1 with (fail)
  rw [hWf.out]
  clear hWf
  go_wp2_with (first | (refine st_put rfl TR _ _ rfl (w.heap.size + 1 + 1) zC zA rfl rfl hS3.out (.inr rfl) ?_; intro W9 hS9 hB9 hG9 hz9; have hs9 := Lib.hid hS9; have hb9 := Lib.hid (hB9 w.heap.size hle.out); clear hS9 hB9 hG9 hz9) | fail)
  exact bodyPost_ret (v := .tuple #[.agg (cS zC zA), .int .i64 8]) (st_res2 rfl _ _ (w.heap.size + 1 + 1) _ rfl rfl hs9.out (.inr rfl)) rfl ⟨zA, rfl, mx_zC _ _ _ _, hB03.out.trans hb9.out⟩
set_option maxHeartbeats 4000000 in
theorem rap_no (s : Cf) (a : Wh) (c : Cm) (w : World) (h : 2 ≤ c.kind ∧ c.kind ≤ 6) (h2 : 0 ≤ c.dc ∧ c.dc ≤ 3) (h3 : c.dc < s.pool) (h4 : s.me (dcN c) = false) : Calls Try.prog 17 #[.agg (cS s a), vC c] w (DocS s a 12 zC w) := by
  have hB1 := al0 w (.cells (cS s a) TR)
  have hS1 := SB.new TR s a w
  obtain ⟨W1, hW1⟩ : ∃ W1, w.alloc (.cells (cS s a) TR) = W1 := ⟨_, rfl⟩
  have hz1 : W1.heap.size = w.heap.size + 1 := by rw [← hW1]; simp
  rw [hW1] at hB1 hS1
  have hB2 := al0 W1 (.cells (cC c) 43)
  obtain ⟨d0, d1, d2⟩ := cells6 W1 c 43
  obtain ⟨e0, e2, e3, e5⟩ := cells6b W1 c 43
  obtain ⟨W2, hW2⟩ : ∃ W2, W1.alloc (.cells (cC c) 43) = W2 := ⟨_, rfl⟩
  have hz2 : W2.heap.size = w.heap.size + 1 + 1 := by rw [← hW2]; simp [hz1]
  rw [hW2] at hB2 d0 d1 d2 e0 e2 e3 e5
  rw [hz1] at d0 d1 d2 e0 e2 e3 e5
  have hB3 := al0 W2 (.cells #[.int .i64 0, .int .i64 0, .bool false, .bool false, .bool false, .bool false, .slice none 0 0, .slice none 0 0, .slice none 0 0, .slice none 0 0, .slice none 0 0, .slice none 0 0, .slice none 0 0, .slice none 0 0, .int .i64 0, .int .i64 0, .int .i64 0, .int .i64 0, .int .i64 0, .int .i64 0, .int .i64 0, .int .i64 0, .int .i64 0, .int .i64 0, .int .i64 0, .int .i64 0, .int .i64 0, .int .i64 0, .int .i64 0, .int .i64 0, .int .i64 0, .int .i64 0, .int .i64 0, .int .i64 0, .int .i64 0] TR)
  have hS3 : SB TR W2.heap.size zC zA (W2.alloc (.cells #[.int .i64 0, .int .i64 0, .bool false, .bool false, .bool false, .bool false, .slice none 0 0, .slice none 0 0, .slice none 0 0, .slice none 0 0, .slice none 0 0, .slice none 0 0, .slice none 0 0, .slice none 0 0, .int .i64 0, .int .i64 0, .int .i64 0, .int .i64 0, .int .i64 0, .int .i64 0, .int .i64 0, .int .i64 0, .int .i64 0, .int .i64 0, .int .i64 0, .int .i64 0, .int .i64 0, .int .i64 0, .int .i64 0, .int .i64 0, .int .i64 0, .int .i64 0, .int .i64 0, .int .i64 0, .int .i64 0] TR)) := SB.new TR zC zA W2
  obtain ⟨W, hW3⟩ : ∃ W3, W2.alloc (.cells #[.int .i64 0, .int .i64 0, .bool false, .bool false, .bool false, .bool false, .slice none 0 0, .slice none 0 0, .slice none 0 0, .slice none 0 0, .slice none 0 0, .slice none 0 0, .slice none 0 0, .slice none 0 0, .int .i64 0, .int .i64 0, .int .i64 0, .int .i64 0, .int .i64 0, .int .i64 0, .int .i64 0, .int .i64 0, .int .i64 0, .int .i64 0, .int .i64 0, .int .i64 0, .int .i64 0, .int .i64 0, .int .i64 0, .int .i64 0, .int .i64 0, .int .i64 0, .int .i64 0, .int .i64 0, .int .i64 0] TR) = W3 := ⟨_, rfl⟩
  have hz3 : W.heap.size = w.heap.size + 1 + 1 + 1 := by rw [← hW3]; simp [hz2]
  rw [hW3] at hB3 hS3
  rw [hz2] at hS3
  have hB03 := trans0 (trans0 hB1 hB2) hB3
  have hS := (hS1.below hB2).below hB3
  have hWf : Hid (((w.alloc (.cells (cS s a) TR)).alloc (.cells (cC c) 43)).alloc (.cells #[.int .i64 0, .int .i64 0, .bool false, .bool false, .bool false, .bool false, .slice none 0 0, .slice none 0 0, .slice none 0 0, .slice none 0 0, .slice none 0 0, .slice none 0 0, .slice none 0 0, .slice none 0 0, .int .i64 0, .int .i64 0, .int .i64 0, .int .i64 0, .int .i64 0, .int .i64 0, .int .i64 0, .int .i64 0, .int .i64 0, .int .i64 0, .int .i64 0, .int .i64 0, .int .i64 0, .int .i64 0, .int .i64 0, .int .i64 0, .int .i64 0, .int .i64 0, .int .i64 0, .int .i64 0, .int .i64 0] TR) = W) := Lib.hid (by rw [hW1, hW2, hW3])
  have D0 := keep_cell hB3 d0
  have D1 := keep_cell hB3 d1
  have D2 := keep_cell hB3 d2
  have E0 := keep_cell hB3 e0
  have E2 := keep_cell hB3 e2
  have E3 := keep_cell hB3 e3
  have E5 := keep_cell hB3 e5
  have k0 := hS.c0
  have k1 := hS.c1
  have hle := Lib.hid (show w.heap.size ≤ w.heap.size + 1 + 1 by omega)
  have hL := Lib.hid (show L6 (w.heap.size + 1) c W from ⟨E0, D0, E2, D1, D2, E5⟩)
  replace hB03 := Lib.hid hB03
  replace hS3 := Lib.hid hS3
  replace hS := Lib.hid hS
  replace hz3 := Lib.hid hz3
  clear hB1 hS1 hW1 hz1 hB2 d0 d1 d2 e0 e2 e3 e5 hW2 hz2 hB3 hW3
  have hj4 : dcN c < 4 := by unfold dcN; omega
  have hj0 : (0 : Int) ≤ c.dc := by omega
  have hj1 : c.dc < 4 := by omega
  have hj2 : c.dc.toNat = dcN c := rfl
  have i0 : ¬ c.kind < 1 := by omega
  have i1 : ¬ 6 < c.kind := by omega
  have i2 : ¬ c.dc < 0 := by omega
  have i3 : ¬ 3 < c.dc := by omega
  have i4 : decide (s.pool ≤ c.dc) = false := decide_eq_false (by omega)
  have t1 : (c.kind == 1) = false := by rw [beq_eq_false_iff_ne]; omega
  have km := hS.out.me hj4
  rw [h4] at km
  clear h h2 h3 h4 hS
  generalize dcN c = jn at *
  go_enter Try.func17, Try.ntmps17
  go_upto_region 1 with (fail)
  rw [hWf.out]
  clear hWf
  go_wp2_with (first | (refine st_put rfl TR _ _ rfl (w.heap.size + 1 + 1) zC zA rfl rfl hS3.out (.inr rfl) ?_; intro W9 hS9 hB9 hG9 hz9; have hs9 := Lib.hid hS9; have hb9 := Lib.hid (hB9 w.heap.size hle.out); clear hS9 hB9 hG9 hz9) | fail)
  exact bodyPost_ret (v := .tuple #[.agg (cS zC zA), .int .i64 12]) (st_res2 rfl _ _ (w.heap.size + 1 + 1) _ rfl rfl hs9.out (.inr rfl)) rfl ⟨zA, rfl, mx_zC _ _ _ _, hB03.out.trans hb9.out⟩
set_option maxHeartbeats 4000000 in
theorem rap_last (s : Cf) (a : Wh) (c : Cm) (w : World) (h : c.kind = 2) (h2 : 0 ≤ c.dc ∧ c.dc ≤ 3) (h3 : c.dc < s.pool) (h4 : s.me (dcN c) = true) (h5 : cnt s = 1) : Calls Try.prog 17 #[.agg (cS s a), vC c] w (DocS s a 13 zC w) := by
  have hB1 := al0 w (.cells (cS s a) TR)
  have hS1 := SB.new TR s a w
  obtain ⟨W1, hW1⟩ : ∃ W1, w.alloc (.cells (cS s a) TR) = W1 := ⟨_, rfl⟩
  have hz1 : W1.heap.size = w.heap.size + 1 := by rw [← hW1]; simp
  rw [hW1] at hB1 hS1
  have hB2 := al0 W1 (.cells (cC c) 43)
  obtain ⟨d0, d1, d2⟩ := cells6 W1 c 43
  obtain ⟨e0, e2, e3, e5⟩ := cells6b W1 c 43
  obtain ⟨W2, hW2⟩ : ∃ W2, W1.alloc (.cells (cC c) 43) = W2 := ⟨_, rfl⟩
  have hz2 : W2.heap.size = w.heap.size + 1 + 1 := by rw [← hW2]; simp [hz1]
  rw [hW2] at hB2 d0 d1 d2 e0 e2 e3 e5
  rw [hz1] at d0 d1 d2 e0 e2 e3 e5
  have hB3 := al0 W2 (.cells #[.int .i64 0, .int .i64 0, .bool false, .bool false, .bool false, .bool false, .slice none 0 0, .slice none 0 0, .slice none 0 0, .slice none 0 0, .slice none 0 0, .slice none 0 0, .slice none 0 0, .slice none 0 0, .int .i64 0, .int .i64 0, .int .i64 0, .int .i64 0, .int .i64 0, .int .i64 0, .int .i64 0, .int .i64 0, .int .i64 0, .int .i64 0, .int .i64 0, .int .i64 0, .int .i64 0, .int .i64 0, .int .i64 0, .int .i64 0, .int .i64 0, .int .i64 0, .int .i64 0, .int .i64 0, .int .i64 0] TR)
  have hS3 : SB TR W2.heap.size zC zA (W2.alloc (.cells #[.int .i64 0, .int .i64 0, .bool false, .bool false, .bool false, .bool false, .slice none 0 0, .slice none 0 0, .slice none 0 0, .slice none 0 0, .slice none 0 0, .slice none 0 0, .slice none 0 0, .slice none 0 0, .int .i64 0, .int .i64 0, .int .i64 0, .int .i64 0, .int .i64 0, .int .i64 0, .int .i64 0, .int .i64 0, .int .i64 0, .int .i64 0, .int .i64 0, .int .i64 0, .int .i64 0, .int .i64 0, .int .i64 0, .int .i64 0, .int .i64 0, .int .i64 0, .int .i64 0, .int .i64 0, .int .i64 0] TR)) := SB.new TR zC zA W2
  obtain ⟨W, hW3⟩ : ∃ W3, W2.alloc (.cells #[.int .i64 0, .int .i64 0, .bool false, .bool false, .bool false, .bool false, .slice none 0 0, .slice none 0 0, .slice none 0 0, .slice none 0 0, .slice none 0 0, .slice none 0 0, .slice none 0 0, .slice none 0 0, .int .i64 0, .int .i64 0, .int .i64 0, .int .i64 0, .int .i64 0, .int .i64 0, .int .i64 0, .int .i64 0, .int .i64 0, .int .i64 0, .int .i64 0, .int .i64 0, .int .i64 0, .int .i64 0, .int .i64 0, .int .i64 0, .int .i64 0, .int .i64 0, .int .i64 0, .int .i64 0, .int .i64 0] TR) = W3 := ⟨_, rfl⟩
  have hz3 : W.heap.size = w.heap.size + 1 + 1 + 1 := by rw [← hW3]; simp [hz2]
  rw [hW3] at hB3 hS3
  rw [hz2] at hS3
  have hB03 := trans0 (trans0 hB1 hB2) hB3
  have hS := (hS1.below hB2).below hB3
  have hWf : Hid (((w.alloc (.cells (cS s a) TR)).alloc (.cells (cC c) 43)).alloc (.cells #[.int .i64 0, .int .i64 0, .bool false, .bool false, .bool false, .bool false, .slice none 0 0, .slice none 0 0, .slice none 0 0, .slice none 0 0, .slice none 0 0, .slice none 0 0, .slice none 0 0, .slice none 0 0, .int .i64 0, .int .i64 0, .int .i64 0, .int .i64 0, .int .i64 0, .int .i64 0, .int .i64 0, .int .i64 0, .int .i64 0, .int .i64 0, .int .i64 0, .int .i64 0, .int .i64 0, .int .i64 0, .int .i64 0, .int .i64 0, .int .i64 0, .int .i64 0, .int .i64 0, .int .i64 0, .int .i64 0] TR) = W) := Lib.hid (by rw [hW1, hW2, hW3])
  have D0 := keep_cell hB3 d0
  have D1 := keep_cell hB3 d1
  have D2 := keep_cell hB3 d2
  have E0 := keep_cell hB3 e0
  have E2 := keep_cell hB3 e2
  have E3 := keep_cell hB3 e3
  have E5 := keep_cell hB3 e5
  have k0 := hS.c0
  have k1 := hS.c1
  have hle := Lib.hid (show w.heap.size ≤ w.heap.size + 1 + 1 by omega)
  have hL := Lib.hid (show L6 (w.heap.size + 1) c W from ⟨E0, D0, E2, D1, D2, E5⟩)
  replace hB03 := Lib.hid hB03
  replace hS3 := Lib.hid hS3
  replace hS := Lib.hid hS
  replace hz3 := Lib.hid hz3
  clear hB1 hS1 hW1 hz1 hB2 d0 d1 d2 e0 e2 e3 e5 hW2 hz2 hB3 hW3
  have hj4 : dcN c < 4 := by unfold dcN; omega
  have hj0 : (0 : Int) ≤ c.dc := by omega
  have hj1 : c.dc < 4 := by omega
  have hj2 : c.dc.toNat = dcN c := rfl
  have i0 : ¬ c.kind < 1 := by omega
  have i1 : ¬ 6 < c.kind := by omega
  have i2 : ¬ c.dc < 0 := by omega
  have i3 : ¬ 3 < c.dc := by omega
  have i4 : decide (s.pool ≤ c.dc) = false := decide_eq_false (by omega)
  have t1 : (c.kind == 1) = false := by rw [beq_eq_false_iff_ne]; omega
  have t2 : (c.kind == 2) = true := by rw [beq_iff_eq]; omega
  have t6 : (c.kind == 6) = false := by rw [beq_eq_false_iff_ne]; omega
  have km := hS.out.me hj4
  rw [h4] at km
  have hct := Lib.hid (fun w => rcount_any s a w)
  rw [h5] at hct
  have hSo := hS.out
  clear h h2 h3 h4 h5 hS
  generalize dcN c = jn at *
  go_enter Try.func17, Try.ntmps17
  go_upto_region 1 with (fail)
  rw [hWf.out]
  clear hWf
  go_wp2_with (first | (refine st_load rfl TR _ rfl w.heap.size rfl hSo (.inr rfl) ?_; clear hSo) | (go_at_call 14; ((with_reducible refine (hct.out _).mono ?_); rintro e w5 ⟨rfl, hB5⟩; have hZ5 := Lib.hid (hS3.out.below hB5); have hb5 := Lib.hid (hB03.out.trans (hB5.mono hB03.out.size)); clear hB5)) | (refine st_put rfl TR _ _ rfl (w.heap.size + 1 + 1) zC zA rfl rfl hZ5.out (.inr rfl) ?_; intro W9 hS9 hB9 hG9 hz9; have hs9 := Lib.hid hS9; have hb9 := Lib.hid (hB9 w.heap.size hle.out); clear hS9 hB9 hG9 hz9) | fail)
  exact bodyPost_ret (v := .tuple #[.agg (cS zC zA), .int .i64 13]) (st_res2 rfl _ _ (w.heap.size + 1 + 1) _ rfl rfl hs9.out (.inr rfl)) rfl ⟨zA, rfl, mx_zC _ _ _ _, hb5.out.trans hb9.out⟩
end Go.Proofs.Ytpijljbkdfjhcaa.cfQ
