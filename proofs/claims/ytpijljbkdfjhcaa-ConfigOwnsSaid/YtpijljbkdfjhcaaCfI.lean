/- Apply. -/
import Derived.Test.YtpijljbkdfjhcaaCfH
set_option linter.unusedVariables false
set_option maxRecDepth 100000
namespace Go.Proofs.Ytpijljbkdfjhcaa.cfI
open Go.ChangeShapes Go.WideShapes Go.ChangeAt Go.RowKit Go.Deep
open spnM spnA spnB spnD spnI spnJ spnK spnS cfA cfB cfC cfD cfE cfF cfG cfH

theorem GS.setRow {w : World} {base b : Nat} {T : TypeId} {s s' : Cf} {a a' : Wh} (h : GS w base s a) (hS : SB T b s' a' w) (h1 : T ≠ 9) (h2 : T ≠ 3) (c : Array Value) : GS (w.setRow b c) base s a := fun i hi => by
  have hr : ∀ {v : Value} {sz k : Nat} {e : TypeId} {xs : List Value}, w.ownsRow base e sz v k xs → T ≠ e → ∀ k, v.ownBlock = some k → (w.setRow b c).heap[k]? = w.heap[k]? := fun ho hne k e => setRow_other w _ k _ (fun e1 => row_box (n := 0) hS ho hne (by rw [e, e1]))
  exact ⟨own_block (h i hi).cs fun k e => hr (h i hi).cs h1 k e, own_block (h i hi).ns fun k e => hr (h i hi).ns h2 k e⟩
theorem tne {T : TypeId} (hT : T = TS ∨ T = TR) : T ≠ 9 ∧ T ≠ 3 := by
  rcases hT with rfl | rfl
  · exact ⟨ts1, ts2⟩
  · exact ⟨tr1, tr2⟩
/-- a whole configuration stored over another, the world named anew -/
theorem st_put {ops : Array Oper} {rest : List Oper} {o : Oper} {c : Act} {w : World} {Q : Exit → Act → World → Prop} {s : Cf} {a : Wh} (hgd : o.guard = none) (T : TypeId) (x y : Operand) (ho : o.op = .store T x y) (b : Nat) (s' : Cf) (a' : Wh) (hx : c.eval x = .pointer (some ⟨b, 0, none⟩)) (hy : c.eval y = .agg (cS s' a')) (hS : SB T b s a w) (hT : T = TS ∨ T = TR)
    (h : ∀ W5, SB T b s' a' W5 → (∀ B, B ≤ b → Below B w W5) → (∀ base s2 a2, GS w base s2 a2 → GS W5 base s2 a2) → W5.heap.size = w.heap.size → wpList Try.prog ops Q rest (c.put o.dst undef) W5) : wpList Try.prog ops Q (o :: rest) c w :=
  st_store hgd T x y ho b s' a' hx hy hS hT (h _ (hS.setRow s' a') (fun B hB => below_setRow' (Below.refl B w) hB _) (fun base s2 a2 hG => GS.setRow hG hS (tne hT).1 (tne hT).2 _) (size_setRow _ _ _))
theorem sz_upd {s : Cf} (h : Sz s) (j : Nat) {m : M} (hm : Sm m) (s' : Cf) (e : s'.ms = upd s.ms j m) : Sz s' := Sz.put h j ⟨by have := hm.1; omega, by have := hm.2; omega⟩ s' e
theorem sm_whole : Sm whole := ⟨by simp, by simp⟩
theorem sz_zC : Sz zC := fun i _ => ⟨by simp [zC, non], by simp [zC, non]⟩
theorem sz_ap {s : Cf} (h : Sz s) (c : Cm) : Sz (apM s c) := by
  unfold apM
  split
  · unfold chM
    split
    · exact sz_upd h (dcN c) sm_whole _ rfl
    · split
      · exact sz_upd h (dcN c) sm_non _ rfl
      · split
        · exact h
        · exact sz_upd h (dcN c) (rs_sm _ _ _) _ rfl
  · exact sz_zC
/-- a command in a box -/
abbrev L6 (q : Nat) (c : Cm) (w : World) : Prop :=
  w.cell? ⟨q, 0, none⟩ = some (.int .i64 c.kind) ∧ w.cell? ⟨q, 1, none⟩ = some (.int .i64 c.dc) ∧ w.cell? ⟨q, 2, none⟩ = some (.int .i64 c.shard) ∧ w.cell? ⟨q, 3, none⟩ = some (.int .i64 c.node) ∧ w.cell? ⟨q, 4, none⟩ = some (.int .i64 c.mode) ∧ w.cell? ⟨q, 5, none⟩ = some (.string c.key)
theorem L6.to {q : Nat} {c : Cm} {w w1 : World} (h : L6 q c w) (hB : Below w.heap.size w w1) : L6 q c w1 :=
  ⟨keep_cell hB h.1, keep_cell hB h.2.1, keep_cell hB h.2.2.1, keep_cell hB h.2.2.2.1, keep_cell hB h.2.2.2.2.1, keep_cell hB h.2.2.2.2.2⟩
/-- What a call answers that makes a configuration, and an error beside it: the maps are the call's own. -/
def TellsS (E : Nat) (s : Cf) (w : World) (e : Ending) (w' : World) : Prop := ∃ a', e = .returned (.tuple #[.agg (cS s a'), .int .i64 E]) ∧ GS w' w.heap.size s a' ∧ Below w.heap.size w w'
theorem trans3 {w w1 w2 : World} (h1 : Below w.heap.size w w1) (h2 : Below w.heap.size w1 w2) : Below w.heap.size w w2 := h1.trans h2
theorem fin0 {w w3 w6 w7 : World} {n : Nat} (h1 : Below w.heap.size w w3) (h2 : Below w3.heap.size w3 w6) (h3 : Below n w6 w7) (hn : w.heap.size ≤ n) : Below w.heap.size w w7 := (trans0 h1 h2).trans (h3.mono hn)
set_option maxHeartbeats 1000000 in
theorem apply_any (s : Cf) (a : Wh) (c : Cm) (w : World) (hk : KC c) (h : HS w s a) : Calls Try.prog 16 #[.agg (cS s a), vC c] w (TellsS (apE s c) (apM s c) w) := by
  have hB1 := al0 w (.cells (cS s a) TS)
  have hS1 := SB.new TS s a w
  obtain ⟨W1, hW1⟩ : ∃ W1, w.alloc (.cells (cS s a) TS) = W1 := ⟨_, rfl⟩
  have hz1 : W1.heap.size = w.heap.size + 1 := by rw [← hW1]; simp
  rw [hW1] at hB1 hS1
  have hB2 := al0 W1 (.cells (cC c) 43)
  obtain ⟨d0, d1, d2⟩ := cells6 W1 c 43
  obtain ⟨e0, e2, e3, e5⟩ := cells6b W1 c 43
  obtain ⟨W2, hW2⟩ : ∃ W2, W1.alloc (.cells (cC c) 43) = W2 := ⟨_, rfl⟩
  have hz2 : W2.heap.size = w.heap.size + 1 + 1 := by rw [← hW2]; simp [hz1]
  rw [hW2] at hB2 d0 d1 d2 e0 e2 e3 e5
  rw [hz1] at d0 d1 d2 e0 e2 e3 e5
  have hB3 := al0 W2 (.cells #[.int .i64 0, .int .i64 0, .bool false, .bool false, .bool false, .bool false, .slice none 0 0, .slice none 0 0, .slice none 0 0, .slice none 0 0, .slice none 0 0, .slice none 0 0, .slice none 0 0, .slice none 0 0, .int .i64 0, .int .i64 0, .int .i64 0, .int .i64 0, .int .i64 0, .int .i64 0, .int .i64 0, .int .i64 0, .int .i64 0, .int .i64 0, .int .i64 0, .int .i64 0, .int .i64 0, .int .i64 0, .int .i64 0, .int .i64 0, .int .i64 0, .int .i64 0, .int .i64 0, .int .i64 0, .int .i64 0] TS)
  have hS3 : SB TS W2.heap.size zC zA (W2.alloc (.cells #[.int .i64 0, .int .i64 0, .bool false, .bool false, .bool false, .bool false, .slice none 0 0, .slice none 0 0, .slice none 0 0, .slice none 0 0, .slice none 0 0, .slice none 0 0, .slice none 0 0, .slice none 0 0, .int .i64 0, .int .i64 0, .int .i64 0, .int .i64 0, .int .i64 0, .int .i64 0, .int .i64 0, .int .i64 0, .int .i64 0, .int .i64 0, .int .i64 0, .int .i64 0, .int .i64 0, .int .i64 0, .int .i64 0, .int .i64 0, .int .i64 0, .int .i64 0, .int .i64 0, .int .i64 0, .int .i64 0] TS)) := SB.new TS zC zA W2
  obtain ⟨W3, hW3⟩ : ∃ W3, W2.alloc (.cells #[.int .i64 0, .int .i64 0, .bool false, .bool false, .bool false, .bool false, .slice none 0 0, .slice none 0 0, .slice none 0 0, .slice none 0 0, .slice none 0 0, .slice none 0 0, .slice none 0 0, .slice none 0 0, .int .i64 0, .int .i64 0, .int .i64 0, .int .i64 0, .int .i64 0, .int .i64 0, .int .i64 0, .int .i64 0, .int .i64 0, .int .i64 0, .int .i64 0, .int .i64 0, .int .i64 0, .int .i64 0, .int .i64 0, .int .i64 0, .int .i64 0, .int .i64 0, .int .i64 0, .int .i64 0, .int .i64 0] TS) = W3 := ⟨_, rfl⟩
  have hz3 : W3.heap.size = w.heap.size + 1 + 1 + 1 := by rw [← hW3]; simp [hz2]
  rw [hW3] at hB3 hS3
  rw [hz2] at hS3
  have hB03 := trans0 (trans0 hB1 hB2) hB3
  have hS13 := (hS1.below hB2).below hB3
  have hcp := Lib.hid (copy_any s a W3 (h.below hB03))
  have hWf : Hid (((w.alloc (.cells (cS s a) TS)).alloc (.cells (cC c) 43)).alloc (.cells #[.int .i64 0, .int .i64 0, .bool false, .bool false, .bool false, .bool false, .slice none 0 0, .slice none 0 0, .slice none 0 0, .slice none 0 0, .slice none 0 0, .slice none 0 0, .slice none 0 0, .slice none 0 0, .int .i64 0, .int .i64 0, .int .i64 0, .int .i64 0, .int .i64 0, .int .i64 0, .int .i64 0, .int .i64 0, .int .i64 0, .int .i64 0, .int .i64 0, .int .i64 0, .int .i64 0, .int .i64 0, .int .i64 0, .int .i64 0, .int .i64 0, .int .i64 0, .int .i64 0, .int .i64 0, .int .i64 0] TS) = W3) := Lib.hid (by rw [hW1, hW2, hW3])
  have hsz := Lib.hid h.sz
  have hD : L6 (w.heap.size + 1) c W3 := L6.to ⟨e0, d0, e2, d1, d2, e5⟩ hB3
  replace hD := Lib.hid hD
  replace hS3 := Lib.hid hS3
  replace hB03 := Lib.hid hB03
  replace hz3 := Lib.hid hz3
  replace hk := Lib.hid hk
  clear h hB1 hS1 hW1 hz1 hB2 d0 d1 d2 e0 e2 e3 e5 hW2 hz2 hB3 hW3
  have hcg := Lib.hid (fun (b base : Nat) (a' : Wh) (W5 : World) (h1 : SB TS b s a' W5) (h2 : GS W5 base s a') (h3 : base ≤ b) (h4 : base ≤ W5.heap.size) => change_any b base s a' c W5 hk.out h1 h2 hsz.out h3 h4)
  have hap : apM s c = if apE s c = 0 then chM s c else zC := rfl
  generalize apE s c = E at *
  by_cases h0 : E = 0
  · have h0' : ((E : Int) != 0) = false := by simp [h0]
    rw [if_pos h0] at hap
    rw [hap]
    simp only [if_pos h0] at hcg
    have hE0 := Lib.hid h0
    clear hap h0
    generalize chM s c = s2 at *
    go_enter Try.func16, Try.ntmps16
    go_upto_region 1 with (fail)
    rw [hWf.out]
    clear hWf
    go_wp2_with (first
      | (refine st_load rfl TS _ rfl w.heap.size rfl hS13 (.inl rfl) ?_; clear hS13)
      | (go_at_call 25; ((with_reducible refine hcp.out.mono ?_); rintro e w4 ⟨a', rfl, hG4, hB4⟩; have hn4 := Lib.hid (show SB TS w4.heap.size zC zA (w4.alloc (.cells #[.int .i64 0, .int .i64 0, .bool false, .bool false, .bool false, .bool false, .slice none 0 0, .slice none 0 0, .slice none 0 0, .slice none 0 0, .slice none 0 0, .slice none 0 0, .slice none 0 0, .slice none 0 0, .int .i64 0, .int .i64 0, .int .i64 0, .int .i64 0, .int .i64 0, .int .i64 0, .int .i64 0, .int .i64 0, .int .i64 0, .int .i64 0, .int .i64 0, .int .i64 0, .int .i64 0, .int .i64 0, .int .i64 0, .int .i64 0, .int .i64 0, .int .i64 0, .int .i64 0, .int .i64 0, .int .i64 0] TS)) from SB.new TS zC zA w4)))
      | (refine st_put rfl TS _ _ rfl w4.heap.size s a' rfl rfl hn4.out (.inl rfl) ?_; intro W5 hS5 hB5 hG5 hz5; have hb5 := Lib.hid (trans0 (hB4) ((al0 w4 _).trans ((hB5 w4.heap.size (Nat.le_refl _))))); have hg5 := Lib.hid (hG5 _ _ _ (hG4.below (al0 w4 _))); have hs5 := Lib.hid hS5; have hch := Lib.hid (hcg.out w4.heap.size W3.heap.size a' W5 hS5 hg5.out hB4.size (Nat.le_trans hB4.size (by rw [hz5]; simp))); have hl5 := hD.out.to hb5.out; obtain ⟨l0, l1, l2, l3, l4, l5⟩ := hl5; clear hS5 hB5 hG5 hz5 hn4 hG4 hB4)
      | (go_at_call 31; ((with_reducible refine hch.out.mono ?_); rintro e w6 ⟨rfl, a6, hS6, hG6, hB6⟩; have hs6 := Lib.hid hS6; have hg6 := Lib.hid hG6; have hb6 := Lib.hid (trans3 hb5.out hB6); have hr6 := Lib.hid (show SB TS (w.heap.size + 1 + 1) zC zA w6 from hS3.out.below hb6.out); clear hS6 hG6 hB6 l0 l1 l2 l3 l4 l5))
      | (refine st_load rfl TS _ rfl w4.heap.size rfl hs6.out (.inl rfl) ?_)
      | (refine st_put rfl TS _ _ rfl (w.heap.size + 1 + 1) s2 a6 rfl rfl hr6.out (.inl rfl) ?_; intro W7 hS7 hB7 hG7 hz7; have hs7 := Lib.hid hS7; have hb7 := Lib.hid (hB7 (w.heap.size + 1 + 1) (Nat.le_refl _)); have hg7 := Lib.hid (hG7 _ _ _ hg6.out); clear hS7 hB7 hG7 hz7)
      | fail)
    refine bodyPost_ret (v := .tuple #[.agg (cS s2 a6), .int .i64 0]) ?_ rfl ⟨a6, by rw [hE0.out]; rfl, GS.more hg7.out hB03.out.size, fin0 hB03.out hb6.out hb7.out (by omega)⟩
    exact st_res2 rfl _ _ (w.heap.size + 1 + 1) _ rfl rfl hs7.out (.inl rfl)
  · have h0' : ((E : Int) != 0) = true := by simp [h0]
    rw [if_neg h0] at hap
    rw [hap]
    simp only [if_neg h0] at hcg
    clear hap h0
    go_enter Try.func16, Try.ntmps16
    go_upto_region 1 with (fail)
    rw [hWf.out]
    clear hWf
    go_wp2_with (first
      | (refine st_load rfl TS _ rfl w.heap.size rfl hS13 (.inl rfl) ?_; clear hS13)
      | (go_at_call 25; ((with_reducible refine hcp.out.mono ?_); rintro e w4 ⟨a', rfl, hG4, hB4⟩; have hn4 := Lib.hid (show SB TS w4.heap.size zC zA (w4.alloc (.cells #[.int .i64 0, .int .i64 0, .bool false, .bool false, .bool false, .bool false, .slice none 0 0, .slice none 0 0, .slice none 0 0, .slice none 0 0, .slice none 0 0, .slice none 0 0, .slice none 0 0, .slice none 0 0, .int .i64 0, .int .i64 0, .int .i64 0, .int .i64 0, .int .i64 0, .int .i64 0, .int .i64 0, .int .i64 0, .int .i64 0, .int .i64 0, .int .i64 0, .int .i64 0, .int .i64 0, .int .i64 0, .int .i64 0, .int .i64 0, .int .i64 0, .int .i64 0, .int .i64 0, .int .i64 0, .int .i64 0] TS)) from SB.new TS zC zA w4)))
      | (refine st_put rfl TS _ _ rfl w4.heap.size s a' rfl rfl hn4.out (.inl rfl) ?_; intro W5 hS5 hB5 hG5 hz5; have hb5 := Lib.hid (trans0 (hB4) ((al0 w4 _).trans ((hB5 w4.heap.size (Nat.le_refl _))))); have hg5 := Lib.hid (hG5 _ _ _ (hG4.below (al0 w4 _))); have hs5 := Lib.hid hS5; have hch := Lib.hid (hcg.out w4.heap.size W3.heap.size a' W5 hS5 hg5.out hB4.size (Nat.le_trans hB4.size (by rw [hz5]; simp))); have hl5 := hD.out.to hb5.out; obtain ⟨l0, l1, l2, l3, l4, l5⟩ := hl5; clear hS5 hB5 hG5 hz5 hn4 hG4 hB4)
      | (go_at_call 31; ((with_reducible refine hch.out.mono ?_); rintro e w6 ⟨rfl, a6, hS6, hG6, hB6⟩; have hs6 := Lib.hid hS6; have hg6 := Lib.hid hG6; have hb6 := Lib.hid (trans3 hb5.out hB6); have hr6 := Lib.hid (show SB TS (w.heap.size + 1 + 1) zC zA w6 from hS3.out.below hb6.out); clear hS6 hG6 hB6 l0 l1 l2 l3 l4 l5))
          | (refine st_put rfl TS _ _ rfl (w.heap.size + 1 + 1) zC zA rfl rfl hr6.out (.inl rfl) ?_; intro W7 hS7 hB7 hG7 hz7; have hs7 := Lib.hid hS7; have hb7 := Lib.hid (hB7 (w.heap.size + 1 + 1) (Nat.le_refl _)); clear hS7 hB7 hG7 hz7)
      | fail)
    refine bodyPost_ret (v := .tuple #[.agg (cS zC zA), .int .i64 E]) ?_ rfl ⟨zA, rfl, zGS _ _, fin0 hB03.out hb6.out hb7.out (by omega)⟩
    exact st_res2 rfl _ _ (w.heap.size + 1 + 1) _ rfl rfl hs7.out (.inl rfl)
end Go.Proofs.Ytpijljbkdfjhcaa.cfI
