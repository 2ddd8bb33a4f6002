/- The document's Apply: Add, Remove. -/
import Derived.Test.YtpijljbkdfjhcaaCfQ
set_option linter.unusedVariables false
set_option maxRecDepth 100000
namespace Go.Proofs.Ytpijljbkdfjhcaa.cfS
open Go.ChangeShapes Go.WideShapes Go.ChangeAt Go.RowKit Go.Deep
open spnM spnA spnB spnD spnI spnJ spnK spnS cfA cfB cfC cfD cfE cfF cfG cfH cfI cfJ cfK cfR cfL cfM cfN cfO cfQ
attribute [local go_sem ↓ high] op_ldS op_ldR op_ldM ex_ldS ex_ldR ex_ldM

theorem l6_set {q p : Nat} {c : Cm} {w : World} (h : L6 q c w) (hne : p ≠ q) (i : Nat) (v : Value) : L6 q c (w.setCell ⟨p, i, none⟩ v) := by
  have e : ∀ o, (w.setCell ⟨p, i, none⟩ v).cell? ⟨q, o, none⟩ = w.cell? ⟨q, o, none⟩ := fun o => World.cell?_setCell_other _ _ _ _ (fun e => hne (congrArg Addr.block e))
  exact ⟨(e 0).trans h.1, (e 1).trans h.2.1, (e 2).trans h.2.2.1, (e 3).trans h.2.2.2.1, (e 4).trans h.2.2.2.2.1, (e 5).trans h.2.2.2.2.2⟩
theorem l6_al {q : Nat} {c : Cm} {w : World} (h : L6 q c w) (o : Obj) : L6 q c (w.alloc o) := L6.to h (al0 w o)
theorem l6_set2 {q p : Nat} {c : Cm} {w : World} (h : L6 q c w) (hne : p ≠ q) (i : Nat) (v : Value) (i' : Nat) (v' : Value) : L6 q c ((w.setCell ⟨p, i, none⟩ v).setCell ⟨p, i', none⟩ v') := l6_set (l6_set h hne i v) hne i' v'
theorem gs_map {b base j : Nat} {s s' : Cf} {a a' : Wh} {w : World} {A1 A2 : Option Addr} {c1 c2 : Nat} {m : M} (hG : GS w base s a) (hS : SB TR b s' a' w) :
    GS ((w.setCell ⟨b, 6 + j * 2, none⟩ (.slice A1 m.cs.length c1)).setCell ⟨b, 6 + j * 2 + 1, none⟩ (.slice A2 m.ns.length c2)) base s a := by
  have g2 := hG.box hS tr1 tr2 (6 + j * 2) (.slice A1 m.cs.length c1)
  obtain ⟨cc, hcc⟩ : ∃ cc, (w.setCell ⟨b, 6 + j * 2, none⟩ (.slice A1 m.cs.length c1)).heap[b]? = some (.cells cc TR (0, 0)) := ⟨_, heap_setCell_same w b (6 + j * 2) _ TR (.slice A1 m.cs.length c1) hS⟩
  have hne : ∀ {v : Value} {sz k : Nat} {e : TypeId} {xs : List Value}, (w.setCell ⟨b, 6 + j * 2, none⟩ (.slice A1 m.cs.length c1)).ownsRow base e sz v k xs → TR ≠ e → v.ownBlock ≠ some b := by
    intro v sz k e xs ho hne
    rcases ho.2 with ⟨rfl, _⟩ | ⟨g, cap, cur, rfl, _, hg, _⟩
    · intro e; cases e
    · intro e1
      have e2 : g = b := by simpa [Value.ownBlock] using e1
      subst e2
      rw [hcc] at hg
      simp at hg
      exact hne hg.2
  exact fun i hi => ⟨own_block (g2 i hi).cs fun k e => Below.heap_setCell _ _ _ _ (fun e1 => hne (g2 i hi).cs tr1 (by rw [e, e1])), own_block (g2 i hi).ns fun k e => Below.heap_setCell _ _ _ _ (fun e1 => hne (g2 i hi).ns tr2 (by rw [e, e1]))⟩
set_option maxHeartbeats 4000000 in
theorem rap_add (s : Cf) (a : Wh) (c : Cm) (w : World) (h : c.kind = 1) (h2 : 0 ≤ c.dc ∧ c.dc ≤ 3) (h3 : c.dc < s.pool) (h4 : s.me (dcN c) = false) (hH : HS w s a) : Calls Try.prog 17 #[.agg (cS s a), vC c] w (DocS s a 0 (addM s (dcN c)) w) := by
  have hB1 := al0 w (.cells (cS s a) TR)
  have hS1 := SB.new TR s a w
  obtain ⟨W1, hW1⟩ : ∃ W1, w.alloc (.cells (cS s a) TR) = W1 := ⟨_, rfl⟩
  have hz1 : W1.heap.size = w.heap.size + 1 := by rw [← hW1]; simp
  rw [hW1] at hB1 hS1
  have hB2 := al0 W1 (.cells (cC c) 43)
  obtain ⟨d0, d1, d2⟩ := cells6 W1 c 43
  obtain ⟨e0, e2, e3, e5⟩ := cells6b W1 c 43
  obtain ⟨W2, hW2⟩ : ∃ W2, W1.alloc (.cells (cC c) 43) = W2 := ⟨_, rfl⟩
  have hz2 : W2.heap.size = w.heap.size + 1 + 1 := by rw [← hW2]; simp [hz1]
  rw [hW2] at hB2 d0 d1 d2 e0 e2 e3 e5
  rw [hz1] at d0 d1 d2 e0 e2 e3 e5
  have hB3 := al0 W2 (.cells #[.int .i64 0, .int .i64 0, .bool false, .bool false, .bool false, .bool false, .slice none 0 0, .slice none 0 0, .slice none 0 0, .slice none 0 0, .slice none 0 0, .slice none 0 0, .slice none 0 0, .slice none 0 0, .int .i64 0, .int .i64 0, .int .i64 0, .int .i64 0, .int .i64 0, .int .i64 0, .int .i64 0, .int .i64 0, .int .i64 0, .int .i64 0, .int .i64 0, .int .i64 0, .int .i64 0, .int .i64 0, .int .i64 0, .int .i64 0, .int .i64 0, .int .i64 0, .int .i64 0, .int .i64 0, .int .i64 0] TR)
  have hS3 : SB TR W2.heap.size zC zA (W2.alloc (.cells #[.int .i64 0, .int .i64 0, .bool false, .bool false, .bool false, .bool false, .slice none 0 0, .slice none 0 0, .slice none 0 0, .slice none 0 0, .slice none 0 0, .slice none 0 0, .slice none 0 0, .slice none 0 0, .int .i64 0, .int .i64 0, .int .i64 0, .int .i64 0, .int .i64 0, .int .i64 0, .int .i64 0, .int .i64 0, .int .i64 0, .int .i64 0, .int .i64 0, .int .i64 0, .int .i64 0, .int .i64 0, .int .i64 0, .int .i64 0, .int .i64 0, .int .i64 0, .int .i64 0, .int .i64 0, .int .i64 0] TR)) := SB.new TR zC zA W2
  obtain ⟨W, hW3⟩ : ∃ W3, W2.alloc (.cells #[.int .i64 0, .int .i64 0, .bool false, .bool false, .bool false, .bool false, .slice none 0 0, .slice none 0 0, .slice none 0 0, .slice none 0 0, .slice none 0 0, .slice none 0 0, .slice none 0 0, .slice none 0 0, .int .i64 0, .int .i64 0, .int .i64 0, .int .i64 0, .int .i64 0, .int .i64 0, .int .i64 0, .int .i64 0, .int .i64 0, .int .i64 0, .int .i64 0, .int .i64 0, .int .i64 0, .int .i64 0, .int .i64 0, .int .i64 0, .int .i64 0, .int .i64 0, .int .i64 0, .int .i64 0, .int .i64 0] TR) = W3 := ⟨_, rfl⟩
  have hz3 : W.heap.size = w.heap.size + 1 + 1 + 1 := by rw [← hW3]; simp [hz2]
  rw [hW3] at hB3 hS3
  rw [hz2] at hS3
  have hB03 := trans0 (trans0 hB1 hB2) hB3
  have hS := (hS1.below hB2).below hB3
  have hWf : Hid (((w.alloc (.cells (cS s a) TR)).alloc (.cells (cC c) 43)).alloc (.cells #[.int .i64 0, .int .i64 0, .bool false, .bool false, .bool false, .bool false, .slice none 0 0, .slice none 0 0, .slice none 0 0, .slice none 0 0, .slice none 0 0, .slice none 0 0, .slice none 0 0, .slice none 0 0, .int .i64 0, .int .i64 0, .int .i64 0, .int .i64 0, .int .i64 0, .int .i64 0, .int .i64 0, .int .i64 0, .int .i64 0, .int .i64 0, .int .i64 0, .int .i64 0, .int .i64 0, .int .i64 0, .int .i64 0, .int .i64 0, .int .i64 0, .int .i64 0, .int .i64 0, .int .i64 0, .int .i64 0] TR) = W) := Lib.hid (by rw [hW1, hW2, hW3])
  have D0 := keep_cell hB3 d0
  have D1 := keep_cell hB3 d1
  have D2 := keep_cell hB3 d2
  have E0 := keep_cell hB3 e0
  have E2 := keep_cell hB3 e2
  have E3 := keep_cell hB3 e3
  have E5 := keep_cell hB3 e5
  have k0 := hS.c0
  have k1 := hS.c1
  have hle := Lib.hid (show w.heap.size ≤ w.heap.size + 1 + 1 by omega)
  have hL := Lib.hid (show L6 (w.heap.size + 1) c W from ⟨E0, D0, E2, D1, D2, E5⟩)
  replace hB03 := Lib.hid hB03
  replace hS3 := Lib.hid hS3
  replace hS := Lib.hid hS
  replace hz3 := Lib.hid hz3
  clear hB1 hS1 hW1 hz1 hB2 d0 d1 d2 e0 e2 e3 e5 hW2 hz2 hB3 hW3
  have hj4 : dcN c < 4 := by unfold dcN; omega
  have hj0 : (0 : Int) ≤ c.dc := by omega
  have hj1 : c.dc < 4 := by omega
  have hj2 : c.dc.toNat = dcN c := rfl
  have i0 : ¬ c.kind < 1 := by omega
  have i1 : ¬ 6 < c.kind := by omega
  have i2 : ¬ c.dc < 0 := by omega
  have i3 : ¬ 3 < c.dc := by omega
  have i4 : decide (s.pool ≤ c.dc) = false := decide_eq_false (by omega)
  have t1 : (c.kind == 1) = true := by rw [beq_iff_eq]; omega
  have km := hS.out.me hj4
  have fm := hS.out.fz
  rw [h4] at km
  have hS2 := hS.out.setMe hj4 true
  have hz2 : (W.setCell ⟨w.heap.size, 2 + dcN c, none⟩ (.bool true)).heap.size = W.heap.size := by simp
  have hZ2 := hS3.out.other (b' := w.heap.size) (by omega) (2 + dcN c) (.bool true)
  have hB2 := hB03.out.setCell (p := ⟨w.heap.size, 2 + dcN c, none⟩) (Nat.le_refl _) (.bool true)
  have hS4 := hS2.below (al0 _ (.cells #[.int .i64 0] 3))
  have hZ3 := hZ2.below (al0 _ (.cells #[.int .i64 0] 3))
  have hB4 := hB2.alloc hB2.size (.cells #[.int .i64 0] 3)
  have hrow := World.ownsRow_lit (e := 3) (size := 1) (base := W.heap.size) (W.setCell ⟨w.heap.size, 2 + dcN c, none⟩ (.bool true)) #[.int .i64 0] 1 (by rw [hz2]; exact Nat.le_refl _) (by unfold maxLen; omega) rfl
  rw [hz2] at hrow
  have hg2 : GS _ W.heap.size (dmC whole) (dmA none 0 (some ⟨W.heap.size, 0, none⟩) 1) := fun i _ => ⟨World.ownsRow_nil _ _ _ 1, hrow⟩
  have k2 := hS4.m1 hj4
  have k3 := hS4.m2 hj4
  have f3 := hS4.fz
  have hS5 := hS4.setMa hj4 none 0 (some ⟨W.heap.size, 0, none⟩) 1 whole
  have hS4' : SB TR w.heap.size { s with me := upd s.me (dcN c) true } a _ := hS4
  have hZ4 := Lib.hid ((hZ3.other (b' := w.heap.size) (by omega) (6 + dcN c * 2) (.slice none whole.cs.length 0)).other (b' := w.heap.size) (by omega) (6 + dcN c * 2 + 1) (.slice (some ⟨W.heap.size, 0, none⟩) whole.ns.length 1))
  have hg4 := Lib.hid (gs_map (m := whole) (A1 := none) (c1 := 0) (A2 := some ⟨W.heap.size, 0, none⟩) (c2 := 1) (j := dcN c) hg2 hS4)
  have hb4 := Lib.hid ((hB4.setCell (p := ⟨w.heap.size, 6 + dcN c * 2, none⟩) (Nat.le_refl _) (.slice none whole.cs.length 0)).setCell (p := ⟨w.heap.size, 6 + dcN c * 2 + 1, none⟩) (Nat.le_refl _) (.slice (some ⟨W.heap.size, 0, none⟩) whole.ns.length 1))
  have hc5 := Lib.hid hS5
  replace hH := Lib.hid hH
  have hq := Lib.hid (show (addM s (dcN c)).ms = upd s.ms (dcN c) whole from rfl)
  unfold addM at hq ⊢
  clear h h2 h3 h4 hS hS2 hz2 hZ2 hB2 hS4 hZ3 hB4 hrow hg2 hS5 hS4'
  have e2 := Lib.hid (show c.dc = ((dcN c : Nat) : Int) by unfold dcN; omega)
  generalize dcN c = jn at *
  have hl4 := Lib.hid (show L6 (w.heap.size + 1) c _ from l6_set2 (l6_al (l6_set (p := w.heap.size) hL.out (by omega) (2 + jn) (.bool true)) (.cells #[.int .i64 0] 3)) (p := w.heap.size) (by omega) (6 + jn * 2) (.slice none 0 0) (6 + jn * 2 + 1) (.slice (some ⟨W.heap.size, 0, none⟩) 1 1))
  go_enter Try.func17, Try.ntmps17
  go_upto_region 1 with (fail)
  rw [hWf.out]
  clear hWf
  go_upto_region 10 with (fail)
  obtain ⟨V, hV⟩ : ∃ V, ((((W.setCell ⟨w.heap.size, 2 + jn, none⟩ (.bool true)).alloc (.cells #[.int .i64 0] 3)).setCell ⟨w.heap.size, 6 + jn * 2, none⟩ (.slice none 0 0)).setCell ⟨w.heap.size, 6 + jn * 2 + 1, none⟩ (.slice (some ⟨W.heap.size, 0, none⟩) 1 1)) = V := ⟨_, rfl⟩
  have hZ4' : Hid (SB TR (w.heap.size + 1 + 1) zC zA V) := Lib.hid (hV ▸ hZ4.out)
  have hg4' : Hid (GS V W.heap.size (dmC whole) (dmA none 0 (some ⟨W.heap.size, 0, none⟩) 1)) := Lib.hid (hV ▸ hg4.out)
  have hb4' : Hid (Below w.heap.size w V) := Lib.hid (hV ▸ hb4.out)
  have hc5' : Hid (SB TR w.heap.size (joinM s jn) (upd a jn ⟨none, 0, some ⟨W.heap.size, 0, none⟩, 1⟩) V) := Lib.hid (hV ▸ hc5.out)
  have hl5 : L6 (w.heap.size + 1) c V := hV ▸ hl4.out
  rw [hV]
  clear hV hZ4 hg4 hb4 hc5 hl4 km fm k2 k3 f3 D0 D1 D2 E0 E2 E3 E5
  obtain ⟨l0, l1, l2, l3, l4, l5⟩ := hl5
  have hbo := rboth_any (joinM s jn) (upd a jn ⟨none, 0, some ⟨W.heap.size, 0, none⟩, 1⟩) jn hj4 V
  rw [← e2.out] at hbo
  replace hbo := Lib.hid hbo
  go_wp2_with (first | (go_at_call 32; ((with_reducible refine hbo.out.mono ?_); rintro e w5 ⟨rfl, hB5⟩; have hZ5 := Lib.hid (hZ4'.out.below hB5); have hg5 := Lib.hid (hg4'.out.below hB5); have hb5 := Lib.hid (hb4'.out.trans (hB5.mono hb4'.out.size)); clear hB5)) | (refine st_load rfl TR _ rfl w.heap.size rfl hc5'.out (.inr rfl) ?_) | (refine st_put rfl TR _ _ rfl (w.heap.size + 1 + 1) (spkM (joinM s jn) jn 5 2) (upd a jn ⟨none, 0, some ⟨W.heap.size, 0, none⟩, 1⟩) rfl rfl hZ5.out (.inr rfl) ?_; intro W9 hS9 hB9 hG9 hz9; have hs9 := Lib.hid hS9; have hb9 := Lib.hid (hB9 w.heap.size hle.out); have hg9 := Lib.hid (hG9 _ _ _ hg5.out); clear hS9 hB9 hG9 hz9) | fail)
  refine bodyPost_ret (v := .tuple #[.agg (cS (spkM (joinM s jn) jn 5 2) (upd a jn ⟨none, 0, some ⟨W.heap.size, 0, none⟩, 1⟩)), .int .i64 0]) (st_res2 rfl _ _ (w.heap.size + 1 + 1) _ rfl rfl hs9.out (.inr rfl)) rfl ⟨_, rfl, mx_fin hg9.out hB03.out.size sm_whole hq.out, hb5.out.trans hb9.out⟩
end Go.Proofs.Ytpijljbkdfjhcaa.cfS
