/- The document's Apply: Split, Merge, Move. -/
import Derived.Test.YtpijljbkdfjhcaaCfT
import Derived.Test.YtpijljbkdfjhcaaCfG
set_option linter.unusedVariables false
set_option maxRecDepth 100000
namespace Go.Proofs.Ytpijljbkdfjhcaa.cfU
open Go.ChangeShapes Go.WideShapes Go.ChangeAt Go.RowKit Go.Deep
open spnM spnA spnB spnD spnI spnJ spnK spnS cfA cfB cfC cfD cfE cfF cfG cfH cfI cfJ cfK cfR cfL cfM cfN cfO cfQ cfS cfT
attribute [local go_sem ↓ high] op_ldS op_ldR op_ldM ex_ldS ex_ldR ex_ldM

theorem l9_of {w : World} {T : TypeId} {b q j : Nat} {s : Cf} {a : Wh} {c : Cm} (hS : SB T b s a w) (hj : j < 4) (h : L6 q c w) : L9 b q j s a c w :=
  ⟨h.1, h.2.1, h.2.2.1, h.2.2.2.1, h.2.2.2.2.1, h.2.2.2.2.2, hS.c1, hS.m1 hj, hS.m2 hj⟩
theorem sb_set2 {w : World} {T : TypeId} {b p : Nat} {s : Cf} {a : Wh} (h : SB T b s a w) (hne : b ≠ p) (x y : Value) : SB T b s a ((w.setCell ⟨p, 0, none⟩ x).setCell ⟨p, 1, none⟩ y) := (h.other hne 0 x).other hne 1 y
/-- behind the region: the new map in its box, the call's own -/
theorem own_box {V w' : World} {p : Nat} {A1 A2 : Option Addr} {c1 c2 : Nat} {m : M} (hb : B2 p (.slice none 0 0) (.slice none 0 0) V) (hp : p < V.heap.size) (hG : GM w' V.heap.size A1 c1 A2 c2 m) (hB : Below V.heap.size V w') :
    B2 p (.slice A1 m.cs.length c1) (.slice A2 m.ns.length c2) ((w'.setCell ⟨p, 0, none⟩ (.slice A1 m.cs.length c1)).setCell ⟨p, 1, none⟩ (.slice A2 m.ns.length c2)) ∧ GS ((w'.setCell ⟨p, 0, none⟩ (.slice A1 m.cs.length c1)).setCell ⟨p, 1, none⟩ (.slice A2 m.ns.length c2)) V.heap.size (dmC m) (dmA A1 c1 A2 c2) :=
  ⟨(hb.below hB).put _ _, fun i _ => hG.set2 hp _ _⟩
set_option maxHeartbeats 4000000 in
theorem rap_Split (s : Cf) (a : Wh) (c : Cm) (w : World) (h : c.kind = 3) (h2 : 0 ≤ c.dc ∧ c.dc ≤ 3) (h3 : c.dc < s.pool) (h4 : s.me (dcN c) = true) (hk : KC c) (hH : HS w s a) : Calls Try.prog 17 #[.agg (cS s a), vC c] w (DocS s a (rsE (s.ms (dcN c)) s.nodes c) (if rsE (s.ms (dcN c)) s.nodes c = 0 then shpM s (dcN c) c else zC) w) := by
  have hB1 := al0 w (.cells (cS s a) TR)
  have hS1 := SB.new TR s a w
  obtain ⟨W1, hW1⟩ : ∃ W1, w.alloc (.cells (cS s a) TR) = W1 := ⟨_, rfl⟩
  have hz1 : W1.heap.size = w.heap.size + 1 := by rw [← hW1]; simp
  rw [hW1] at hB1 hS1
  have hB2 := al0 W1 (.cells (cC c) 43)
  obtain ⟨d0, d1, d2⟩ := cells6 W1 c 43
  obtain ⟨e0, e2, e3, e5⟩ := cells6b W1 c 43
  obtain ⟨W2, hW2⟩ : ∃ W2, W1.alloc (.cells (cC c) 43) = W2 := ⟨_, rfl⟩
  have hz2 : W2.heap.size = w.heap.size + 1 + 1 := by rw [← hW2]; simp [hz1]
  rw [hW2] at hB2 d0 d1 d2 e0 e2 e3 e5
  rw [hz1] at d0 d1 d2 e0 e2 e3 e5
  have hB3 := al0 W2 (.cells #[.int .i64 0, .int .i64 0, .bool false, .bool false, .bool false, .bool false, .slice none 0 0, .slice none 0 0, .slice none 0 0, .slice none 0 0, .slice none 0 0, .slice none 0 0, .slice none 0 0, .slice none 0 0, .int .i64 0, .int .i64 0, .int .i64 0, .int .i64 0, .int .i64 0, .int .i64 0, .int .i64 0, .int .i64 0, .int .i64 0, .int .i64 0, .int .i64 0, .int .i64 0, .int .i64 0, .int .i64 0, .int .i64 0, .int .i64 0, .int .i64 0, .int .i64 0, .int .i64 0, .int .i64 0, .int .i64 0] TR)
  have hS3 : SB TR W2.heap.size zC zA (W2.alloc (.cells #[.int .i64 0, .int .i64 0, .bool false, .bool false, .bool false, .bool false, .slice none 0 0, .slice none 0 0, .slice none 0 0, .slice none 0 0, .slice none 0 0, .slice none 0 0, .slice none 0 0, .slice none 0 0, .int .i64 0, .int .i64 0, .int .i64 0, .int .i64 0, .int .i64 0, .int .i64 0, .int .i64 0, .int .i64 0, .int .i64 0, .int .i64 0, .int .i64 0, .int .i64 0, .int .i64 0, .int .i64 0, .int .i64 0, .int .i64 0, .int .i64 0, .int .i64 0, .int .i64 0, .int .i64 0, .int .i64 0] TR)) := SB.new TR zC zA W2
  obtain ⟨W, hW3⟩ : ∃ W3, W2.alloc (.cells #[.int .i64 0, .int .i64 0, .bool false, .bool false, .bool false, .bool false, .slice none 0 0, .slice none 0 0, .slice none 0 0, .slice none 0 0, .slice none 0 0, .slice none 0 0, .slice none 0 0, .slice none 0 0, .int .i64 0, .int .i64 0, .int .i64 0, .int .i64 0, .int .i64 0, .int .i64 0, .int .i64 0, .int .i64 0, .int .i64 0, .int .i64 0, .int .i64 0, .int .i64 0, .int .i64 0, .int .i64 0, .int .i64 0, .int .i64 0, .int .i64 0, .int .i64 0, .int .i64 0, .int .i64 0, .int .i64 0] TR) = W3 := ⟨_, rfl⟩
  have hz3 : W.heap.size = w.heap.size + 1 + 1 + 1 := by rw [← hW3]; simp [hz2]
  rw [hW3] at hB3 hS3
  rw [hz2] at hS3
  have hB03 := trans0 (trans0 hB1 hB2) hB3
  have hS := (hS1.below hB2).below hB3
  have hWf : Hid (((w.alloc (.cells (cS s a) TR)).alloc (.cells (cC c) 43)).alloc (.cells #[.int .i64 0, .int .i64 0, .bool false, .bool false, .bool false, .bool false, .slice none 0 0, .slice none 0 0, .slice none 0 0, .slice none 0 0, .slice none 0 0, .slice none 0 0, .slice none 0 0, .slice none 0 0, .int .i64 0, .int .i64 0, .int .i64 0, .int .i64 0, .int .i64 0, .int .i64 0, .int .i64 0, .int .i64 0, .int .i64 0, .int .i64 0, .int .i64 0, .int .i64 0, .int .i64 0, .int .i64 0, .int .i64 0, .int .i64 0, .int .i64 0, .int .i64 0, .int .i64 0, .int .i64 0, .int .i64 0] TR) = W) := Lib.hid (by rw [hW1, hW2, hW3])
  have D0 := keep_cell hB3 d0
  have D1 := keep_cell hB3 d1
  have D2 := keep_cell hB3 d2
  have E0 := keep_cell hB3 e0
  have E2 := keep_cell hB3 e2
  have E3 := keep_cell hB3 e3
  have E5 := keep_cell hB3 e5
  have k0 := hS.c0
  have k1 := hS.c1
  have hle := Lib.hid (show w.heap.size ≤ w.heap.size + 1 + 1 by omega)
  have hL := Lib.hid (show L6 (w.heap.size + 1) c W from ⟨E0, D0, E2, D1, D2, E5⟩)
  replace hB03 := Lib.hid hB03
  replace hS3 := Lib.hid hS3
  replace hS := Lib.hid hS
  replace hz3 := Lib.hid hz3
  clear hB1 hS1 hW1 hz1 hB2 d0 d1 d2 e0 e2 e3 e5 hW2 hz2 hB3 hW3
  have hj4 : dcN c < 4 := by unfold dcN; omega
  have hj0 : (0 : Int) ≤ c.dc := by omega
  have hj1 : c.dc < 4 := by omega
  have hj2 : c.dc.toNat = dcN c := rfl
  have i0 : ¬ c.kind < 1 := by omega
  have i1 : ¬ 6 < c.kind := by omega
  have i2 : ¬ c.dc < 0 := by omega
  have i3 : ¬ 3 < c.dc := by omega
  have i4 : decide (s.pool ≤ c.dc) = false := decide_eq_false (by omega)
  have t1 : (c.kind == 1) = false := by rw [beq_eq_false_iff_ne]; omega
  have t2 : (c.kind == 2) = false := by rw [beq_eq_false_iff_ne]; omega
  have t6 : (c.kind == 6) = false := by rw [beq_eq_false_iff_ne]; omega
  have t3 : (c.kind == 3) = true := by rw [beq_iff_eq]; omega
  have t4 : (c.kind == 4) = false := by rw [beq_eq_false_iff_ne]; omega
  have km := hS.out.me hj4
  rw [h4] at km
  have hrE : rsE (s.ms (dcN c)) s.nodes c = splE (s.ms (dcN c)) s.nodes c.shard c.key := by unfold rsE; rw [if_pos h]
  have hrM : rsM (s.ms (dcN c)) s.nodes c = splM (s.ms (dcN c)) s.nodes c.shard c.key := by unfold rsM; rw [if_pos h]
  have hsm := Lib.hid (rs_sm (s.ms (dcN c)) s.nodes c)
  obtain ⟨R, hR⟩ : ∃ R, (if rsE (s.ms (dcN c)) s.nodes c = 0 then shpM s (dcN c) c else zC) = R := ⟨_, rfl⟩
  rw [hR]
  unfold shpM at hR
  replace hH := Lib.hid hH
  have hbm := B2.new W (.slice none 0 0) (.slice none 0 0)
  have hlW := al0 W (.cells #[.slice none 0 0, .slice none 0 0] 26)
  obtain ⟨V, hV⟩ : ∃ V, W.alloc (.cells #[.slice none 0 0, .slice none 0 0] 26) = V := ⟨_, rfl⟩
  rw [hV] at hbm hlW
  have hVf := Lib.hid hV
  have hpV := Lib.hid (show W.heap.size < V.heap.size by rw [← hV]; simp)
  have hSV := Lib.hid (hS.out.below hlW)
  have hZV := Lib.hid (hS3.out.below hlW)
  have hBV := Lib.hid (trans0 hB03.out hlW)
  have hLV := Lib.hid (l9_of hSV.out hj4 (L6.to hL.out hlW))
  have hs4 := Lib.hid (hLV.out.to (below_drew V))
  have hwV := Lib.hid (hBV.out.drew)
  have hne := Lib.hid (show W.heap.size ≠ w.heap.size + 1 ∧ W.heap.size ≠ w.heap.size from by have := hz3.out; omega)
  have hcl := Lib.hid (spnIr.rsplit_any _ _ _ _ (s.ms (dcN c)) s.nodes c.shard c.key V.drew ((hH.out (dcN c) hj4).below hwV.out) hk.shard)
  have e2 : c.dc = ((dcN c : Nat) : Int) := by unfold dcN; omega
  replace e2 := Lib.hid e2
  rw [hrE] at hR ⊢
  rw [hrM] at hR hsm
  replace hR := Lib.hid hR
  replace hbm := Lib.hid hbm
  clear h h2 h3 h4 hrE hrM hV hlW hk
  generalize splE (s.ms (dcN c)) s.nodes c.shard c.key = E at *
  generalize splM (s.ms (dcN c)) s.nodes c.shard c.key = m at *
  generalize dcN c = jn at *
  have hn1 : w.heap.size + 1 + 1 ≠ W.heap.size := by have := hz3.out; omega
  have hn2 : w.heap.size ≠ W.heap.size := by have := hz3.out; omega
  have hn3 : w.heap.size ≤ W.heap.size := by have := hz3.out; omega
  have hfn := Lib.hid (fun (w' : World) (A1 A2 : Option Addr) (c1 c2 : Nat) (hG : GM w' V.heap.size A1 c1 A2 c2 m) (hB : Below V.heap.size V w') => And.intro (own_box hbm.out hpV.out hG hB) (And.intro (below2 (B := w.heap.size) (b := W.heap.size) (i := 0) (j := 1) (hBV.out.trans (hB.mono hBV.out.size)) hn3 (.slice A1 m.cs.length c1) (.slice A2 m.ns.length c2)) (And.intro (sb_set2 (p := W.heap.size) (hZV.out.below hB) hn1 (.slice A1 m.cs.length c1) (.slice A2 m.ns.length c2)) (sb_set2 (p := W.heap.size) (hSV.out.below hB) hn2 (.slice A1 m.cs.length c1) (.slice A2 m.ns.length c2)))))
  clear hn1 hn2 hn3
  go_enter Try.func17, Try.ntmps17
  go_upto_region 1 with (fail)
  rw [hWf.out]
  clear hWf
  go_upto_region 22 with (fail)
  rw [hVf.out]
  clear D0 D1 D2 E0 E2 E3 E5 k0 k1 km i0 i1 i2 i3 i4 t1 t2 t6
  have l0 := hLV.out.1
  go_wp2_with (fail)
  clear l0 t3 t4
  go_region_held3 (L9 w.heap.size (w.heap.size + 1) jn s a c)
    (first | with_reducible exact hs4.out | with_reducible exact s4.out | with_reducible exact t4.out _ _ | (go_must (exact (0 : Nat))) | fail)
    (first | (go_at_call 34; ((with_reducible refine hcl.out.mono ?_); rintro e w' ⟨A1, c1, A2, c2, rfl, hG', hB'⟩; have s4 := Lib.hid (L9.to hs4.out hB'); have t4 := Lib.hid (fun x y => L9.set2 (p := W.heap.size) s4.out hne.out.1 hne.out.2 x y); obtain ⟨y0, y1, y2, y3⟩ := (hbm.out.below (undrew' hB')).cells; have hfx := Lib.hid (hfn.out w' A1 A2 c1 c2 hG' (undrew' hB')); clear hG' hB')) | fail)
  all_goals
    have hll := Lib.hid (t4.out (.slice A1 m.cs.length c1) (.slice A2 m.ns.length c2))
    obtain ⟨X, hX⟩ : ∃ X, (w'.setCell ⟨W.heap.size, 0, none⟩ (.slice A1 m.cs.length c1)).setCell ⟨W.heap.size, 1, none⟩ (.slice A2 m.ns.length c2) = X := ⟨_, rfl⟩
    obtain ⟨hon, hbb, hzz, hss⟩ := hfx.out
    clear hfx
    rw [hX] at hll hon hbb hzz hss
    rw [hX]
    replace hon := Lib.hid hon
    replace hbb := Lib.hid hbb
    replace hzz := Lib.hid hzz
    replace hss := Lib.hid hss
    clear hX y0 y1 y2 y3 s4 t4
    by_cases h0 : E = 0
    · subst h0
      obtain rfl := hR.out
      obtain ⟨l0, l1, l2, l3, l4, l5, l6, l7, l8⟩ := hll.out
      obtain ⟨y0, y1, -, -⟩ := hon.out.1.cells
      have f := hss.out.fz
      have hS6 := Lib.hid (hss.out.setMa hj4 A1 c1 A2 c2 m)
      have hZ6 := Lib.hid ((hzz.out.other (b' := w.heap.size) (by omega) (6 + jn * 2) (.slice A1 m.cs.length c1)).other (b' := w.heap.size) (by omega) (6 + jn * 2 + 1) (.slice A2 m.ns.length c2))
      have hG6 := Lib.hid (gs_map (m := m) (A1 := A1) (c1 := c1) (A2 := A2) (c2 := c2) (j := jn) hon.out.2 hss.out)
      have hB6 := Lib.hid ((hbb.out.setCell (p := ⟨w.heap.size, 6 + jn * 2, none⟩) (Nat.le_refl _) (.slice A1 m.cs.length c1)).setCell (p := ⟨w.heap.size, 6 + jn * 2 + 1, none⟩) (Nat.le_refl _) (.slice A2 m.ns.length c2))
      go_upto_region 31 with (fail)
      obtain ⟨Y, hY⟩ : ∃ Y, (X.setCell ⟨w.heap.size, 6 + jn * 2, none⟩ (.slice A1 m.cs.length c1)).setCell ⟨w.heap.size, 6 + jn * 2 + 1, none⟩ (.slice A2 m.ns.length c2) = Y := ⟨_, rfl⟩
      rw [hY] at hS6 hZ6 hG6 hB6
      rw [hY]
      clear hY l0 l1 l2 l3 l4 l5 l6 l7 l8 y0 y1 f hll hon hbb hzz hss
      go_wp2_with (first | (refine st_load rfl TR _ rfl w.heap.size rfl hS6.out (.inr rfl) ?_) | (refine st_put rfl TR _ _ rfl (w.heap.size + 1 + 1) { s with ms := upd s.ms jn m } (upd a jn ⟨A1, c1, A2, c2⟩) rfl rfl hZ6.out (.inr rfl) ?_; intro W9 hS9 hB9 hG9 hz9; have hs9 := Lib.hid hS9; have hb9 := Lib.hid (hB9 w.heap.size hle.out); have hg9 := Lib.hid (hG9 _ _ _ hG6.out); clear hS9 hB9 hG9 hz9) | fail)
      refine bodyPost_ret (v := .tuple #[.agg (cS { s with ms := upd s.ms jn m } (upd a jn ⟨A1, c1, A2, c2⟩)), .int .i64 0]) (st_res2 rfl _ _ (w.heap.size + 1 + 1) _ rfl rfl hs9.out (.inr rfl)) rfl ⟨upd a jn ⟨A1, c1, A2, c2⟩, rfl, mx_fin hg9.out hBV.out.size hsm.out rfl, hB6.out.trans hb9.out⟩
    · have h0' : ((E : Int) != 0) = true := by simp [h0]
      have hr : R = zC := by rw [← hR.out, if_neg h0]
      subst hr
      clear hR h0 hll hon hss
      go_wp2_with (first | (refine st_put rfl TR _ _ rfl (w.heap.size + 1 + 1) zC zA rfl rfl hzz.out (.inr rfl) ?_; intro W9 hS9 hB9 hG9 hz9; have hs9 := Lib.hid hS9; have hb9 := Lib.hid (hB9 w.heap.size hle.out); clear hS9 hB9 hG9 hz9) | fail)
      exact bodyPost_ret (v := .tuple #[.agg (cS zC zA), .int .i64 E]) (st_res2 rfl _ _ (w.heap.size + 1 + 1) _ rfl rfl hs9.out (.inr rfl)) rfl ⟨zA, rfl, mx_zC _ _ _ _, hbb.out.trans hb9.out⟩
set_option maxHeartbeats 4000000 in
theorem rap_Merge (s : Cf) (a : Wh) (c : Cm) (w : World) (h : c.kind = 4) (h2 : 0 ≤ c.dc ∧ c.dc ≤ 3) (h3 : c.dc < s.pool) (h4 : s.me (dcN c) = true) (hk : KC c) (hH : HS w s a) : Calls Try.prog 17 #[.agg (cS s a), vC c] w (DocS s a (rsE (s.ms (dcN c)) s.nodes c) (if rsE (s.ms (dcN c)) s.nodes c = 0 then shpM s (dcN c) c else zC) w) := by
  have hB1 := al0 w (.cells (cS s a) TR)
  have hS1 := SB.new TR s a w
  obtain ⟨W1, hW1⟩ : ∃ W1, w.alloc (.cells (cS s a) TR) = W1 := ⟨_, rfl⟩
  have hz1 : W1.heap.size = w.heap.size + 1 := by rw [← hW1]; simp
  rw [hW1] at hB1 hS1
  have hB2 := al0 W1 (.cells (cC c) 43)
  obtain ⟨d0, d1, d2⟩ := cells6 W1 c 43
  obtain ⟨e0, e2, e3, e5⟩ := cells6b W1 c 43
  obtain ⟨W2, hW2⟩ : ∃ W2, W1.alloc (.cells (cC c) 43) = W2 := ⟨_, rfl⟩
  have hz2 : W2.heap.size = w.heap.size + 1 + 1 := by rw [← hW2]; simp [hz1]
  rw [hW2] at hB2 d0 d1 d2 e0 e2 e3 e5
  rw [hz1] at d0 d1 d2 e0 e2 e3 e5
  have hB3 := al0 W2 (.cells #[.int .i64 0, .int .i64 0, .bool false, .bool false, .bool false, .bool false, .slice none 0 0, .slice none 0 0, .slice none 0 0, .slice none 0 0, .slice none 0 0, .slice none 0 0, .slice none 0 0, .slice none 0 0, .int .i64 0, .int .i64 0, .int .i64 0, .int .i64 0, .int .i64 0, .int .i64 0, .int .i64 0, .int .i64 0, .int .i64 0, .int .i64 0, .int .i64 0, .int .i64 0, .int .i64 0, .int .i64 0, .int .i64 0, .int .i64 0, .int .i64 0, .int .i64 0, .int .i64 0, .int .i64 0, .int .i64 0] TR)
  have hS3 : SB TR W2.heap.size zC zA (W2.alloc (.cells #[.int .i64 0, .int .i64 0, .bool false, .bool false, .bool false, .bool false, .slice none 0 0, .slice none 0 0, .slice none 0 0, .slice none 0 0, .slice none 0 0, .slice none 0 0, .slice none 0 0, .slice none 0 0, .int .i64 0, .int .i64 0, .int .i64 0, .int .i64 0, .int .i64 0, .int .i64 0, .int .i64 0, .int .i64 0, .int .i64 0, .int .i64 0, .int .i64 0, .int .i64 0, .int .i64 0, .int .i64 0, .int .i64 0, .int .i64 0, .int .i64 0, .int .i64 0, .int .i64 0, .int .i64 0, .int .i64 0] TR)) := SB.new TR zC zA W2
  obtain ⟨W, hW3⟩ : ∃ W3, W2.alloc (.cells #[.int .i64 0, .int .i64 0, .bool false, .bool false, .bool false, .bool false, .slice none 0 0, .slice none 0 0, .slice none 0 0, .slice none 0 0, .slice none 0 0, .slice none 0 0, .slice none 0 0, .slice none 0 0, .int .i64 0, .int .i64 0, .int .i64 0, .int .i64 0, .int .i64 0, .int .i64 0, .int .i64 0, .int .i64 0, .int .i64 0, .int .i64 0, .int .i64 0, .int .i64 0, .int .i64 0, .int .i64 0, .int .i64 0, .int .i64 0, .int .i64 0, .int .i64 0, .int .i64 0, .int .i64 0, .int .i64 0] TR) = W3 := ⟨_, rfl⟩
  have hz3 : W.heap.size = w.heap.size + 1 + 1 + 1 := by rw [← hW3]; simp [hz2]
  rw [hW3] at hB3 hS3
  rw [hz2] at hS3
  have hB03 := trans0 (trans0 hB1 hB2) hB3
  have hS := (hS1.below hB2).below hB3
  have hWf : Hid (((w.alloc (.cells (cS s a) TR)).alloc (.cells (cC c) 43)).alloc (.cells #[.int .i64 0, .int .i64 0, .bool false, .bool false, .bool false, .bool false, .slice none 0 0, .slice none 0 0, .slice none 0 0, .slice none 0 0, .slice none 0 0, .slice none 0 0, .slice none 0 0, .slice none 0 0, .int .i64 0, .int .i64 0, .int .i64 0, .int .i64 0, .int .i64 0, .int .i64 0, .int .i64 0, .int .i64 0, .int .i64 0, .int .i64 0, .int .i64 0, .int .i64 0, .int .i64 0, .int .i64 0, .int .i64 0, .int .i64 0, .int .i64 0, .int .i64 0, .int .i64 0, .int .i64 0, .int .i64 0] TR) = W) := Lib.hid (by rw [hW1, hW2, hW3])
  have D0 := keep_cell hB3 d0
  have D1 := keep_cell hB3 d1
  have D2 := keep_cell hB3 d2
  have E0 := keep_cell hB3 e0
  have E2 := keep_cell hB3 e2
  have E3 := keep_cell hB3 e3
  have E5 := keep_cell hB3 e5
  have k0 := hS.c0
  have k1 := hS.c1
  have hle := Lib.hid (show w.heap.size ≤ w.heap.size + 1 + 1 by omega)
  have hL := Lib.hid (show L6 (w.heap.size + 1) c W from ⟨E0, D0, E2, D1, D2, E5⟩)
  replace hB03 := Lib.hid hB03
  replace hS3 := Lib.hid hS3
  replace hS := Lib.hid hS
  replace hz3 := Lib.hid hz3
  clear hB1 hS1 hW1 hz1 hB2 d0 d1 d2 e0 e2 e3 e5 hW2 hz2 hB3 hW3
  have hj4 : dcN c < 4 := by unfold dcN; omega
  have hj0 : (0 : Int) ≤ c.dc := by omega
  have hj1 : c.dc < 4 := by omega
  have hj2 : c.dc.toNat = dcN c := rfl
  have i0 : ¬ c.kind < 1 := by omega
  have i1 : ¬ 6 < c.kind := by omega
  have i2 : ¬ c.dc < 0 := by omega
  have i3 : ¬ 3 < c.dc := by omega
  have i4 : decide (s.pool ≤ c.dc) = false := decide_eq_false (by omega)
  have t1 : (c.kind == 1) = false := by rw [beq_eq_false_iff_ne]; omega
  have t2 : (c.kind == 2) = false := by rw [beq_eq_false_iff_ne]; omega
  have t6 : (c.kind == 6) = false := by rw [beq_eq_false_iff_ne]; omega
  have t3 : (c.kind == 3) = false := by rw [beq_eq_false_iff_ne]; omega
  have t4 : (c.kind == 4) = true := by rw [beq_iff_eq]; omega
  have km := hS.out.me hj4
  rw [h4] at km
  have hrE : rsE (s.ms (dcN c)) s.nodes c = mrgE (s.ms (dcN c)) s.nodes c.shard := by unfold rsE; rw [if_neg (by omega), if_pos h]
  have hrM : rsM (s.ms (dcN c)) s.nodes c = mrgM (s.ms (dcN c)) s.nodes c.shard := by unfold rsM; rw [if_neg (by omega), if_pos h]
  have hsm := Lib.hid (rs_sm (s.ms (dcN c)) s.nodes c)
  obtain ⟨R, hR⟩ : ∃ R, (if rsE (s.ms (dcN c)) s.nodes c = 0 then shpM s (dcN c) c else zC) = R := ⟨_, rfl⟩
  rw [hR]
  unfold shpM at hR
  replace hH := Lib.hid hH
  have hbm := B2.new W (.slice none 0 0) (.slice none 0 0)
  have hlW := al0 W (.cells #[.slice none 0 0, .slice none 0 0] 26)
  obtain ⟨V, hV⟩ : ∃ V, W.alloc (.cells #[.slice none 0 0, .slice none 0 0] 26) = V := ⟨_, rfl⟩
  rw [hV] at hbm hlW
  have hVf := Lib.hid hV
  have hpV := Lib.hid (show W.heap.size < V.heap.size by rw [← hV]; simp)
  have hSV := Lib.hid (hS.out.below hlW)
  have hZV := Lib.hid (hS3.out.below hlW)
  have hBV := Lib.hid (trans0 hB03.out hlW)
  have hLV := Lib.hid (l9_of hSV.out hj4 (L6.to hL.out hlW))
  have hs4 := Lib.hid (hLV.out.to (below_drew V))
  have hwV := Lib.hid (hBV.out.drew)
  have hne := Lib.hid (show W.heap.size ≠ w.heap.size + 1 ∧ W.heap.size ≠ w.heap.size from by have := hz3.out; omega)
  have hcl := Lib.hid (spnJr.rmerge_any _ _ _ _ (s.ms (dcN c)) s.nodes c.shard V.drew ((hH.out (dcN c) hj4).below hwV.out))
  have e2 : c.dc = ((dcN c : Nat) : Int) := by unfold dcN; omega
  replace e2 := Lib.hid e2
  rw [hrE] at hR ⊢
  rw [hrM] at hR hsm
  replace hR := Lib.hid hR
  replace hbm := Lib.hid hbm
  clear h h2 h3 h4 hrE hrM hV hlW hk
  generalize mrgE (s.ms (dcN c)) s.nodes c.shard = E at *
  generalize mrgM (s.ms (dcN c)) s.nodes c.shard = m at *
  generalize dcN c = jn at *
  have hn1 : w.heap.size + 1 + 1 ≠ W.heap.size := by have := hz3.out; omega
  have hn2 : w.heap.size ≠ W.heap.size := by have := hz3.out; omega
  have hn3 : w.heap.size ≤ W.heap.size := by have := hz3.out; omega
  have hfn := Lib.hid (fun (w' : World) (A1 A2 : Option Addr) (c1 c2 : Nat) (hG : GM w' V.heap.size A1 c1 A2 c2 m) (hB : Below V.heap.size V w') => And.intro (own_box hbm.out hpV.out hG hB) (And.intro (below2 (B := w.heap.size) (b := W.heap.size) (i := 0) (j := 1) (hBV.out.trans (hB.mono hBV.out.size)) hn3 (.slice A1 m.cs.length c1) (.slice A2 m.ns.length c2)) (And.intro (sb_set2 (p := W.heap.size) (hZV.out.below hB) hn1 (.slice A1 m.cs.length c1) (.slice A2 m.ns.length c2)) (sb_set2 (p := W.heap.size) (hSV.out.below hB) hn2 (.slice A1 m.cs.length c1) (.slice A2 m.ns.length c2)))))
  clear hn1 hn2 hn3
  go_enter Try.func17, Try.ntmps17
  go_upto_region 1 with (fail)
  rw [hWf.out]
  clear hWf
  go_upto_region 22 with (fail)
  rw [hVf.out]
  clear D0 D1 D2 E0 E2 E3 E5 k0 k1 km i0 i1 i2 i3 i4 t1 t2 t6
  have l0 := hLV.out.1
  go_wp2_with (fail)
  clear l0 t3 t4
  go_region_held3 (L9 w.heap.size (w.heap.size + 1) jn s a c)
    (first | with_reducible exact hs4.out | with_reducible exact s4.out | with_reducible exact t4.out _ _ | (go_must (exact (0 : Nat))) | fail)
    (first | (go_at_call 35; ((with_reducible refine hcl.out.mono ?_); rintro e w' ⟨A1, c1, A2, c2, rfl, hG', hB'⟩; have s4 := Lib.hid (L9.to hs4.out hB'); have t4 := Lib.hid (fun x y => L9.set2 (p := W.heap.size) s4.out hne.out.1 hne.out.2 x y); obtain ⟨y0, y1, y2, y3⟩ := (hbm.out.below (undrew' hB')).cells; have hfx := Lib.hid (hfn.out w' A1 A2 c1 c2 hG' (undrew' hB')); clear hG' hB')) | fail)
  all_goals
    have hll := Lib.hid (t4.out (.slice A1 m.cs.length c1) (.slice A2 m.ns.length c2))
    obtain ⟨X, hX⟩ : ∃ X, (w'.setCell ⟨W.heap.size, 0, none⟩ (.slice A1 m.cs.length c1)).setCell ⟨W.heap.size, 1, none⟩ (.slice A2 m.ns.length c2) = X := ⟨_, rfl⟩
    obtain ⟨hon, hbb, hzz, hss⟩ := hfx.out
    clear hfx
    rw [hX] at hll hon hbb hzz hss
    rw [hX]
    replace hon := Lib.hid hon
    replace hbb := Lib.hid hbb
    replace hzz := Lib.hid hzz
    replace hss := Lib.hid hss
    clear hX y0 y1 y2 y3 s4 t4
    by_cases h0 : E = 0
    · subst h0
      obtain rfl := hR.out
      obtain ⟨l0, l1, l2, l3, l4, l5, l6, l7, l8⟩ := hll.out
      obtain ⟨y0, y1, -, -⟩ := hon.out.1.cells
      have f := hss.out.fz
      have hS6 := Lib.hid (hss.out.setMa hj4 A1 c1 A2 c2 m)
      have hZ6 := Lib.hid ((hzz.out.other (b' := w.heap.size) (by omega) (6 + jn * 2) (.slice A1 m.cs.length c1)).other (b' := w.heap.size) (by omega) (6 + jn * 2 + 1) (.slice A2 m.ns.length c2))
      have hG6 := Lib.hid (gs_map (m := m) (A1 := A1) (c1 := c1) (A2 := A2) (c2 := c2) (j := jn) hon.out.2 hss.out)
      have hB6 := Lib.hid ((hbb.out.setCell (p := ⟨w.heap.size, 6 + jn * 2, none⟩) (Nat.le_refl _) (.slice A1 m.cs.length c1)).setCell (p := ⟨w.heap.size, 6 + jn * 2 + 1, none⟩) (Nat.le_refl _) (.slice A2 m.ns.length c2))
      go_upto_region 31 with (fail)
      obtain ⟨Y, hY⟩ : ∃ Y, (X.setCell ⟨w.heap.size, 6 + jn * 2, none⟩ (.slice A1 m.cs.length c1)).setCell ⟨w.heap.size, 6 + jn * 2 + 1, none⟩ (.slice A2 m.ns.length c2) = Y := ⟨_, rfl⟩
      rw [hY] at hS6 hZ6 hG6 hB6
      rw [hY]
      clear hY l0 l1 l2 l3 l4 l5 l6 l7 l8 y0 y1 f hll hon hbb hzz hss
      go_wp2_with (first | (refine st_load rfl TR _ rfl w.heap.size rfl hS6.out (.inr rfl) ?_) | (refine st_put rfl TR _ _ rfl (w.heap.size + 1 + 1) { s with ms := upd s.ms jn m } (upd a jn ⟨A1, c1, A2, c2⟩) rfl rfl hZ6.out (.inr rfl) ?_; intro W9 hS9 hB9 hG9 hz9; have hs9 := Lib.hid hS9; have hb9 := Lib.hid (hB9 w.heap.size hle.out); have hg9 := Lib.hid (hG9 _ _ _ hG6.out); clear hS9 hB9 hG9 hz9) | fail)
      refine bodyPost_ret (v := .tuple #[.agg (cS { s with ms := upd s.ms jn m } (upd a jn ⟨A1, c1, A2, c2⟩)), .int .i64 0]) (st_res2 rfl _ _ (w.heap.size + 1 + 1) _ rfl rfl hs9.out (.inr rfl)) rfl ⟨upd a jn ⟨A1, c1, A2, c2⟩, rfl, mx_fin hg9.out hBV.out.size hsm.out rfl, hB6.out.trans hb9.out⟩
    · have h0' : ((E : Int) != 0) = true := by simp [h0]
      have hr : R = zC := by rw [← hR.out, if_neg h0]
      subst hr
      clear hR h0 hll hon hss
      go_wp2_with (first | (refine st_put rfl TR _ _ rfl (w.heap.size + 1 + 1) zC zA rfl rfl hzz.out (.inr rfl) ?_; intro W9 hS9 hB9 hG9 hz9; have hs9 := Lib.hid hS9; have hb9 := Lib.hid (hB9 w.heap.size hle.out); clear hS9 hB9 hG9 hz9) | fail)
      exact bodyPost_ret (v := .tuple #[.agg (cS zC zA), .int .i64 E]) (st_res2 rfl _ _ (w.heap.size + 1 + 1) _ rfl rfl hs9.out (.inr rfl)) rfl ⟨zA, rfl, mx_zC _ _ _ _, hbb.out.trans hb9.out⟩
set_option maxHeartbeats 4000000 in
theorem rap_Move (s : Cf) (a : Wh) (c : Cm) (w : World) (h : c.kind = 5) (h2 : 0 ≤ c.dc ∧ c.dc ≤ 3) (h3 : c.dc < s.pool) (h4 : s.me (dcN c) = true) (hk : KC c) (hH : HS w s a) : Calls Try.prog 17 #[.agg (cS s a), vC c] w (DocS s a (rsE (s.ms (dcN c)) s.nodes c) (if rsE (s.ms (dcN c)) s.nodes c = 0 then shpM s (dcN c) c else zC) w) := by
  have hB1 := al0 w (.cells (cS s a) TR)
  have hS1 := SB.new TR s a w
  obtain ⟨W1, hW1⟩ : ∃ W1, w.alloc (.cells (cS s a) TR) = W1 := ⟨_, rfl⟩
  have hz1 : W1.heap.size = w.heap.size + 1 := by rw [← hW1]; simp
  rw [hW1] at hB1 hS1
  have hB2 := al0 W1 (.cells (cC c) 43)
  obtain ⟨d0, d1, d2⟩ := cells6 W1 c 43
  obtain ⟨e0, e2, e3, e5⟩ := cells6b W1 c 43
  obtain ⟨W2, hW2⟩ : ∃ W2, W1.alloc (.cells (cC c) 43) = W2 := ⟨_, rfl⟩
  have hz2 : W2.heap.size = w.heap.size + 1 + 1 := by rw [← hW2]; simp [hz1]
  rw [hW2] at hB2 d0 d1 d2 e0 e2 e3 e5
  rw [hz1] at d0 d1 d2 e0 e2 e3 e5
  have hB3 := al0 W2 (.cells #[.int .i64 0, .int .i64 0, .bool false, .bool false, .bool false, .bool false, .slice none 0 0, .slice none 0 0, .slice none 0 0, .slice none 0 0, .slice none 0 0, .slice none 0 0, .slice none 0 0, .slice none 0 0, .int .i64 0, .int .i64 0, .int .i64 0, .int .i64 0, .int .i64 0, .int .i64 0, .int .i64 0, .int .i64 0, .int .i64 0, .int .i64 0, .int .i64 0, .int .i64 0, .int .i64 0, .int .i64 0, .int .i64 0, .int .i64 0, .int .i64 0, .int .i64 0, .int .i64 0, .int .i64 0, .int .i64 0] TR)
  have hS3 : SB TR W2.heap.size zC zA (W2.alloc (.cells #[.int .i64 0, .int .i64 0, .bool false, .bool false, .bool false, .bool false, .slice none 0 0, .slice none 0 0, .slice none 0 0, .slice none 0 0, .slice none 0 0, .slice none 0 0, .slice none 0 0, .slice none 0 0, .int .i64 0, .int .i64 0, .int .i64 0, .int .i64 0, .int .i64 0, .int .i64 0, .int .i64 0, .int .i64 0, .int .i64 0, .int .i64 0, .int .i64 0, .int .i64 0, .int .i64 0, .int .i64 0, .int .i64 0, .int .i64 0, .int .i64 0, .int .i64 0, .int .i64 0, .int .i64 0, .int .i64 0] TR)) := SB.new TR zC zA W2
  obtain ⟨W, hW3⟩ : ∃ W3, W2.alloc (.cells #[.int .i64 0, .int .i64 0, .bool false, .bool false, .bool false, .bool false, .slice none 0 0, .slice none 0 0, .slice none 0 0, .slice none 0 0, .slice none 0 0, .slice none 0 0, .slice none 0 0, .slice none 0 0, .int .i64 0, .int .i64 0, .int .i64 0, .int .i64 0, .int .i64 0, .int .i64 0, .int .i64 0, .int .i64 0, .int .i64 0, .int .i64 0, .int .i64 0, .int .i64 0, .int .i64 0, .int .i64 0, .int .i64 0, .int .i64 0, .int .i64 0, .int .i64 0, .int .i64 0, .int .i64 0, .int .i64 0] TR) = W3 := ⟨_, rfl⟩
  have hz3 : W.heap.size = w.heap.size + 1 + 1 + 1 := by rw [← hW3]; simp [hz2]
  rw [hW3] at hB3 hS3
  rw [hz2] at hS3
  have hB03 := trans0 (trans0 hB1 hB2) hB3
  have hS := (hS1.below hB2).below hB3
  have hWf : Hid (((w.alloc (.cells (cS s a) TR)).alloc (.cells (cC c) 43)).alloc (.cells #[.int .i64 0, .int .i64 0, .bool false, .bool false, .bool false, .bool false, .slice none 0 0, .slice none 0 0, .slice none 0 0, .slice none 0 0, .slice none 0 0, .slice none 0 0, .slice none 0 0, .slice none 0 0, .int .i64 0, .int .i64 0, .int .i64 0, .int .i64 0, .int .i64 0, .int .i64 0, .int .i64 0, .int .i64 0, .int .i64 0, .int .i64 0, .int .i64 0, .int .i64 0, .int .i64 0, .int .i64 0, .int .i64 0, .int .i64 0, .int .i64 0, .int .i64 0, .int .i64 0, .int .i64 0, .int .i64 0] TR) = W) := Lib.hid (by rw [hW1, hW2, hW3])
  have D0 := keep_cell hB3 d0
  have D1 := keep_cell hB3 d1
  have D2 := keep_cell hB3 d2
  have E0 := keep_cell hB3 e0
  have E2 := keep_cell hB3 e2
  have E3 := keep_cell hB3 e3
  have E5 := keep_cell hB3 e5
  have k0 := hS.c0
  have k1 := hS.c1
  have hle := Lib.hid (show w.heap.size ≤ w.heap.size + 1 + 1 by omega)
  have hL := Lib.hid (show L6 (w.heap.size + 1) c W from ⟨E0, D0, E2, D1, D2, E5⟩)
  replace hB03 := Lib.hid hB03
  replace hS3 := Lib.hid hS3
  replace hS := Lib.hid hS
  replace hz3 := Lib.hid hz3
  clear hB1 hS1 hW1 hz1 hB2 d0 d1 d2 e0 e2 e3 e5 hW2 hz2 hB3 hW3
  have hj4 : dcN c < 4 := by unfold dcN; omega
  have hj0 : (0 : Int) ≤ c.dc := by omega
  have hj1 : c.dc < 4 := by omega
  have hj2 : c.dc.toNat = dcN c := rfl
  have i0 : ¬ c.kind < 1 := by omega
  have i1 : ¬ 6 < c.kind := by omega
  have i2 : ¬ c.dc < 0 := by omega
  have i3 : ¬ 3 < c.dc := by omega
  have i4 : decide (s.pool ≤ c.dc) = false := decide_eq_false (by omega)
  have t1 : (c.kind == 1) = false := by rw [beq_eq_false_iff_ne]; omega
  have t2 : (c.kind == 2) = false := by rw [beq_eq_false_iff_ne]; omega
  have t6 : (c.kind == 6) = false := by rw [beq_eq_false_iff_ne]; omega
  have t3 : (c.kind == 3) = false := by rw [beq_eq_false_iff_ne]; omega
  have t4 : (c.kind == 4) = false := by rw [beq_eq_false_iff_ne]; omega
  have km := hS.out.me hj4
  rw [h4] at km
  have hrE : rsE (s.ms (dcN c)) s.nodes c = movE (s.ms (dcN c)) s.nodes c.shard c.node := by unfold rsE; rw [if_neg (by omega), if_neg (by omega)]
  have hrM : rsM (s.ms (dcN c)) s.nodes c = movM (s.ms (dcN c)) s.nodes c.shard c.node := by unfold rsM; rw [if_neg (by omega), if_neg (by omega)]
  have hsm := Lib.hid (rs_sm (s.ms (dcN c)) s.nodes c)
  obtain ⟨R, hR⟩ : ∃ R, (if rsE (s.ms (dcN c)) s.nodes c = 0 then shpM s (dcN c) c else zC) = R := ⟨_, rfl⟩
  rw [hR]
  unfold shpM at hR
  replace hH := Lib.hid hH
  have hbm := B2.new W (.slice none 0 0) (.slice none 0 0)
  have hlW := al0 W (.cells #[.slice none 0 0, .slice none 0 0] 26)
  obtain ⟨V, hV⟩ : ∃ V, W.alloc (.cells #[.slice none 0 0, .slice none 0 0] 26) = V := ⟨_, rfl⟩
  rw [hV] at hbm hlW
  have hVf := Lib.hid hV
  have hpV := Lib.hid (show W.heap.size < V.heap.size by rw [← hV]; simp)
  have hSV := Lib.hid (hS.out.below hlW)
  have hZV := Lib.hid (hS3.out.below hlW)
  have hBV := Lib.hid (trans0 hB03.out hlW)
  have hLV := Lib.hid (l9_of hSV.out hj4 (L6.to hL.out hlW))
  have hs4 := Lib.hid (hLV.out.to (below_drew V))
  have hwV := Lib.hid (hBV.out.drew)
  have hne := Lib.hid (show W.heap.size ≠ w.heap.size + 1 ∧ W.heap.size ≠ w.heap.size from by have := hz3.out; omega)
  have hcl := Lib.hid (spnKr.rmove_any _ _ _ _ (s.ms (dcN c)) s.nodes c.shard c.node V.drew ((hH.out (dcN c) hj4).below hwV.out))
  have e2 : c.dc = ((dcN c : Nat) : Int) := by unfold dcN; omega
  replace e2 := Lib.hid e2
  rw [hrE] at hR ⊢
  rw [hrM] at hR hsm
  replace hR := Lib.hid hR
  replace hbm := Lib.hid hbm
  clear h h2 h3 h4 hrE hrM hV hlW hk
  generalize movE (s.ms (dcN c)) s.nodes c.shard c.node = E at *
  generalize movM (s.ms (dcN c)) s.nodes c.shard c.node = m at *
  generalize dcN c = jn at *
  have hn1 : w.heap.size + 1 + 1 ≠ W.heap.size := by have := hz3.out; omega
  have hn2 : w.heap.size ≠ W.heap.size := by have := hz3.out; omega
  have hn3 : w.heap.size ≤ W.heap.size := by have := hz3.out; omega
  have hfn := Lib.hid (fun (w' : World) (A1 A2 : Option Addr) (c1 c2 : Nat) (hG : GM w' V.heap.size A1 c1 A2 c2 m) (hB : Below V.heap.size V w') => And.intro (own_box hbm.out hpV.out hG hB) (And.intro (below2 (B := w.heap.size) (b := W.heap.size) (i := 0) (j := 1) (hBV.out.trans (hB.mono hBV.out.size)) hn3 (.slice A1 m.cs.length c1) (.slice A2 m.ns.length c2)) (And.intro (sb_set2 (p := W.heap.size) (hZV.out.below hB) hn1 (.slice A1 m.cs.length c1) (.slice A2 m.ns.length c2)) (sb_set2 (p := W.heap.size) (hSV.out.below hB) hn2 (.slice A1 m.cs.length c1) (.slice A2 m.ns.length c2)))))
  clear hn1 hn2 hn3
  go_enter Try.func17, Try.ntmps17
  go_upto_region 1 with (fail)
  rw [hWf.out]
  clear hWf
  go_upto_region 22 with (fail)
  rw [hVf.out]
  clear D0 D1 D2 E0 E2 E3 E5 k0 k1 km i0 i1 i2 i3 i4 t1 t2 t6
  have l0 := hLV.out.1
  go_wp2_with (fail)
  clear l0 t3 t4
  go_region_held3 (L9 w.heap.size (w.heap.size + 1) jn s a c)
    (first | with_reducible exact hs4.out | with_reducible exact s4.out | with_reducible exact t4.out _ _ | (go_must (exact (0 : Nat))) | fail)
    (first | (go_at_call 36; ((with_reducible refine hcl.out.mono ?_); rintro e w' ⟨A1, c1, A2, c2, rfl, hG', hB'⟩; have s4 := Lib.hid (L9.to hs4.out hB'); have t4 := Lib.hid (fun x y => L9.set2 (p := W.heap.size) s4.out hne.out.1 hne.out.2 x y); obtain ⟨y0, y1, y2, y3⟩ := (hbm.out.below (undrew' hB')).cells; have hfx := Lib.hid (hfn.out w' A1 A2 c1 c2 hG' (undrew' hB')); clear hG' hB')) | fail)
  all_goals
    have hll := Lib.hid (t4.out (.slice A1 m.cs.length c1) (.slice A2 m.ns.length c2))
    obtain ⟨X, hX⟩ : ∃ X, (w'.setCell ⟨W.heap.size, 0, none⟩ (.slice A1 m.cs.length c1)).setCell ⟨W.heap.size, 1, none⟩ (.slice A2 m.ns.length c2) = X := ⟨_, rfl⟩
    obtain ⟨hon, hbb, hzz, hss⟩ := hfx.out
    clear hfx
    rw [hX] at hll hon hbb hzz hss
    rw [hX]
    replace hon := Lib.hid hon
    replace hbb := Lib.hid hbb
    replace hzz := Lib.hid hzz
    replace hss := Lib.hid hss
    clear hX y0 y1 y2 y3 s4 t4
    by_cases h0 : E = 0
    · subst h0
      obtain rfl := hR.out
      obtain ⟨l0, l1, l2, l3, l4, l5, l6, l7, l8⟩ := hll.out
      obtain ⟨y0, y1, -, -⟩ := hon.out.1.cells
      have f := hss.out.fz
      have hS6 := Lib.hid (hss.out.setMa hj4 A1 c1 A2 c2 m)
      have hZ6 := Lib.hid ((hzz.out.other (b' := w.heap.size) (by omega) (6 + jn * 2) (.slice A1 m.cs.length c1)).other (b' := w.heap.size) (by omega) (6 + jn * 2 + 1) (.slice A2 m.ns.length c2))
      have hG6 := Lib.hid (gs_map (m := m) (A1 := A1) (c1 := c1) (A2 := A2) (c2 := c2) (j := jn) hon.out.2 hss.out)
      have hB6 := Lib.hid ((hbb.out.setCell (p := ⟨w.heap.size, 6 + jn * 2, none⟩) (Nat.le_refl _) (.slice A1 m.cs.length c1)).setCell (p := ⟨w.heap.size, 6 + jn * 2 + 1, none⟩) (Nat.le_refl _) (.slice A2 m.ns.length c2))
      go_upto_region 31 with (fail)
      obtain ⟨Y, hY⟩ : ∃ Y, (X.setCell ⟨w.heap.size, 6 + jn * 2, none⟩ (.slice A1 m.cs.length c1)).setCell ⟨w.heap.size, 6 + jn * 2 + 1, none⟩ (.slice A2 m.ns.length c2) = Y := ⟨_, rfl⟩
      rw [hY] at hS6 hZ6 hG6 hB6
      rw [hY]
      clear hY l0 l1 l2 l3 l4 l5 l6 l7 l8 y0 y1 f hll hon hbb hzz hss
      go_wp2_with (first | (refine st_load rfl TR _ rfl w.heap.size rfl hS6.out (.inr rfl) ?_) | (refine st_put rfl TR _ _ rfl (w.heap.size + 1 + 1) { s with ms := upd s.ms jn m } (upd a jn ⟨A1, c1, A2, c2⟩) rfl rfl hZ6.out (.inr rfl) ?_; intro W9 hS9 hB9 hG9 hz9; have hs9 := Lib.hid hS9; have hb9 := Lib.hid (hB9 w.heap.size hle.out); have hg9 := Lib.hid (hG9 _ _ _ hG6.out); clear hS9 hB9 hG9 hz9) | fail)
      refine bodyPost_ret (v := .tuple #[.agg (cS { s with ms := upd s.ms jn m } (upd a jn ⟨A1, c1, A2, c2⟩)), .int .i64 0]) (st_res2 rfl _ _ (w.heap.size + 1 + 1) _ rfl rfl hs9.out (.inr rfl)) rfl ⟨upd a jn ⟨A1, c1, A2, c2⟩, rfl, mx_fin hg9.out hBV.out.size hsm.out rfl, hB6.out.trans hb9.out⟩
    · have h0' : ((E : Int) != 0) = true := by simp [h0]
      have hr : R = zC := by rw [← hR.out, if_neg h0]
      subst hr
      clear hR h0 hll hon hss
      go_wp2_with (first | (refine st_put rfl TR _ _ rfl (w.heap.size + 1 + 1) zC zA rfl rfl hzz.out (.inr rfl) ?_; intro W9 hS9 hB9 hG9 hz9; have hs9 := Lib.hid hS9; have hb9 := Lib.hid (hB9 w.heap.size hle.out); clear hS9 hB9 hG9 hz9) | fail)
      exact bodyPost_ret (v := .tuple #[.agg (cS zC zA), .int .i64 E]) (st_res2 rfl _ _ (w.heap.size + 1 + 1) _ rfl rfl hs9.out (.inr rfl)) rfl ⟨zA, rfl, mx_zC _ _ _ _, hbb.out.trans hb9.out⟩
end Go.Proofs.Ytpijljbkdfjhcaa.cfU
