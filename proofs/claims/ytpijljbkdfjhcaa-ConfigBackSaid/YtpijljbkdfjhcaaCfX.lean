/- ConfigApplies. -/
import Derived.Test.YtpijljbkdfjhcaaCfV
import Derived.Test.YtpijljbkdfjhcaaCfW
set_option linter.unusedVariables false
set_option maxRecDepth 100000
namespace Go.Proofs.Ytpijljbkdfjhcaa.cfX
open Go.ChangeShapes Go.WideShapes Go.ChangeAt Go.RowKit Go.Deep
open spnM spnA spnB spnD spnI spnJ spnK spnS cfA cfB cfC cfD cfE cfF cfG cfH cfI cfJ cfK cfR cfL cfM cfN cfO cfP cfQ cfS cfT cfU cfV cfW 
attribute [local go_sem ↓ high] op_ldS op_ldR op_ldM ex_ldS ex_ldR ex_ldM op_stS op_stR ex_stS ex_stR
attribute [local go_sem high] stW_at

/-- the law's own boxes: a configuration, a command -/
structure J0 (b0 b1 : Nat) (s : Cf) (a : Wh) (c : Cm) (w : World) : Prop where
  sb : SB TS b0 s a w
  l6 : L6 b1 c w
theorem J0.to {b0 b1 : Nat} {s : Cf} {a : Wh} {c : Cm} {w w1 : World} (h : J0 b0 b1 s a c w) (hB : Below w.heap.size w w1) : J0 b0 b1 s a c w1 := ⟨h.sb.below hB, L6.to h.l6 hB⟩
abbrev Q4 (b0 b1 : Nat) (s : Cf) (a : Wh) (c : Cm) (w : World) : Prop :=
  RdT TS w (.pointer (some ⟨b0, 0, none⟩)) ∧ rdV TS w (.pointer (some ⟨b0, 0, none⟩)) = .agg (cS s a) ∧
  w.cell? ⟨b1, 0, none⟩ = some (.int .i64 c.kind) ∧ w.cell? ⟨b1, 1, none⟩ = some (.int .i64 c.dc) ∧ w.cell? ⟨b1, 2, none⟩ = some (.int .i64 c.shard) ∧ w.cell? ⟨b1, 3, none⟩ = some (.int .i64 c.node) ∧ w.cell? ⟨b1, 4, none⟩ = some (.int .i64 c.mode) ∧ w.cell? ⟨b1, 5, none⟩ = some (.string c.key)
theorem J0.q4 {b0 b1 : Nat} {s : Cf} {a : Wh} {c : Cm} {w : World} (h : J0 b0 b1 s a c w) : Q4 b0 b1 s a c w := ⟨(rd_row h.sb (.inl rfl)).1, (rd_row h.sb (.inl rfl)).2, h.l6⟩
abbrev Q6 (b0 b1 p1 p2 p3 : Nat) (s : Cf) (a : Wh) (c : Cm) (R : Cf) (a2 a6 a7 : Wh) (w : World) : Prop :=
  RdT TS w (.pointer (some ⟨b0, 0, none⟩)) ∧ rdV TS w (.pointer (some ⟨b0, 0, none⟩)) = .agg (cS s a) ∧
  w.cell? ⟨b1, 0, none⟩ = some (.int .i64 c.kind) ∧ w.cell? ⟨b1, 1, none⟩ = some (.int .i64 c.dc) ∧ w.cell? ⟨b1, 2, none⟩ = some (.int .i64 c.shard) ∧ w.cell? ⟨b1, 3, none⟩ = some (.int .i64 c.node) ∧ w.cell? ⟨b1, 4, none⟩ = some (.int .i64 c.mode) ∧ w.cell? ⟨b1, 5, none⟩ = some (.string c.key) ∧
  RdT TS w (.pointer (some ⟨p1, 0, none⟩)) ∧ rdV TS w (.pointer (some ⟨p1, 0, none⟩)) = .agg (cS R a2) ∧
  RdT TR w (.pointer (some ⟨p2, 0, none⟩)) ∧ rdV TR w (.pointer (some ⟨p2, 0, none⟩)) = .agg (cS R a6) ∧
  RdT TS w (.pointer (some ⟨p3, 0, none⟩)) ∧ rdV TS w (.pointer (some ⟨p3, 0, none⟩)) = .agg (cS R a7)
theorem q6_of {b0 b1 p1 p2 p3 : Nat} {s : Cf} {a : Wh} {c : Cm} {R : Cf} {a2 a6 a7 : Wh} {w : World} (h : J0 b0 b1 s a c w) (h1 : SB TS p1 R a2 w) (h2 : SB TR p2 R a6 w) (h3 : SB TS p3 R a7 w) : Q6 b0 b1 p1 p2 p3 s a c R a2 a6 a7 w :=
  ⟨(rd_row h.sb (.inl rfl)).1, (rd_row h.sb (.inl rfl)).2, h.l6.1, h.l6.2.1, h.l6.2.2.1, h.l6.2.2.2.1, h.l6.2.2.2.2.1, h.l6.2.2.2.2.2, (rd_row h1 (.inl rfl)).1, (rd_row h1 (.inl rfl)).2, (rd_row h2 (.inr rfl)).1, (rd_row h2 (.inr rfl)).2, (rd_row h3 (.inl rfl)).1, (rd_row h3 (.inl rfl)).2⟩
theorem undrewB {V w5 : World} (h : Below V.drew.heap.size V.drew w5) : Below V.heap.size V w5 := ⟨h.os, h.tape, h.output, h.size, h.block⟩
theorem undrewC {V w5 : World} {o : Obj} (h : Below (V.alloc o).drew.heap.size (V.alloc o).drew w5) : Below V.heap.size V w5 := trans0 (al0 V o) ⟨h.os, h.tape, h.output, h.size, h.block⟩
theorem undrewZ {T : TypeId} {V w5 : World} {cs : Array Value} (h : Below (V.alloc (.cells cs T)).drew.heap.size (V.alloc (.cells cs T)).drew w5) (e : cs = cS zC zA) : SB T V.heap.size zC zA w5 := by
  subst e; exact SB.below (SB.new T zC zA V) ⟨h.os, h.tape, h.output, h.size, h.block⟩
theorem undrewY {T : TypeId} {V w5 : World} {cs : Array Value} (h : Below (V.alloc (.cells cs T)).heap.size (V.alloc (.cells cs T)) w5) (e : cs = cS zC zA) : SB T V.heap.size zC zA w5 := by
  subst e; exact SB.below (SB.new T zC zA V) h
theorem belowY {V w5 w6 : World} {o : Obj} (h : Below V.heap.size V w5) (h2 : Below (w5.alloc o).heap.size (w5.alloc o) w6) : Below V.heap.size V w6 := trans0 (trans0 h (al0 w5 o)) h2
theorem belowA {V w5 : World} (h : Below V.heap.size V w5) (o : Obj) : Below V.heap.size V (w5.alloc o) := h.alloc h.size o
theorem gm_row {w : World} {base b c1 c2 : Nat} {T : TypeId} {s : Cf} {a : Wh} {A1 A2 : Option Addr} {m : M} (h : GM w base A1 c1 A2 c2 m) (hS : SB T b s a w) (hT : T = TS ∨ T = TR) (c : Array Value) : GM (w.setRow b c) base A1 c1 A2 c2 m :=
  GS.setRow (s := dmC m) (a := dmA A1 c1 A2 c2) (fun i _ => h) hS (tne hT).1 (tne hT).2 c 0 (by omega)
/-- a new configuration in a box of its own, beside what was -/
structure NS (T : TypeId) (V : World) (p b0 b1 : Nat) (s : Cf) (a : Wh) (c : Cm) (R : Cf) (a6 : Wh) (w : World) : Prop where
  le : V.heap.size ≤ p
  sb : SB T p R a6 w
  hs : HS w R a6
  bel : Below V.heap.size V w
  j : J0 b0 b1 s a c w
section
variable {T : TypeId} {V w6 : World} {p base b0 b1 : Nat} {s R : Cf} {a a6 : Wh} {c : Cm}
theorem fin_doc (hT : T = TS ∨ T = TR) (hp : V.heap.size ≤ p) (hz : SB T p zC zA w6) (hM : MX w6 base s a R a6) (hH : HS V s a) (hB : Below V.heap.size V w6) (hJ : J0 b0 b1 s a c V) : NS T V p b0 b1 s a c R a6 (w6.setRow p (cS R a6)) := by
  have hb := below_setRow' hB hp (cS R a6)
  exact ⟨hp, hz.setRow R a6, MX.hs (base := base) (fun i hi => (hM i hi).imp id fun h => ⟨gm_row h.1 hz hT _, h.2⟩) (hH.below hb), hb, hJ.to hb⟩
theorem fin_prg (hT : T = TS ∨ T = TR) (hp : V.heap.size ≤ p) (hz : SB T p zC zA w6) (hM : GS w6 base R a6) (hR : Sz R) (hB : Below V.heap.size V w6) (hJ : J0 b0 b1 s a c V) : NS T V p b0 b1 s a c R a6 (w6.setRow p (cS R a6)) := by
  have hb := below_setRow' hB hp (cS R a6)
  exact ⟨hp, hz.setRow R a6, (GS.setRow hM hz (tne hT).1 (tne hT).2 _).hs hR, hb, hJ.to hb⟩
theorem q4_row (hp : V.heap.size ≤ p) (hB : Below V.heap.size V w6) (hJ : J0 b0 b1 s a c V) (cs : Array Value) : Q4 b0 b1 s a c (w6.setRow p cs) := (hJ.to (below_setRow' hB hp cs)).q4
end
theorem stS_al (w : World) (cs : Array Value) (t : TypeId) (s' : Cf) (a' : Wh) (h : cs.size = 35) : StT 30 (w.alloc (.cells cs t)) (.pointer (some ⟨w.heap.size, 0, none⟩)) (.agg (cS s' a')) := ⟨_, cS s' a', cs, t, rfl, rfl, heap_alloc_new w _, info_s (.inl rfl) s' a', h.trans (cS_size s' a').symm, cS_one s' a'⟩
theorem stR_al (w : World) (cs : Array Value) (t : TypeId) (s' : Cf) (a' : Wh) (h : cs.size = 35) : StT 34 (w.alloc (.cells cs t)) (.pointer (some ⟨w.heap.size, 0, none⟩)) (.agg (cS s' a')) := ⟨_, cS s' a', cs, t, rfl, rfl, heap_alloc_new w _, info_s (.inr rfl) s' a', h.trans (cS_size s' a').symm, cS_one s' a'⟩
attribute [local go_sem high] stS_al stR_al
set_option maxHeartbeats 8000000 in
theorem applies_small (s : Cf) (a : Wh) (c : Cm) (w : World) (hk : KC c) (hH : HS w s a) (hg : grt s = false) : Calls Try.prog 4 #[.agg (cS s a), vC c] w fun e w' => e = .returned (.bool true) ∧ Below w.heap.size w w' := by
  have hB1 := al0 w (.cells (cS s a) TS)
  have hS1 := SB.new TS s a w
  obtain ⟨W1, hW1⟩ : ∃ W1, w.alloc (.cells (cS s a) TS) = W1 := ⟨_, rfl⟩
  have hz1 : W1.heap.size = w.heap.size + 1 := by rw [← hW1]; simp
  rw [hW1] at hB1 hS1
  have hB2 := al0 W1 (.cells (cC c) 43)
  obtain ⟨d0, d1, d2⟩ := cells6 W1 c 43
  obtain ⟨e0, e2, e3, e5⟩ := cells6b W1 c 43
  obtain ⟨W, hW2⟩ : ∃ W2, W1.alloc (.cells (cC c) 43) = W2 := ⟨_, rfl⟩
  rw [hW2] at hB2 d0 d1 d2 e0 e2 e3 e5
  rw [hz1] at d0 d1 d2 e0 e2 e3 e5
  have hBW := Lib.hid (trans0 hB1 hB2)
  have hJW := Lib.hid (show J0 w.heap.size (w.heap.size + 1) s a c W from ⟨hS1.below hB2, e0, d0, e2, d1, d2, e5⟩)
  have hWf : Hid ((w.alloc (.cells (cS s a) TS)).alloc (.cells (cC c) 43) = W) := Lib.hid (by rw [hW1, hW2])
  have hHW := Lib.hid (hH.below hBW.out)
  have hsR := Lib.hid (sz_ap hH.sz c)
  have hgr := great_any s a W hH.sz
  rw [hg] at hgr
  replace hgr := Lib.hid hgr
  have hap := Lib.hid (fun w' (h : HS w' s a) => apply_any s a c w' hk h)
  have hpp := Lib.hid (show ∀ w' (h : HS w' s a), _ from fun w' h => apply_any s a (plC c) w' (kc_pl hk) h)
  rw [(ap_pl s c).1, (ap_pl s c).2] at hpp
  have hra := Lib.hid (fun w' (h : HS w' s a) => rapply_any s a c w' hk h)
  have hSo := hJW.out.sb
  clear hB1 hS1 hW1 hz1 hB2 d0 d1 d2 e0 e2 e3 e5 hW2 hH hk hg
  generalize apE s c = E at *
  generalize apM s c = R at *
  go_enter Try.func4, Try.ntmps4
  go_upto_region 1 with (fail)
  rw [hWf.out]
  go_upto_region 4 with (first
    | (refine st_load rfl TS _ rfl w.heap.size rfl hSo (.inl rfl) ?_; clear hSo)
    | (go_at_call 15; ((with_reducible refine hgr.out.mono ?_); rintro e w1 ⟨rfl, hB1⟩; have hj1 := Lib.hid (hJW.out.to hB1); have hS1 := hj1.out.sb; have hh1 := Lib.hid (hHW.out.below hB1); have hb1 := Lib.hid (trans0 hBW.out hB1); obtain ⟨l0, l1, l2, l3, l4, l5⟩ := hj1.out.l6; clear hB1 hJW hHW hgr))
    | (refine st_load rfl TS _ rfl w.heap.size rfl hS1 (.inl rfl) ?_; clear hS1)
    | (go_at_call 16; ((with_reducible refine (hap.out _ hh1.out).mono ?_); rintro e w2 ⟨a2, rfl, hG2, hB2⟩; have hn2 := Lib.hid (show SB TS w2.heap.size zC zA (w2.alloc (.cells #[.int .i64 0, .int .i64 0, .bool false, .bool false, .bool false, .bool false, .slice none 0 0, .slice none 0 0, .slice none 0 0, .slice none 0 0, .slice none 0 0, .slice none 0 0, .slice none 0 0, .slice none 0 0, .int .i64 0, .int .i64 0, .int .i64 0, .int .i64 0, .int .i64 0, .int .i64 0, .int .i64 0, .int .i64 0, .int .i64 0, .int .i64 0, .int .i64 0, .int .i64 0, .int .i64 0, .int .i64 0, .int .i64 0, .int .i64 0, .int .i64 0, .int .i64 0, .int .i64 0, .int .i64 0, .int .i64 0] TS)) from SB.new TS zC zA w2); have hg2 := Lib.hid hG2; have hb2 := Lib.hid hB2; clear hG2 hB2 l0 l1 l2 l3 l4 l5))
    | (refine st_put rfl TS _ _ rfl w2.heap.size R a2 rfl rfl hn2.out (.inl rfl) ?_; intro V hSV hBV hGV hzV; have hbV := Lib.hid ((al0 w2 (.cells #[.int .i64 0, .int .i64 0, .bool false, .bool false, .bool false, .bool false, .slice none 0 0, .slice none 0 0, .slice none 0 0, .slice none 0 0, .slice none 0 0, .slice none 0 0, .slice none 0 0, .slice none 0 0, .int .i64 0, .int .i64 0, .int .i64 0, .int .i64 0, .int .i64 0, .int .i64 0, .int .i64 0, .int .i64 0, .int .i64 0, .int .i64 0, .int .i64 0, .int .i64 0, .int .i64 0, .int .i64 0, .int .i64 0, .int .i64 0, .int .i64 0, .int .i64 0, .int .i64 0, .int .i64 0, .int .i64 0] TS)).trans (hBV w2.heap.size (Nat.le_refl _))); have hJ := Lib.hid ((hj1.out.to hb2.out).to hbV.out); have hHS := Lib.hid ((hh1.out.below hb2.out).below hbV.out); have hxV := Lib.hid hSV; have hxH := Lib.hid ((hGV _ _ _ (hg2.out.below (al0 w2 (.cells #[.int .i64 0, .int .i64 0, .bool false, .bool false, .bool false, .bool false, .slice none 0 0, .slice none 0 0, .slice none 0 0, .slice none 0 0, .slice none 0 0, .slice none 0 0, .slice none 0 0, .slice none 0 0, .int .i64 0, .int .i64 0, .int .i64 0, .int .i64 0, .int .i64 0, .int .i64 0, .int .i64 0, .int .i64 0, .int .i64 0, .int .i64 0, .int .i64 0, .int .i64 0, .int .i64 0, .int .i64 0, .int .i64 0, .int .i64 0, .int .i64 0, .int .i64 0, .int .i64 0, .int .i64 0, .int .i64 0] TS)))).hs hsR.out); have hwV := Lib.hid (trans0 hb1.out (trans0 hb2.out hbV.out)); clear hSV hBV hGV hzV hn2 hg2 hb2 hbV hj1 hh1 hb1)
    | fail)
  have hpl : Hid (w2.heap.size < V.heap.size) := Lib.hid hxV.out.lt
  generalize w2.heap.size = p1 at *
  go_cut [7, 8] from 7 to 26 (fun x y wx => ∃ p a6, x = .pointer (some ⟨p, 0, none⟩) ∧ y = .int .i64 (E : Int) ∧ Hid (NS TR V p w.heap.size (w.heap.size + 1) s a c R a6 wx))
  case first =>
    have hs4 := Lib.hid (hJ.out.to (below_drew V)).q4
    have hs5 := Lib.hid (fun o => (hJ.out.to (al0 V o).drew).q4)
    have hra' := Lib.hid (fun (w' : World) (hB : Below V.heap.size V w') => hra.out w' (hHS.out.below hB))
    clear hap hpp hxH hxV hwV hpl
    go_region_held3 (Q4 w.heap.size (w.heap.size + 1) s a c)
      (first | with_reducible exact hs4.out | with_reducible exact hs5.out _ | with_reducible exact s5.out | with_reducible exact s5a.out _ | with_reducible exact s6.out | with_reducible exact s6a.out _ | with_reducible exact s6b.out | with_reducible exact s6c.out _ | (go_must (exact (0 : Nat))) | fail)
      (first | (go_at_call 18; ((with_reducible refine (told_any s a _).mono ?_); rintro e w5 ⟨rfl, hB5⟩; (first | (have x5 : Hid (Below V.heap.size V w5) := Lib.hid (by with_reducible exact undrewB hB5)) | (have x5 : Hid (Below V.heap.size V w5) := Lib.hid (by with_reducible exact undrewC hB5); have z5 : Hid (SB TR V.heap.size zC zA w5) := Lib.hid (undrewZ hB5 rfl)) | fail); have s5 := Lib.hid (hJ.out.to x5.out).q4; have s5a := Lib.hid (fun o => (hJ.out.to (belowA x5.out o)).q4); clear hB5)) | (go_at_call 17; ((with_reducible refine (hra'.out _ (by first | with_reducible exact x5.out | with_reducible exact belowA x5.out _)).mono ?_); rintro e w6 ⟨a6, rfl, hM, hB6⟩; (first | (have z6 := SB.below z5.out hB6; have x6 : Hid (Below V.heap.size V w6) := Lib.hid (trans0 x5.out hB6); have s6b := Lib.hid (q4_row (Nat.le_refl _) x6.out hJ.out (cS (R) a6)); have st6 := st_of z6 (.inr rfl) (R) a6; have n6B := Lib.hid (fin_doc (.inr rfl) (Nat.le_refl _) z6 hM hHS.out x6.out hJ.out); clear z6) | (have x6 : Hid (Below V.heap.size V w6) := Lib.hid (by with_reducible exact belowY x5.out hB6); have z6 : SB TR w5.heap.size zC zA w6 := undrewY hB6 rfl; have s6b := Lib.hid (q4_row x5.out.size x6.out hJ.out (cS (R) a6)); have st6 := st_of z6 (.inr rfl) (R) a6; have n6A := Lib.hid (fin_doc (.inr rfl) x5.out.size z6 hM hHS.out x6.out hJ.out); clear z6) | (have x6 : Hid (Below V.heap.size V w6) := Lib.hid (trans0 x5.out hB6); have s6a := Lib.hid (fun o => (hJ.out.to (belowA x6.out o)).q4); have s6c := Lib.hid (fun o => q4_row (p := w6.heap.size) x6.out.size (belowA x6.out o) hJ.out (cS (R) a6)); have n6C := Lib.hid (fun (cs : Array Value) (e : cs = cS zC zA) => fin_doc (.inr rfl) (p := w6.heap.size) (w6 := w6.alloc (.cells cs TR)) x6.out.size (show SB TR _ zC zA _ from by subst e; exact SB.new TR zC zA w6) (fun i hi => (hM i hi).imp id fun h => ⟨h.1.below (al0 w6 _), h.2⟩) hHS.out (belowA x6.out _) hJ.out)) | fail); have s6 := Lib.hid (hJ.out.to x6.out).q4; clear hM hB6)) | fail)
    all_goals
      go_wp2
      go_meet
      first | exact ⟨_, _, rfl, rfl, n6B⟩ | exact ⟨_, _, rfl, rfl, n6A⟩ | exact ⟨_, _, rfl, rfl, Lib.hid (n6C.out _ rfl)⟩ | (go_must (exact (0 : Nat)))
  case rest =>
    obtain ⟨p2, a6, rfl, rfl, hn⟩ := hcut
    obtain ⟨n1, n2, n3, n4, n5⟩ := hn.out
    have hJ2 := Lib.hid n5
    have hHS2 := Lib.hid (hHS.out.below n4)
    have hx2 := Lib.hid (hxV.out.below n4)
    have hxH2 := Lib.hid (hxH.out.below n4)
    have hy2 := Lib.hid n2
    have hyH2 := Lib.hid n3
    have hw2 := Lib.hid (trans0 hwV.out n4)
    clear hn n1 n2 n3 n4 n5 hra hxV hxH hHS hJ hwV hpl
    rename_i K1 aK1
    go_upto_region 5 with (fail)
    have hpl2 : Hid (p1 < wc.heap.size ∧ p2 < wc.heap.size) := Lib.hid ⟨hx2.out.lt, hy2.out.lt⟩
    go_cut [9, 10] from 9 to 33 (fun x y wx => ∃ p a7, x = .pointer (some ⟨p, 0, none⟩) ∧ y = .int .i64 (E : Int) ∧ Hid (NS TS wc p w.heap.size (w.heap.size + 1) s a c R a7 wx))
    case first =>
      have hs4 := Lib.hid (hJ2.out.to (below_drew wc)).q4
      have hs5 := Lib.hid (fun o => (hJ2.out.to (al0 wc o).drew).q4)
      have hpp' := Lib.hid (fun (w' : World) (hB : Below wc.heap.size wc w') => hpp.out w' (hHS2.out.below hB))
      clear hap hpp hxH2 hx2 hy2 hyH2 hw2 hpl2
      go_region_held3 (Q4 w.heap.size (w.heap.size + 1) s a c)
        (first | with_reducible exact hs4.out | with_reducible exact hs5.out _ | with_reducible exact s5.out | with_reducible exact s5a.out _ | with_reducible exact s6.out | with_reducible exact s6a.out _ | with_reducible exact s6b.out | with_reducible exact s6c.out _ | (go_must (exact (0 : Nat))) | fail)
        (first | (go_at_call 19; ((with_reducible refine (plain_any c _).mono ?_); rintro e w5 ⟨rfl, hB5⟩; (first | (have x5 : Hid (Below wc.heap.size wc w5) := Lib.hid (by with_reducible exact undrewB hB5)) | (have x5 : Hid (Below wc.heap.size wc w5) := Lib.hid (by with_reducible exact undrewC hB5); have z5 : Hid (SB TS wc.heap.size zC zA w5) := Lib.hid (undrewZ hB5 rfl)) | fail); have s5 := Lib.hid (hJ2.out.to x5.out).q4; have s5a := Lib.hid (fun o => (hJ2.out.to (belowA x5.out o)).q4); clear hB5)) | (go_at_call 16; ((with_reducible refine (hpp'.out _ (by first | with_reducible exact x5.out | with_reducible exact belowA x5.out _)).mono ?_); rintro e w6 ⟨a6, rfl, hM, hB6⟩; (first | (have z6 := SB.below z5.out hB6; have x6 : Hid (Below wc.heap.size wc w6) := Lib.hid (trans0 x5.out hB6); have s6b := Lib.hid (q4_row (Nat.le_refl _) x6.out hJ2.out (cS (R) a6)); have st6 := st_of z6 (.inl rfl) (R) a6; have n6B := Lib.hid (fin_prg (.inl rfl) (Nat.le_refl _) z6 hM hsR.out x6.out hJ2.out); clear z6) | (have x6 : Hid (Below wc.heap.size wc w6) := Lib.hid (by with_reducible exact belowY x5.out hB6); have z6 : SB TS w5.heap.size zC zA w6 := undrewY hB6 rfl; have s6b := Lib.hid (q4_row x5.out.size x6.out hJ2.out (cS (R) a6)); have st6 := st_of z6 (.inl rfl) (R) a6; have n6A := Lib.hid (fin_prg (.inl rfl) x5.out.size z6 hM hsR.out x6.out hJ2.out); clear z6) | (have x6 : Hid (Below wc.heap.size wc w6) := Lib.hid (trans0 x5.out hB6); have s6a := Lib.hid (fun o => (hJ2.out.to (belowA x6.out o)).q4); have s6c := Lib.hid (fun o => q4_row (p := w6.heap.size) x6.out.size (belowA x6.out o) hJ2.out (cS (R) a6)); have n6C := Lib.hid (fun (cs : Array Value) (e : cs = cS zC zA) => fin_prg (.inl rfl) (p := w6.heap.size) (w6 := w6.alloc (.cells cs TS)) x6.out.size (show SB TS _ zC zA _ from by subst e; exact SB.new TS zC zA w6) (GS.below hM (al0 w6 _)) hsR.out (belowA x6.out _) hJ2.out)) | fail); have s6 := Lib.hid (hJ2.out.to x6.out).q4; clear hM hB6)) | fail)
      all_goals
        go_wp2
        go_meet
        first | exact ⟨_, _, rfl, rfl, n6B⟩ | exact ⟨_, _, rfl, rfl, n6A⟩ | exact ⟨_, _, rfl, rfl, Lib.hid (n6C.out _ rfl)⟩ | (go_must (exact (0 : Nat)))
    case rest =>
      obtain ⟨p3, a7, rfl, rfl, hn⟩ := hcut
      obtain ⟨n1, n2, n3, n4, n5⟩ := hn.out
      have hJ3 := Lib.hid n5
      have hsH := Lib.hid (hHS2.out.below n4)
      have hx3 := Lib.hid (hx2.out.below n4)
      have hxH3 := Lib.hid (hxH2.out.below n4)
      have hy3 := Lib.hid (hy2.out.below n4)
      have hyH3 := Lib.hid (hyH2.out.below n4)
      have hz3 := Lib.hid n2
      have hzH3 := Lib.hid n3
      have hw3 := Lib.hid (trans0 hw2.out n4)
      clear hn n1 n2 n3 n4 n5 hap hpp hx2 hxH2 hy2 hyH2 hJ2 hHS2 hw2 hpl2
      go_upto_region 6 with (fail)
      have hQ := Lib.hid (fun (w' : World) (hB : Below wc.heap.size wc w') => q6_of (hJ3.out.to hB) (hx3.out.below hB) (hy3.out.below hB) (hz3.out.below hB))
      have q0 := Lib.hid (hQ.out _ (below_drew wc))
      clear hJ3 hx3 hy3 hz3 hsH
      go_region_held3 (Q6 w.heap.size (w.heap.size + 1) p1 p2 p3 s a c R a2 a6 a7)
        (first | with_reducible exact q0.out | with_reducible exact q1.out | with_reducible exact q2.out | with_reducible exact q3.out | with_reducible exact q4.out | with_reducible exact q5.out | with_reducible exact q6.out | with_reducible exact q7.out | with_reducible exact q8.out | (go_must (exact (0 : Nat))))
        (first | (go_at_call 11; ((with_reducible refine (awake_any _).mono ?_); rintro e v1 ⟨rfl, hB⟩; have x1 : Hid (Below wc.heap.size wc v1) := Lib.hid (undrewB hB); have q1 := Lib.hid (hQ.out _ x1.out); clear hB)) | (go_at_call 12; ((with_reducible refine (same_any R a2 a6 _ (hxH3.out.below x1.out) (hyH3.out.below x1.out)).mono ?_); rintro e v2 ⟨rfl, hB⟩; have x2 : Hid (Below wc.heap.size wc v2) := Lib.hid (trans0 x1.out hB); have q2 := Lib.hid (hQ.out _ x2.out); clear hB)) | (go_at_call 12; ((with_reducible refine (same_any R a7 a6 _ (hzH3.out.below x2.out) (hyH3.out.below x2.out)).mono ?_); rintro e v3 ⟨rfl, hB⟩; have x3 : Hid (Below wc.heap.size wc v3) := Lib.hid (trans0 x2.out hB); have q3 := Lib.hid (hQ.out _ x3.out); clear hB)) | (go_at_call 19; ((with_reducible refine (plain_any c _).mono ?_); rintro e v4 ⟨rfl, hB⟩; have x4 : Hid (Below wc.heap.size wc v4) := Lib.hid (trans0 x3.out hB); have q4 := Lib.hid (hQ.out _ x4.out); clear hB)) | (go_at_call 20; ((with_reducible refine (rplain_any c _).mono ?_); rintro e v5 ⟨rfl, hB⟩; have x5 : Hid (Below wc.heap.size wc v5) := Lib.hid (trans0 x4.out hB); have q5 := Lib.hid (hQ.out _ x5.out); clear hB)) | (go_at_call 13; ((with_reducible refine (count_any s a _).mono ?_); rintro e v6 ⟨rfl, hB⟩; have x6 : Hid (Below wc.heap.size wc v6) := Lib.hid (trans0 x5.out hB); have q6 := Lib.hid (hQ.out _ x6.out); clear hB)) | (go_at_call 18; ((with_reducible refine (told_any s a _).mono ?_); rintro e v7 ⟨rfl, hB⟩; have x7 : Hid (Below wc.heap.size wc v7) := Lib.hid (trans0 x6.out hB); have q7 := Lib.hid (hQ.out _ x7.out); clear hB)) | (go_at_call 14; ((with_reducible refine (rcount_any s a _).mono ?_); rintro e v8 ⟨rfl, hB⟩; have x8 : Hid (Below wc.heap.size wc v8) := Lib.hid (trans0 x7.out hB); have q8 := Lib.hid (hQ.out _ x8.out); clear hB)) | fail)
      all_goals
        go_wp2
        go_ret
        exact ⟨by simp, trans0 hw3.out x8.out⟩
set_option maxHeartbeats 1000000 in
theorem applies_any (s : Cf) (a : Wh) (c : Cm) (w : World) (hk : KC c) (hH : HS w s a) : Calls Try.prog 4 #[.agg (cS s a), vC c] w fun e w' => e = .returned (.bool true) ∧ Below w.heap.size w w' := by
  cases hg : grt s with
  | false => exact applies_small s a c w hk hH hg
  | true =>
    have hB1 := al0 w (.cells (cS s a) TS)
    have hS1 := SB.new TS s a w
    obtain ⟨W1, hW1⟩ : ∃ W1, w.alloc (.cells (cS s a) TS) = W1 := ⟨_, rfl⟩
    rw [hW1] at hB1 hS1
    have hB2 := al0 W1 (.cells (cC c) 43)
    obtain ⟨W, hW2⟩ : ∃ W2, W1.alloc (.cells (cC c) 43) = W2 := ⟨_, rfl⟩
    rw [hW2] at hB2
    have hBW := Lib.hid (trans0 hB1 hB2)
    have hSo := hS1.below hB2
    have hWf : Hid ((w.alloc (.cells (cS s a) TS)).alloc (.cells (cC c) 43) = W) := Lib.hid (by rw [hW1, hW2])
    have hgr := great_any s a W hH.sz
    rw [hg] at hgr
    replace hgr := Lib.hid hgr
    clear hB1 hS1 hW1 hB2 hW2 hH hk hg
    go_enter Try.func4, Try.ntmps4
    go_upto_region 1 with (fail)
    rw [hWf.out]
    go_wp2_with (first
      | (refine st_load rfl TS _ rfl w.heap.size rfl hSo (.inl rfl) ?_; clear hSo)
      | (go_at_call 15; ((with_reducible refine hgr.out.mono ?_); rintro e w1 ⟨rfl, hB1⟩; have hb1 := Lib.hid (trans0 hBW.out hB1); clear hB1))
      | (go_at_call 11; ((with_reducible refine (awake_any _).mono ?_); rintro e w2 ⟨rfl, hB2⟩; have hb2 := Lib.hid (trans0 hb1.out hB2); clear hB2))
      | fail)
    go_ret
    exact ⟨rfl, hb2.out⟩
end Go.Proofs.Ytpijljbkdfjhcaa.cfX
