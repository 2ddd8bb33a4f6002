/- ConfigOwns. -/
import Derived.Test.YtpijljbkdfjhcaaCfM
import Derived.Test.YtpijljbkdfjhcaaCfW
import Derived.Test.YtpijljbkdfjhcaaSpnX
set_option linter.unusedVariables false
set_option maxRecDepth 100000
namespace Go.Proofs.Ytpijljbkdfjhcaa.cfOw
open Go.ChangeShapes Go.WideShapes Go.ChangeAt Go.RowKit Go.Deep
open spnM spnA spnB spnD spnI spnJ spnK spnS spnX cfA cfB cfC cfD cfE cfF cfG cfH cfI cfJ cfK cfR cfL cfM cfW
attribute [local go_sem ↓ high] op_ldS op_ldR op_ldM ex_ldS ex_ldR ex_ldM

theorem gm_krs {w : World} {base c1 c2 : Nat} {A1 A2 : Option Addr} {m : M} (h : GM w base A1 c1 A2 c2 m) (h1 : m.cs.length ≤ 140737488351232) : Kr IsS base w A1 m.cs.length := kr_own (fun x => ⟨x, rfl⟩) h.cs h1
theorem gm_kri {w : World} {base c1 c2 : Nat} {A1 A2 : Option Addr} {m : M} (h : GM w base A1 c1 A2 c2 m) (h2 : m.ns.length ≤ 140737488351232) : Kr IsI base w A2 m.ns.length := kr_own (fun x => ⟨x, rfl⟩) h.ns h2
/-- the law's own boxes: a configuration, a command -/
structure JO (b0 b1 : Nat) (s : Cf) (a : Wh) (c : Cm) (w : World) : Prop where
  sb : SB TS b0 s a w
  l6 : L6 b1 c w
  hs : HS w s a
theorem JO.to {b0 b1 : Nat} {s : Cf} {a : Wh} {c : Cm} {w w1 : World} (h : JO b0 b1 s a c w) (hB : Below w.heap.size w w1) : JO b0 b1 s a c w1 := ⟨h.sb.below hB, L6.to h.l6 hB, h.hs.below hB⟩
/-- a world in which rows of the law's own have been painted over -/
structure Pn (base : Nat) (w w' : World) : Prop where
  bel : Below base w w'
  sl : ∀ b o A n c, w.cell? ⟨b, o, none⟩ = some (.slice A n c) → w'.cell? ⟨b, o, none⟩ = some (.slice A n c)
  ks : ∀ A n, Kr IsS base w A n → Kr IsS base w' A n
  ki : ∀ A n, Kr IsI base w A n → Kr IsI base w' A n
section
variable {base g o : Nat} {w w1 w2 : World} {u u' : Value}
theorem Pn.refl (base : Nat) (w : World) : Pn base w w := ⟨Below.refl _ _, fun _ _ _ _ _ h => h, fun _ _ h => h, fun _ _ h => h⟩
theorem Pn.trans (h : Pn base w w1) (h2 : Pn base w1 w2) : Pn base w w2 := ⟨h.bel.trans h2.bel, fun b o A n c x => h2.sl b o A n c (h.sl b o A n c x), fun A n x => h2.ks A n (h.ks A n x), fun A n x => h2.ki A n (h.ki A n x)⟩
theorem Pn.of (hB : Below w.heap.size w w1) (hb : base ≤ w.heap.size) : Pn base w w1 := ⟨hB.mono hb, fun _ _ _ _ _ h => keep_cell hB h, fun _ _ h => h.below hB, fun _ _ h => h.below hB⟩
theorem Pn.drew (h : Pn base w w1) : Pn base w w1.drew := ⟨h.bel.drew, h.sl, h.ks, h.ki⟩
theorem Pn.alloc (h : Pn base w w1) (hb : base ≤ w.heap.size) (ob : Obj) : Pn base w (w1.alloc ob) := h.trans (Pn.of (al0 w1 ob) (Nat.le_trans hb h.bel.size))
theorem Pn.setS (h : Pn base w w1) (hu : w1.cell? ⟨g, o, none⟩ = some u) (hQ : IsS u) (hQ' : IsS u') (hg : base ≤ g) : Pn base w (w1.setCell ⟨g, o, none⟩ u') :=
  ⟨h.bel.setCell (p := ⟨g, o, none⟩) hg u', fun b o A n c x => cell_apart hu (.inl hQ) (h.sl b o A n c x), fun A n x => (h.ks A n x).set hu hQ hQ' (.inl fun _ h => h), fun A n x => (h.ki A n x).set hu hQ hQ' (.inr fun _ h => vs_ne h)⟩
theorem Pn.setI (h : Pn base w w1) (hu : w1.cell? ⟨g, o, none⟩ = some u) (hQ : IsI u) (hQ' : IsI u') (hg : base ≤ g) : Pn base w (w1.setCell ⟨g, o, none⟩ u') :=
  ⟨h.bel.setCell (p := ⟨g, o, none⟩) hg u', fun b o A n c x => cell_apart hu (.inr hQ) (h.sl b o A n c x), fun A n x => (h.ks A n x).set hu hQ hQ' (.inr fun _ h => vi_ne h), fun A n x => (h.ki A n x).set hu hQ hQ' (.inl fun _ h => h)⟩
end
/-- maps that lie in a box, and may be painted -/
def HB (base p : Nat) (s : Cf) (a : Wh) (w : World) : Prop := ∀ j, j < 4 →
  w.cell? ⟨p, 6 + j * 2, none⟩ = some (.slice (a j).A1 (s.ms j).cs.length (a j).c1) ∧ w.cell? ⟨p, 6 + j * 2 + 1, none⟩ = some (.slice (a j).A2 (s.ms j).ns.length (a j).c2) ∧
  Kr IsS base w (a j).A1 (s.ms j).cs.length ∧ Kr IsI base w (a j).A2 (s.ms j).ns.length
theorem HB.pn {base p : Nat} {s : Cf} {a : Wh} {w w1 : World} (h : HB base p s a w) (hp : Pn base w w1) : HB base p s a w1 := fun j hj => by
  obtain ⟨h1, h2, h3, h4⟩ := h j hj
  exact ⟨hp.sl _ _ _ _ _ h1, hp.sl _ _ _ _ _ h2, hp.ks _ _ h3, hp.ki _ _ h4⟩
theorem HB.new {base p : Nat} {s : Cf} {a : Wh} {w : World} (h : SB TS p s a w) (hG : GS w base s a) (hz : Sz s) : HB base p s a w := fun j hj =>
  ⟨h.m1 hj, h.m2 hj, gm_krs (hG j hj) (by have := (hz j hj).1; omega), gm_kri (hG j hj) (by have := (hz j hj).2; omega)⟩
abbrev LDs (b b' : Nat) (s : Cf) (a a' : Wh) (w : World) : Prop :=
  RdT TS w (.pointer (some ⟨b, 0, none⟩)) ∧ rdV TS w (.pointer (some ⟨b, 0, none⟩)) = .agg (cS s a) ∧ RdT TS w (.pointer (some ⟨b', 0, none⟩)) ∧ rdV TS w (.pointer (some ⟨b', 0, none⟩)) = .agg (cS s a')
theorem lds_of {b b' : Nat} {s : Cf} {a a' : Wh} {w : World} (h : SB TS b s a w) (h' : SB TS b' s a' w) : LDs b b' s a a' w :=
  ⟨(rd_row h (.inl rfl)).1, (rd_row h (.inl rfl)).2, (rd_row h' (.inl rfl)).1, (rd_row h' (.inl rfl)).2⟩
theorem undrewB {V w5 : World} (h : Below V.drew.heap.size V.drew w5) : Below V.heap.size V w5 := ⟨h.os, h.tape, h.output, h.size, h.block⟩
theorem row4 {base : Nat} {w : World} {A1 A2 B1 B2 : Option Addr} {n1 c1 n2 c2 m1 d1 m2 d2 : Nat} (t : TypeId) (h1 : Kr IsS base w A1 n1) (h2 : Kr IsI base w A2 n2) (h3 : Kr IsS base w B1 m1) (h4 : Kr IsI base w B2 m2) :
    ∃ (D1 D2 : Nat → Option Addr) (q1 e1 q2 e2 : Nat → Nat), ∀ x, x < 2 →
      ((w.alloc (.cells #[.slice A1 n1 c1, .slice A2 n2 c2, .slice B1 m1 d1, .slice B2 m2 d2] t)).drew).cell? ⟨w.heap.size, x * 2, none⟩ = some (.slice (D1 x) (q1 x) (e1 x)) ∧
      ((w.alloc (.cells #[.slice A1 n1 c1, .slice A2 n2 c2, .slice B1 m1 d1, .slice B2 m2 d2] t)).drew).cell? ⟨w.heap.size, x * 2 + 1, none⟩ = some (.slice (D2 x) (q2 x) (e2 x)) ∧
      Kr IsS base ((w.alloc (.cells #[.slice A1 n1 c1, .slice A2 n2 c2, .slice B1 m1 d1, .slice B2 m2 d2] t)).drew) (D1 x) (q1 x) ∧ Kr IsI base ((w.alloc (.cells #[.slice A1 n1 c1, .slice A2 n2 c2, .slice B1 m1 d1, .slice B2 m2 d2] t)).drew) (D2 x) (q2 x) := by
  have hB : Below w.heap.size w ((w.alloc (.cells #[.slice A1 n1 c1, .slice A2 n2 c2, .slice B1 m1 d1, .slice B2 m2 d2] t)).drew) := (al0 w (.cells #[.slice A1 n1 c1, .slice A2 n2 c2, .slice B1 m1 d1, .slice B2 m2 d2] t)).drew
  have h := fun (j : Nat) (v : Value) (hv : (#[.slice A1 n1 c1, .slice A2 n2 c2, .slice B1 m1 d1, .slice B2 m2 d2] : Array Value)[j]? = some v) => (cell_of_row _ _ j _ t (0, 0) (heap_alloc_new w (.cells #[.slice A1 n1 c1, .slice A2 n2 c2, .slice B1 m1 d1, .slice B2 m2 d2] t))).trans hv
  refine ⟨fun x => if x = 0 then A1 else B1, fun x => if x = 0 then A2 else B2, fun x => if x = 0 then n1 else m1, fun x => if x = 0 then c1 else d1, fun x => if x = 0 then n2 else m2, fun x => if x = 0 then c2 else d2, fun x hx => ?_⟩
  have : x = 0 ∨ x = 1 := by omega
  rcases this with rfl | rfl
  · exact ⟨h 0 _ rfl, h 1 _ rfl, h1.below hB, h2.below hB⟩
  · exact ⟨h 2 _ rfl, h 3 _ rfl, h3.below hB, h4.below hB⟩
set_option maxHeartbeats 8000000 in
theorem owns_small (s : Cf) (a : Wh) (c : Cm) (w : World) (hk : KC c) (hH : HS w s a) (hg : grt s = false) : Calls Try.prog 8 #[.agg (cS s a), vC c] w fun e w' => e = .returned (.bool true) ∧ Below w.heap.size w w' := by
  have hB1 := al0 w (.cells (cS s a) TS)
  have hS1 := SB.new TS s a w
  obtain ⟨W1, hW1⟩ : ∃ W1, w.alloc (.cells (cS s a) TS) = W1 := ⟨_, rfl⟩
  have hz1 : W1.heap.size = w.heap.size + 1 := by rw [← hW1]; simp
  rw [hW1] at hB1 hS1
  have hB2 := al0 W1 (.cells (cC c) 43)
  obtain ⟨d0, d1, d2⟩ := cells6 W1 c 43
  obtain ⟨e0, e2, e3, e5⟩ := cells6b W1 c 43
  obtain ⟨W, hW2⟩ : ∃ W2, W1.alloc (.cells (cC c) 43) = W2 := ⟨_, rfl⟩
  rw [hW2] at hB2 d0 d1 d2 e0 e2 e3 e5
  rw [hz1] at d0 d1 d2 e0 e2 e3 e5
  have hBW := Lib.hid (trans0 hB1 hB2)
  have hJW := Lib.hid (show JO w.heap.size (w.heap.size + 1) s a c W from ⟨hS1.below hB2, ⟨e0, d0, e2, d1, d2, e5⟩, hH.below hBW.out⟩)
  have hWf : Hid ((w.alloc (.cells (cS s a) TS)).alloc (.cells (cC c) 43) = W) := Lib.hid (by rw [hW1, hW2])
  have hsR := Lib.hid (sz_ap hH.sz c)
  have hsz := Lib.hid hH.sz
  have hgr := great_any s a W hH.sz
  rw [hg] at hgr
  replace hgr := Lib.hid hgr
  have hap := Lib.hid (fun w' (h : HS w' s a) => apply_any s a c w' hk h)
  have hSo := hJW.out.sb
  clear hB1 hS1 hW1 hz1 hB2 d0 d1 d2 e0 e2 e3 e5 hW2 hH hk hg
  generalize apE s c = E at *
  generalize apM s c = R at *
  go_enter Try.func8, Try.ntmps8
  go_upto_region 1 with (fail)
  rw [hWf.out]
  go_upto_region 4 with (first
    | (refine st_load rfl TS _ rfl w.heap.size rfl hSo (.inl rfl) ?_; clear hSo)
    | (go_at_call 15; ((with_reducible refine hgr.out.mono ?_); rintro e w1 ⟨rfl, hB1⟩; have hj1 := Lib.hid (hJW.out.to hB1); have hS1 := hj1.out.sb; have hb1 := Lib.hid (trans0 hBW.out hB1); clear hB1 hJW hgr))
    | (refine st_load rfl TS _ rfl w.heap.size rfl hS1 (.inl rfl) ?_; clear hS1)
    | (go_at_call 25; ((with_reducible refine (copy_any s a _ hj1.out.hs).mono ?_); rintro e w2 ⟨a1, rfl, hG2, hB2⟩; have hg2 := Lib.hid (hG2.hs hsz.out); have hb2 := Lib.hid hB2; clear hG2 hB2))
    | (go_at_call 18; ((with_reducible refine (told_any s a1 _).mono ?_); rintro e w3 ⟨rfl, hB3⟩; have hb3 := Lib.hid hB3; have hn3 := Lib.hid (show SB TR w3.heap.size zC zA (w3.alloc (.cells #[.int .i64 0, .int .i64 0, .bool false, .bool false, .bool false, .bool false, .slice none 0 0, .slice none 0 0, .slice none 0 0, .slice none 0 0, .slice none 0 0, .slice none 0 0, .slice none 0 0, .slice none 0 0, .int .i64 0, .int .i64 0, .int .i64 0, .int .i64 0, .int .i64 0, .int .i64 0, .int .i64 0, .int .i64 0, .int .i64 0, .int .i64 0, .int .i64 0, .int .i64 0, .int .i64 0, .int .i64 0, .int .i64 0, .int .i64 0, .int .i64 0, .int .i64 0, .int .i64 0, .int .i64 0, .int .i64 0] TR)) from SB.new TR zC zA w3); clear hB3))
    | (refine st_put rfl TR _ _ rfl w3.heap.size s a1 rfl rfl hn3.out (.inr rfl) ?_; intro V hSV hBV hGV hzV; have hbV := Lib.hid (trans0 hb3.out ((al0 w3 (.cells #[.int .i64 0, .int .i64 0, .bool false, .bool false, .bool false, .bool false, .slice none 0 0, .slice none 0 0, .slice none 0 0, .slice none 0 0, .slice none 0 0, .slice none 0 0, .slice none 0 0, .slice none 0 0, .int .i64 0, .int .i64 0, .int .i64 0, .int .i64 0, .int .i64 0, .int .i64 0, .int .i64 0, .int .i64 0, .int .i64 0, .int .i64 0, .int .i64 0, .int .i64 0, .int .i64 0, .int .i64 0, .int .i64 0, .int .i64 0, .int .i64 0, .int .i64 0, .int .i64 0, .int .i64 0, .int .i64 0] TR)).trans (hBV w3.heap.size (Nat.le_refl _)))); have hj := Lib.hid ((hj1.out.to hb2.out).to hbV.out); have hwV := Lib.hid (trans0 hb1.out (trans0 hb2.out hbV.out)); have hxV := Lib.hid hSV; have hxH := Lib.hid (hg2.out.below hbV.out); clear hSV hBV hGV hzV hn3 hg2 hb2 hbV hj1 hb1)
    | fail)
  generalize w3.heap.size = p1 at *
  clear hWf hBW
  have hSV := hj.out.sb
  obtain ⟨l0, l1, l2, l3, l4, l5⟩ := hj.out.l6
  go_upto_region 5 with (first
    | (refine st_load rfl TS _ rfl w.heap.size rfl hSV (.inl rfl) ?_; clear hSV)
    | (go_at_call 16; ((with_reducible refine (hap.out _ hj.out.hs).mono ?_); rintro e w4 ⟨a2, rfl, hG4, hB4⟩; have hn4 := Lib.hid (show SB TS w4.heap.size zC zA (w4.alloc (.cells #[.int .i64 0, .int .i64 0, .bool false, .bool false, .bool false, .bool false, .slice none 0 0, .slice none 0 0, .slice none 0 0, .slice none 0 0, .slice none 0 0, .slice none 0 0, .slice none 0 0, .slice none 0 0, .int .i64 0, .int .i64 0, .int .i64 0, .int .i64 0, .int .i64 0, .int .i64 0, .int .i64 0, .int .i64 0, .int .i64 0, .int .i64 0, .int .i64 0, .int .i64 0, .int .i64 0, .int .i64 0, .int .i64 0, .int .i64 0, .int .i64 0, .int .i64 0, .int .i64 0, .int .i64 0, .int .i64 0] TS)) from SB.new TS zC zA w4); have hg4 := Lib.hid hG4; have hb4 := Lib.hid hB4; clear hG4 hB4 l0 l1 l2 l3 l4 l5))
    | (refine st_put rfl TS _ _ rfl w4.heap.size R a2 rfl rfl hn4.out (.inl rfl) ?_; intro X hSX hBX hGX hzX; have hbX := Lib.hid (trans0 hb4.out ((al0 w4 (.cells #[.int .i64 0, .int .i64 0, .bool false, .bool false, .bool false, .bool false, .slice none 0 0, .slice none 0 0, .slice none 0 0, .slice none 0 0, .slice none 0 0, .slice none 0 0, .slice none 0 0, .slice none 0 0, .int .i64 0, .int .i64 0, .int .i64 0, .int .i64 0, .int .i64 0, .int .i64 0, .int .i64 0, .int .i64 0, .int .i64 0, .int .i64 0, .int .i64 0, .int .i64 0, .int .i64 0, .int .i64 0, .int .i64 0, .int .i64 0, .int .i64 0, .int .i64 0, .int .i64 0, .int .i64 0, .int .i64 0] TS)).trans (hBX w4.heap.size (Nat.le_refl _)))); have hjX := Lib.hid (hj.out.to hbX.out); have hx2 := Lib.hid hSX; have hgX := Lib.hid (hGX _ _ _ (hg4.out.below (al0 w4 (.cells #[.int .i64 0, .int .i64 0, .bool false, .bool false, .bool false, .bool false, .slice none 0 0, .slice none 0 0, .slice none 0 0, .slice none 0 0, .slice none 0 0, .slice none 0 0, .slice none 0 0, .slice none 0 0, .int .i64 0, .int .i64 0, .int .i64 0, .int .i64 0, .int .i64 0, .int .i64 0, .int .i64 0, .int .i64 0, .int .i64 0, .int .i64 0, .int .i64 0, .int .i64 0, .int .i64 0, .int .i64 0, .int .i64 0, .int .i64 0, .int .i64 0, .int .i64 0, .int .i64 0, .int .i64 0, .int .i64 0] TS)))); clear hSX hBX hGX hzX hn4 hg4 hb4)
    | fail)
  generalize w4.heap.size = p2 at *
  have hSX := hjX.out.sb
  go_upto_region 6 with (first
    | (refine st_load rfl TS _ rfl w.heap.size rfl hSX (.inl rfl) ?_; clear hSX)
    | (go_at_call 25; ((with_reducible refine (copy_any s a _ hjX.out.hs).mono ?_); rintro e w5 ⟨a3, rfl, hG5, hB5⟩; have hn5 := Lib.hid (show SB TS w5.heap.size zC zA (w5.alloc (.cells #[.int .i64 0, .int .i64 0, .bool false, .bool false, .bool false, .bool false, .slice none 0 0, .slice none 0 0, .slice none 0 0, .slice none 0 0, .slice none 0 0, .slice none 0 0, .slice none 0 0, .slice none 0 0, .int .i64 0, .int .i64 0, .int .i64 0, .int .i64 0, .int .i64 0, .int .i64 0, .int .i64 0, .int .i64 0, .int .i64 0, .int .i64 0, .int .i64 0, .int .i64 0, .int .i64 0, .int .i64 0, .int .i64 0, .int .i64 0, .int .i64 0, .int .i64 0, .int .i64 0, .int .i64 0, .int .i64 0] TS)) from SB.new TS zC zA w5); have hg5 := Lib.hid hG5; have hb5 := Lib.hid hB5; clear hG5 hB5))
    | (refine st_put rfl TS _ _ rfl w5.heap.size s a3 rfl rfl hn5.out (.inl rfl) ?_; intro Y hSY hBY hGY hzY; have hbY := Lib.hid (trans0 hb5.out ((al0 w5 (.cells #[.int .i64 0, .int .i64 0, .bool false, .bool false, .bool false, .bool false, .slice none 0 0, .slice none 0 0, .slice none 0 0, .slice none 0 0, .slice none 0 0, .slice none 0 0, .slice none 0 0, .slice none 0 0, .int .i64 0, .int .i64 0, .int .i64 0, .int .i64 0, .int .i64 0, .int .i64 0, .int .i64 0, .int .i64 0, .int .i64 0, .int .i64 0, .int .i64 0, .int .i64 0, .int .i64 0, .int .i64 0, .int .i64 0, .int .i64 0, .int .i64 0, .int .i64 0, .int .i64 0, .int .i64 0, .int .i64 0] TS)).trans (hBY w5.heap.size (Nat.le_refl _)))); have hjY := Lib.hid (hjX.out.to hbY.out); have hx3 := Lib.hid hSY; have hgY := Lib.hid (GS.more (hGY _ _ _ (hg5.out.below (al0 w5 (.cells #[.int .i64 0, .int .i64 0, .bool false, .bool false, .bool false, .bool false, .slice none 0 0, .slice none 0 0, .slice none 0 0, .slice none 0 0, .slice none 0 0, .slice none 0 0, .slice none 0 0, .slice none 0 0, .int .i64 0, .int .i64 0, .int .i64 0, .int .i64 0, .int .i64 0, .int .i64 0, .int .i64 0, .int .i64 0, .int .i64 0, .int .i64 0, .int .i64 0, .int .i64 0, .int .i64 0, .int .i64 0, .int .i64 0, .int .i64 0, .int .i64 0, .int .i64 0, .int .i64 0, .int .i64 0, .int .i64 0] TS)))) hbX.out.size); clear hSY hBY hGY hzY hn5 hg5 hb5)
    | fail)
  generalize w5.heap.size = p3 at *
  have hQ := Lib.hid (fun (w' : World) (hB : Below Y.heap.size Y w') => lds_of (hx3.out.below hB) (hjY.out.to hB).sb)
  have q0 := Lib.hid (hQ.out _ (below_drew Y))
  have hH3 := Lib.hid (hgY.out.hs hsz.out)
  clear hap
  go_region_held3 (LDs p3 w.heap.size s a3 a)
    (first | with_reducible exact q0.out | with_reducible exact q1.out | with_reducible exact q2.out | (go_must (exact (0 : Nat))))
    (first
      | (go_at_call 18; ((with_reducible refine (told_any s a _).mono ?_); rintro e v1 ⟨rfl, hB⟩; have x1 : Hid (Below Y.heap.size Y v1) := Lib.hid (undrewB hB); have q1 := Lib.hid (hQ.out _ x1.out); clear hB))
      | (go_at_call 12; ((with_reducible refine (same_any s a3 a _ (hH3.out.below x1.out) ((hjY.out.to x1.out).hs)).mono ?_); rintro e v2 ⟨rfl, hB⟩; have x2 : Hid (Below Y.heap.size Y v2) := Lib.hid (trans0 x1.out hB); have q2 := Lib.hid (hQ.out _ x2.out); clear hB)) | fail)
  have hh2 := Lib.hid (HB.new (hx2.out.below (hbY.out)) (hgX.out.below hbY.out) hsR.out)
  have hh3 := Lib.hid (HB.new hx3.out hgY.out hsz.out)
  have hW2 := Lib.hid (hh2.out.pn (Pn.of x2.out (Nat.le_trans hbX.out.size hbY.out.size)))
  have hW3 := Lib.hid (hh3.out.pn (Pn.of x2.out (Nat.le_trans hbX.out.size hbY.out.size)))
  have hjV := Lib.hid hj.out
  have hBV := Lib.hid (trans0 hbX.out (trans0 hbY.out x2.out))
  clear hh2 hh3 hx2 hx3 hgX hgY hQ q0 q1 q2 hH3 hjX hjY hbX hbY x1 x2 hsR
  go_wp2_with (fail)
  go_loopw [33] (fun i wr => ∃ j : Nat, j ≤ 4 ∧ i = .int .i64 j ∧ Hid (Pn V.heap.size v2 wr)) (fun i _ => 4 - (intOf i).toNat)
  case atStart => exact ⟨0, by omega, rfl, Lib.hid (Pn.refl _ _)⟩
  case round =>
    obtain ⟨j, hj4, rfl, hP⟩ := hrel
    by_cases hlt : j < 4
    · have hj0 : (0 : Int) ≤ (j : Int) := by omega
      have hj1 : (j : Int) < 4 := by omega
      obtain ⟨k0, k1, k2, k3⟩ := (hW2.out.pn hP.out) j hlt
      obtain ⟨k4, k5, k6, k7⟩ := (hW3.out.pn hP.out) j hlt
      obtain ⟨D1, D2, n1, e1, n2, e2, hC⟩ := row4 (c1 := (a2 j).c1) (c2 := (a2 j).c2) (d1 := (a3 j).c1) (d2 := (a3 j).c2) 26 k2 k3 k6 k7
      have hPa := (hP.out.alloc hBV.out.size (.cells #[.slice (a2 j).A1 (R.ms j).cs.length (a2 j).c1, .slice (a2 j).A2 (R.ms j).ns.length (a2 j).c2, .slice (a3 j).A1 (s.ms j).cs.length (a3 j).c1, .slice (a3 j).A2 (s.ms j).ns.length (a3 j).c2] 26)).drew
      replace hC := Lib.hid hC
      replace hPa := Lib.hid hPa
      clear k2 k3 k6 k7
      go_wp2_with (fail)
      go_region
      go_wp2_with (fail)
      obtain ⟨wa, hwa⟩ : ∃ wa, (wr.alloc (.cells #[.slice (a2 j).A1 (R.ms j).cs.length (a2 j).c1, .slice (a2 j).A2 (R.ms j).ns.length (a2 j).c2, .slice (a3 j).A1 (s.ms j).cs.length (a3 j).c1, .slice (a3 j).A2 (s.ms j).ns.length (a3 j).c2] 26)).drew = wa := ⟨_, rfl⟩
      rw [hwa] at hC hPa ⊢
      generalize wr.heap.size = g at *
      clear k0 k1 k4 k5 hwa
      go_loopw [46] (fun i wi => ∃ x : Nat, x ≤ 2 ∧ i = .int .i64 x ∧ Hid (Pn V.heap.size wa wi)) (fun i _ => 2 - (intOf i).toNat)
      case atStart => exact ⟨0, by omega, rfl, Lib.hid (Pn.refl _ _)⟩
      case round =>
        obtain ⟨x, hx2, rfl, hX⟩ := hrel
        by_cases hxl : x < 2
        · have hx0 : (0 : Int) ≤ (x : Int) := by omega
          have hx1 : (x : Int) < 2 := by omega
          obtain ⟨m0, m1, m2, m3⟩ := hC.out x hxl
          replace m0 := hX.out.sl _ _ _ _ _ m0
          replace m1 := hX.out.sl _ _ _ _ _ m1
          have hz := Lib.hid (show V.heap.size ≤ wa.heap.size from Nat.le_trans hBV.out.size hPa.out.bel.size)
          have hXb := Lib.hid (hX.out.alloc hz.out (.cells #[.slice (D1 x) (n1 x) (e1 x), .slice (D2 x) (n2 x) (e2 x)] 26))
          have hk1 := Lib.hid (hXb.out.ks _ _ m2)
          have hk2 := Lib.hid (hXb.out.ki _ _ m3)
          have hx01 := Lib.hid (cells2 wr (.slice (D1 x) (n1 x) (e1 x)) (.slice (D2 x) (n2 x) (e2 x)) 26)
          clear m2 m3
          go_wp2_with (fail)
          obtain ⟨wb, hwb⟩ : ∃ wb, wr.alloc (.cells #[.slice (D1 x) (n1 x) (e1 x), .slice (D2 x) (n2 x) (e2 x)] 26) = wb := ⟨_, rfl⟩
          rw [hwb] at hXb hk1 hk2 hx01 ⊢
          generalize wr.heap.size = xb at *
          clear m0 m1 hwb
          have hoth := Lib.hid (fun tx w => other_any tx w)
          obtain ⟨x00, x01⟩ := hx01.out
          go_loopw [53] (fun i wq => ∃ y : Nat, y ≤ n1 x ∧ i = .int .i64 y ∧ Hid (Pn V.heap.size wb wq)) (fun i _ => n1 x - (intOf i).toNat)
          case atStart => exact ⟨0, Nat.zero_le _, rfl, Lib.hid (Pn.refl _ _)⟩
          case round =>
            clear x00 x01
            obtain ⟨y, hy, rfl, hY⟩ := hrel
            have x0 := hY.out.sl _ _ _ _ _ hx01.out.1
            by_cases hyl : y < n1 x
            · obtain ⟨hn, h0 | ⟨g1, hg1, hbg, hcs⟩⟩ := hY.out.ks _ _ hk1.out
              · omega
              · obtain ⟨⟨_, ⟨tx, rfl⟩, hcy⟩, hfy⟩ := hcs y hyl
                rw [hg1] at x0
                clear hg1
                have hst := Lib.hid (hY.out.drew.setS (u' := .string (oth tx)) hcy ⟨tx, rfl⟩ ⟨_, rfl⟩ hbg)
                have hst2 := Lib.hid (hY.out.setS (u' := .string (oth tx)) hcy ⟨tx, rfl⟩ ⟨_, rfl⟩ hbg)
                have hy0 : (0 : Int) ≤ (y : Int) := by omega
                have hy1 : (y : Int) < (n1 x : Int) := by omega
                clear hcs
                go_wp2_with (fail)
                go_region_with (first | (go_at_call 26; ((with_reducible refine (hoth.out tx _).mono ?_); rintro e w' ⟨rfl, rfl⟩)) | fail)
                all_goals
                  go_wp2
                  go_roundw
                  case rel => exact ⟨y + 1, by omega, by go_num, by first | exact hst | exact Lib.hid hst2.out.drew⟩
                  case measure => simp [intOf]; omega
            · obtain rfl : y = n1 x := by omega
              have x1 := hY.out.sl _ _ _ _ _ hx01.out.2
              have hk2' := Lib.hid (hY.out.ki _ _ hk2.out)
              have hx1' := Lib.hid x1
              clear x0
              go_wp2_with (fail)
              clear x1
              obtain ⟨wc, hwc⟩ : ∃ wc : World, wc = wr := ⟨_, rfl⟩
              subst hwc
              go_loopw [70] (fun i wq => ∃ y : Nat, y ≤ n2 x ∧ i = .int .i64 y ∧ Hid (Pn V.heap.size wc wq)) (fun i _ => n2 x - (intOf i).toNat)
              case atStart => exact ⟨0, Nat.zero_le _, rfl, Lib.hid (Pn.refl _ _)⟩
              case round =>
                obtain ⟨y, hy, rfl, hZ⟩ := hrel
                have x1 := hZ.out.sl _ _ _ _ _ hx1'.out
                by_cases hyl : y < n2 x
                · obtain ⟨hn, h0 | ⟨g1, hg1, hbg, hcs⟩⟩ := hZ.out.ki _ _ hk2'.out
                  · omega
                  · obtain ⟨⟨_, ⟨tx, rfl⟩, hcy⟩, hfy⟩ := hcs y hyl
                    rw [hg1] at x1
                    clear hg1
                    have hst := Lib.hid (fun s' => hZ.out.setI (u' := .int .i64 s') hcy ⟨tx, rfl⟩ ⟨_, rfl⟩ hbg)
                    have hy0 : (0 : Int) ≤ (y : Int) := by omega
                    have hy1 : (y : Int) < (n2 x : Int) := by omega
                    clear hcs
                    go_wp2
                    go_roundw
                    case rel => exact ⟨y + 1, by omega, by go_num, Lib.hid (hst.out _)⟩
                    case measure => simp [intOf]; omega
                · obtain rfl : y = n2 x := by omega
                  have hfin := Lib.hid (hXb.out.trans (hY.out.trans hZ.out))
                  have hn2 := (hZ.out.ki _ _ hk2'.out).1
                  go_wp2
                  go_roundw
                  case rel => exact ⟨x + 1, by omega, by go_num, hfin⟩
                  case measure => simp [intOf]; omega
        · obtain rfl : x = 2 := by omega
          have hfin := Lib.hid (hPa.out.trans hX.out)
          go_wp2
          go_roundw
          case rel => exact ⟨j + 1, by omega, by go_num, hfin⟩
          case measure => simp [intOf]; omega
    · obtain rfl : j = 4 := by omega
      have hBr := Lib.hid (hBV.out.trans (hP.out.bel))
      have hx1 := Lib.hid (hxV.out.below hBr.out)
      have hxh := Lib.hid (hxH.out.below hBr.out)
      have hjr := Lib.hid (hjV.out.to hBr.out)
      have hbr := Lib.hid (trans0 hwV.out hBr.out)
      go_wp2_with (first
        | (go_at_call 11; ((with_reducible refine (awake_any _).mono ?_); rintro e w8 ⟨rfl, hB8⟩; obtain ⟨r1, r2⟩ := rd_row ((hjr.out.to hB8).sb) (.inl rfl); obtain ⟨r3, r4⟩ := rd_row (hx1.out.below hB8) (.inr rfl); have hj8 := Lib.hid (hjr.out.to hB8).hs; have hb8 := Lib.hid (trans0 hbr.out hB8); have hh8 := Lib.hid (hxh.out.below hB8); clear hB8))
        | (go_at_call 12; ((with_reducible refine (same_any s a a1 _ hj8.out hh8.out).mono ?_); rintro e w9 ⟨rfl, hB9⟩; have hb9 := Lib.hid (trans0 hb8.out hB9); clear hB9))
        | fail)
      go_ret
      exact ⟨by simp, hb9.out⟩
set_option maxHeartbeats 1000000 in
theorem owns_any (s : Cf) (a : Wh) (c : Cm) (w : World) (hk : KC c) (hH : HS w s a) : Calls Try.prog 8 #[.agg (cS s a), vC c] w fun e w' => e = .returned (.bool true) ∧ Below w.heap.size w w' := by
  cases hg : grt s with
  | false => exact owns_small s a c w hk hH hg
  | true =>
    have hB1 := al0 w (.cells (cS s a) TS)
    have hS1 := SB.new TS s a w
    obtain ⟨W1, hW1⟩ : ∃ W1, w.alloc (.cells (cS s a) TS) = W1 := ⟨_, rfl⟩
    rw [hW1] at hB1 hS1
    have hB2 := al0 W1 (.cells (cC c) 43)
    obtain ⟨W, hW2⟩ : ∃ W2, W1.alloc (.cells (cC c) 43) = W2 := ⟨_, rfl⟩
    rw [hW2] at hB2
    have hBW := Lib.hid (trans0 hB1 hB2)
    have hSo := hS1.below hB2
    have hWf : Hid ((w.alloc (.cells (cS s a) TS)).alloc (.cells (cC c) 43) = W) := Lib.hid (by rw [hW1, hW2])
    have hgr := great_any s a W hH.sz
    rw [hg] at hgr
    replace hgr := Lib.hid hgr
    clear hB1 hS1 hW1 hB2 hW2 hH hk hg
    go_enter Try.func8, Try.ntmps8
    go_upto_region 1 with (fail)
    rw [hWf.out]
    go_wp2_with (first
      | (refine st_load rfl TS _ rfl w.heap.size rfl hSo (.inl rfl) ?_; clear hSo)
      | (go_at_call 15; ((with_reducible refine hgr.out.mono ?_); rintro e w1 ⟨rfl, hB1⟩; have hb1 := Lib.hid (trans0 hBW.out hB1); clear hB1))
      | (go_at_call 11; ((with_reducible refine (awake_any _).mono ?_); rintro e w2 ⟨rfl, hB2⟩; have hb2 := Lib.hid (trans0 hb1.out hB2); clear hB2))
      | fail)
    go_ret
    exact ⟨rfl, hb2.out⟩
end Go.Proofs.Ytpijljbkdfjhcaa.cfOw
