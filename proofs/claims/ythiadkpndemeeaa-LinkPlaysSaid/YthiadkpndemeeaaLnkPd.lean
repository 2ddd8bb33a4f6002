/- The two ends side by side; the document's Send. -/
import Derived.Test.YthiadkpndemeeaaLnkPc
namespace Go.Proofs.Ythiadkpndemeeaa.lnkPd
open Go.ChangeShapes Go.WideShapes Go.ChangeAt Go.RowKit Go.Deep
open numM rowA byt numA numB numC lnkA lnkB lnkC lnkD lnkE lnkF lnkG lnkH lnkI lnkL lnkQ lnkR lnkS lnkT lnkPa lnkPb lnkPc

/-- What stands in blocks of K is what stood there. -/
structure Kp (K : Nat → Prop) (w0 w : World) : Prop where
  os : w.os = w0.os
  tape : w.tape = w0.tape
  output : w.output = w0.output
  size : w0.heap.size ≤ w.heap.size
  block : ∀ k, k < w0.heap.size → K k → w.heap[k]? = w0.heap[k]?
theorem Kp.refl (K : Nat → Prop) (w : World) : Kp K w w := ⟨rfl, rfl, rfl, Nat.le_refl _, fun _ _ _ => rfl⟩
theorem Kp.then {K : Nat → Prop} {w0 w w' : World} (h : Kp K w0 w) (hB : Below w.heap.size w w') : Kp K w0 w' :=
  ⟨hB.os.trans h.os, hB.tape.trans h.tape, hB.output.trans h.output, Nat.le_trans h.size hB.size, fun k hk hK => (hB.block k (Nat.lt_of_lt_of_le hk h.size)).trans (h.block k hk hK)⟩
theorem Kp.chg {K : Nat → Prop} {w0 w w' : World} {col : Nat → Nat} {c : Nat} (h : Kp K w0 w) (hg : Chg col c w w') (hc : ∀ i, i < w0.heap.size → K i → col i ≠ c) : Kp K w0 w' :=
  ⟨hg.os.trans h.os, hg.tape.trans h.tape, hg.output.trans h.output, Nat.le_trans h.size hg.size, fun k hk hK => (hg.block k (Nat.lt_of_lt_of_le hk h.size) (hc k hk hK)).trans (h.block k hk hK)⟩
theorem Kp.bl {K : Nat → Prop} {w0 w : World} (h : Kp K w0 w) {A : Option Addr} {n : Nat} {l : List Nat} (hb : BL w0 A n l) (hA : n = 0 ∨ ∀ y, A = some y → K y.block) : BL w A n l := by
  rcases hA with h0 | hA
  · exact ⟨hb.1, hb.2.1, hb.2.2.1, .inl h0⟩
  · refine ⟨hb.1, hb.2.1, hb.2.2.1, hb.2.2.2.imp id ?_⟩
    rintro ⟨b, off, rfl, hlt, hc⟩
    refine ⟨b, off, rfl, Nat.lt_of_lt_of_le hlt h.size, fun i hi => ?_⟩
    rw [World.cell?_of_block (a := ⟨b, off + i, none⟩) (h.block b hlt (hA _ rfl))]
    exact hc i hi
structure PlIs (col : Nat → Nat) (K : Nat → Prop) (w0 w : World) (p q : Nat) (s : St) (d : Dm) (vs vc : Value) (xs : List Value) (css : List (List Value)) : Prop where
  a : EndAt col 1 w p s
  b : DocIs col w q d vs vc xs css
  fresh : Fresh col w
  bel : Kp K w0 w
  zero : ∀ i, i < w0.heap.size → K i → col i = 0
def PlAt (K : Nat → Prop) (w0 w : World) (p q : Nat) (s : St) (d : Dm) : Prop := ∃ col vs vc xs css, PlIs col K w0 w p q s d vs vc xs css
section
variable {col col' : Nat → Nat} {K : Nat → Prop} {w0 w w' : World} {p q : Nat} {s : St} {d : Dm} {vs vc : Value} {xs : List Value} {css : List (List Value)}
theorem PlIs.below (h : PlIs col K w0 w p q s d vs vc xs css) (hB : Below w.heap.size w w') : PlIs col K w0 w' p q s d vs vc xs css :=
  ⟨h.a.below hB, h.b.below hB, h.fresh.below hB, h.bel.then hB, h.zero⟩
theorem PlAt.below (h : PlAt K w0 w p q s d) (hB : Below w.heap.size w w') : PlAt K w0 w' p q s d := by
  obtain ⟨col, vs, vc, xs, css, h⟩ := h
  exact ⟨col, vs, vc, xs, css, h.below hB⟩
theorem PlIs.ext0 (h : PlIs col K w0 w p q s d vs vc xs css) (he : Ext w col col') : ∀ i, i < w0.heap.size → K i → col' i = 0 := fun i hi hK => by
  rw [he i (by have := h.bel.size; omega)]; exact h.zero i hi hK
/-- The program's end has changed. -/
theorem PlIs.setA (h : PlIs col K w0 w p q s d vs vc xs css) (hg : Chg col 1 w w') (he : Ext w col col') (hf : Fresh col' w') {s' : St} (ha : EndAt col' 1 w' p s') : PlIs col' K w0 w' p q s' d vs vc xs css :=
  ⟨ha, h.b.other hg (by decide) (by decide) (by decide) (by decide) he, hf, h.bel.chg hg (fun i hi hK => by rw [h.zero i hi hK]; decide), h.ext0 he⟩
def DOk (d : Dm) : Prop := d.acked ≤ d.sent.length ∧ d.sent.length ≤ 100000 ∧ d.came.length ≤ 100000 ∧ d.got ≤ 1000000 ∧ ∀ x ∈ d.came, x.1 ≤ 10000000
theorem PlIs.ok (h : PlIs col K w0 w p q s d vs vc xs css) : DOk d := ⟨h.b.le, h.b.sl, h.b.cl, h.b.gl, h.b.kl⟩
theorem PlAt.ok (h : PlAt K w0 w p q s d) : DOk d := by obtain ⟨col, vs, vc, xs, css, h⟩ := h; exact h.ok
/-- What the document's end keeps has changed, and a cell of it is laid down. -/
theorem PlIs.stored {w1 : World} {c : Nat} (h : PlIs col K w0 w p q s d vs vc xs css) (hc : 3 < c) (hg : Chg col c w w1) (he : Ext w col col') (hf : Fresh col' w1) (d' : Dm) {vs' vc' : Value} {xs' : List Value} {css' : List (List Value)}
    (hs : RowC col' 4 w1 29 1 vs' d'.sent.length xs') (hsd : Dats col' w1 xs' d'.sent) (hcm : RowC col' 5 w1 72 2 vc' d'.came.length css'.flatten) (hcd : Cms col' w1 css' d'.came) (hok : DOk d')
    (i : Nat) (val : Value) (hcell : ∀ j, j < 5 → (if j = i then val else cD d vs vc j) = cD d' vs' vc' j) : PlIs col' K w0 (w1.setCell ⟨q, i, none⟩ val) p q s d' vs' vc' xs' css' := by
  have ht : col' q = 3 := (he q h.b.row.lt).trans h.b.cq
  have hg2 : Chg col' 3 w1 (w1.setCell ⟨q, i, none⟩ val) := (Chg.refl _ _ _).setCell (p := ⟨q, i, none⟩) ht val
  have he2 := Ext.refl w1 col'
  have hz := h.ext0 he
  have hb1 : Kp K w0 w1 := h.bel.chg hg (fun i hi hK => by rw [h.zero i hi hK]; omega)
  exact ⟨(h.a.other hg (by omega) (by omega) he).other hg2 (by decide) (by decide) he2,
    ⟨((h.b.row.of_block (hg.block q h.b.row.lt (by rw [h.b.cq]; omega))).set i val).congr hcell, ht, hs.other hg2 (by decide) he2, hsd.go hg2 (by decide) he2, hcm.other hg2 (by decide) he2, hcd.go hg2 (by decide) he2, hok.1, hok.2.1, hok.2.2.1, hok.2.2.2.1, hok.2.2.2.2⟩,
    hf.size hg2.size, hb1.chg hg2 (fun i hi hK => by rw [hz i hi hK]; decide), hz⟩
/-- A number of it is laid down. -/
theorem PlIs.setNum (h : PlIs col K w0 w p q s d vs vc xs css) (d' : Dm) (h1 : d'.sent = d.sent) (h2 : d'.came = d.came) (hok : DOk d') (i : Nat) (val : Value) (hcell : ∀ j, j < 5 → (if j = i then val else cD d vs vc j) = cD d' vs vc j) : PlIs col K w0 (w.setCell ⟨q, i, none⟩ val) p q s d' vs vc xs css :=
  h.stored (c := 99) (by decide) (Chg.refl _ _ _) (Ext.refl _ _) h.fresh d' (by rw [h1]; exact h.b.sent) (by rw [h1]; exact h.b.sentd) (by rw [h2]; exact h.b.came) (by rw [h2]; exact h.b.camed) hok i val hcell
/-- The block of the document's end stays while one of its rows grows. -/
theorem farD (h : PlIs col K w0 w p q s d vs vc xs css) {wa w3 : World} (hB : Below w.heap.size w wa) {v : Value} (hv : v = vs ∨ v = vc) (hg : wa.grownBy w3 v.ownBlock) : w3.rowIs q 28 5 (cD d vs vc) := by
  have h2 := h.below hB
  refine h2.b.row.of_block (hg.block q h2.b.row.lt (fun e => ?_))
  rcases hv with rfl | rfl
  · exact row_apart h2.b.row h2.b.sent.1 (by decide) e.symm
  · exact row_apart h2.b.row h2.b.came.1 (by decide) e.symm
theorem addSentD (h : PlIs col K w0 w p q s d vs vc xs css) {A : Option Addr} {c : Nat} {l : List Nat} (hd : Dat col w (.slice A l.length c) l) {wa w3 : World} {v' : Value} (hB : Below w.heap.size w wa) (hr : w3.ownsRow 0 29 1 v' (d.sent.length + 1) (xs ++ [.slice A l.length c])) (hg : wa.grownBy w3 vs.ownBlock)
    (hat : v'.ownBlock = vs.ownBlock ∨ v'.ownBlock = some wa.heap.size) (hsl : d.sent.length < 100000) : PlAt K w0 (w3.setCell ⟨q, 1, none⟩ v') p q s { d with sent := d.sent ++ [l] } := by
  have h2 := h.below hB
  obtain ⟨e1, e2, e3, e4⟩ := app_col h2.fresh h2.b.sent.2 hg hr hat
  have hd2 := hd.go (Chg.of_below col 99 hB) (by decide) (Ext.refl _ _)
  obtain ⟨k1, k2, k3, k4, k5⟩ := h.ok
  refine ⟨_, v', vc, _, css, h2.stored (c := 4) (by decide) e3 e1 e2 ({ d with sent := d.sent ++ [l] }) ⟨?_, e4⟩ ((h2.b.sentd.go e3 (by decide) e1).snoc (hd2.go e3 (by decide) e1)) (h2.b.came.other e3 (by decide) e1) (h2.b.camed.go e3 (by decide) e1) ⟨?_, ?_, k3, k4, k5⟩ 1 v' (fun j hj => ?_)⟩
  · rw [List.length_append]; exact hr
  · show d.acked ≤ (d.sent ++ [l]).length
    rw [List.length_append]; omega
  · show (d.sent ++ [l]).length ≤ 100000
    rw [List.length_append]; simp; omega
  · have : j = 0 ∨ j = 1 ∨ j = 2 ∨ j = 3 ∨ j = 4 := by omega
    rcases this with rfl | rfl | rfl | rfl | rfl <;> rfl
theorem addCameD (h : PlIs col K w0 w p q s d vs vc xs css) {cs : List Value} {x : Nat × List Nat} (hd : Cm col w cs x) {wa w3 : World} {v' : Value} (hB : Below w.heap.size w wa) (hr : w3.ownsRow 0 72 2 v' (d.came.length + 1) (css.flatten ++ cs)) (hg : wa.grownBy w3 vc.ownBlock)
    (hat : v'.ownBlock = vc.ownBlock ∨ v'.ownBlock = some wa.heap.size) (hsl : d.came.length < 100000) (hx : x.1 ≤ 10000000) : PlAt K w0 (w3.setCell ⟨q, 3, none⟩ v') p q s { d with came := d.came ++ [x] } := by
  have h2 := h.below hB
  obtain ⟨e1, e2, e3, e4⟩ := app_col h2.fresh h2.b.came.2 hg hr hat
  have hd2 := hd.go (Chg.of_below col 99 hB) (by decide) (Ext.refl _ _)
  obtain ⟨k1, k2, k3, k4, k5⟩ := h.ok
  refine ⟨_, vs, v', xs, css ++ [cs], h2.stored (c := 5) (by decide) e3 e1 e2 ({ d with came := d.came ++ [x] }) (h2.b.sent.other e3 (by decide) e1) (h2.b.sentd.go e3 (by decide) e1) ⟨?_, e4⟩ (Cms.app (vs2 := [cs]) (ls2 := [x]) (show Cms _ _ [cs] [x] from ⟨hd2.go e3 (by decide) e1, trivial⟩) (h2.b.camed.go e3 (by decide) e1)) ⟨k1, k2, ?_, k4, ?_⟩ 3 v' (fun j hj => ?_)⟩
  · rw [List.length_append, List.flatten_append]; simpa using hr
  · show (d.came ++ [x]).length ≤ 100000
    rw [List.length_append]; simp; omega
  · intro y hy
    rcases List.mem_append.1 hy with h1 | h1
    · exact k5 y h1
    · rw [List.mem_singleton.1 h1]; exact hx
  · have : j = 0 ∨ j = 1 ∨ j = 2 ∨ j = 3 ∨ j = 4 := by omega
    rcases this with rfl | rfl | rfl | rfl | rfl <;> rfl
theorem stand_bl {w : World} {A : Option Addr} {n : Nat} {l : List Nat} (h : BL w A n l) : Stand w A n (ub l) := by
  rcases h.2.2.2 with h0 | ⟨b, off, rfl, _, h3⟩
  · exact .inl h0
  · refine .inr ⟨_, rfl, fun j u hu => ?_⟩
    have hj : j < l.length := by
      have := (List.getElem?_eq_some_iff.1 hu).1
      rwa [ub_len] at this
    rw [ub_get l hj] at hu
    cases hu
    rw [add_plain]
    exact h3 j (by have := h.1; omega)
/-- What the document's Send answers. -/
def SentD (K : Nat → Prop) (w0 : World) (p q : Nat) (s : St) (d : Dm) (l : List Nat) (e : Ending) (w' : World) : Prop := e = .returned (.int .i64 (sendE' d l)) ∧ PlAt K w0 w' p q s (sendD d l)
set_option maxRecDepth 100000 in
set_option maxHeartbeats 1000000 in
theorem sendd_any (A : Option Addr) (cap : Nat) (l : List Nat) (w : World) (h : PlAt K w0 w p q s d) (hb : BL w A l.length l) (hsl : d.sent.length < 100000) :
    Calls Try.prog 13 #[.pointer (some ⟨q, 0, none⟩), .slice A l.length cap] w (SentD K w0 p q s d l) := by
  have hstay : (1048576 < l.length ∨ 4096 ≤ d.sent.length - d.acked) → ∀ m, PlAt K w0 (w.drewN m) p q s (sendD d l) := fun hh m => by
    have : sendD d l = d := by
      unfold sendD
      by_cases e : 1048576 < l.length
      · rw [if_pos e]
      · rw [if_neg e, if_pos (by omega)]
    rw [this]; exact h.below (lnkI.below_drewN w m)
  obtain ⟨col, vs, vc, xs, css, hI⟩ := h
  obtain ⟨h0, h1, h2, h3, h4⟩ := hI.b.cells
  obtain ⟨k1, k2, k3, k4, k5⟩ := hI.ok
  have hll := hb.2.1
  by_cases hlong : 1048576 < l.length
  · have hS : SentD K w0 p q s d l (.returned (.int .i64 6)) w := ⟨by unfold sendE'; rw [if_pos hlong]; rfl, hstay (.inl hlong) 0⟩
    replace hS := Lib.hid hS
    clear hI hb h0 h1 h2 h3 h4 hstay
    go_enter Try.func13, Try.ntmps13
    go_wp2
    go_ret
    exact hS.out
  obtain ⟨A0, c0, rfl, k6, k7⟩ := own_form hI.b.sent.1
  have ws := wrap_in ((d.sent.length : Int) - d.acked) (by omega) (by omega)
  by_cases hfull : 4096 ≤ d.sent.length - d.acked
  · have hS : SentD K w0 p q s d l (.returned (.int .i64 9)) w.drew := ⟨by unfold sendE'; rw [if_neg hlong, if_pos hfull]; rfl, hstay (.inr hfull) 1⟩
    replace hS := Lib.hid hS
    have c1 : (4096 : Int) ≤ (d.sent.length : Int) - d.acked := by omega
    clear hI hb h0 h3 h4 hstay hfull
    generalize d.sent.length = n at *
    generalize d.acked = a at *
    go_enter Try.func13, Try.ntmps13
    go_wp2
    go_region
    go_wp2
    go_ret
    exact hS.out
  · have hS : ∀ w5 v', PlAt K w0 (World.setCell w5 ⟨q, 1, none⟩ v') p q s { d with sent := d.sent ++ [l] } → SentD K w0 p q s d l (.returned (.int .i64 0)) (w5.setCell ⟨q, 1, none⟩ v') :=
      fun w5 v' hh => ⟨by unfold sendE'; rw [if_neg hlong, if_neg hfull]; rfl, by unfold sendD; rw [if_neg hlong, if_neg hfull]; exact hh⟩
    replace hS := Lib.hid hS
    obtain ⟨i0, hi, hz0, hz1, hz2⟩ := info_parts info24
    obtain ⟨i1, hj, hy0, hy1, hy2⟩ := info_parts bytes8
    have c1 : ¬ (4096 : Int) ≤ (d.sent.length : Int) - d.acked := by omega
    have hql := hI.b.row.lt
    have hls := Lib.hid (show d.sent.length + 1 ≤ maxLen by unfold maxLen; omega)
    have hO : Hid (∀ w2, Below w.heap.size w w2 → w2.ownsRow 0 29 1 (.slice A0 d.sent.length c0) d.sent.length xs) := Lib.hid fun w2 h => (hI.below h).b.sent.1
    have hlen := Lib.hid hb.1
    have h256 := Lib.hid hb.2.2.1
    have hl20 := Lib.hid (show l.length ≤ 1048576 by omega)
    have hbb : Hid (∀ w2, Below w.heap.size w w2 → Stand w2 A l.length (ub l)) := Lib.hid fun w2 h => stand_bl (hb.below h)
    have hulen := Lib.hid (show (ub l).length = l.length * 1 by rw [ub_len]; omega)
    have hsl' := Lib.hid hsl
    have hlen0 : l.length ≤ 1048576 := by omega
    have hn0 : d.sent.length ≤ 100000 := k2
    replace hI := Lib.hid hI
    clear hb h0 h3 h4 hstay hfull k1 k2 k3 k4 k5 hsl
    generalize hk : d.sent.length = k at *
    generalize hak : d.acked = a at *
    replace hak := Lib.hid hak
    generalize hL : l.length = L at *
    have hlI : ¬ ((1048576 : Int) < (L : Int)) := by omega
    replace hk := Lib.hid hk
    replace hL := Lib.hid hL
    have hE0 : Hid ((w.drew.drew.alloc (.cells #[] 5)).ownsRow w.heap.size 5 1 (.slice (some ⟨w.heap.size, 0, none⟩) 0 0) 0 []) := Lib.hid (World.ownsRow_made (w.drew.drew) #[] 0 (Nat.le_refl _) (by decide) rfl)
    have hB0 : Hid (Below w.heap.size w (w.drew.drew.alloc (.cells #[] 5))) := Lib.hid ((below_drew w).drew.alloc (Nat.le_refl _) _)
    go_enter Try.func13, Try.ntmps13
    go_wp2
    go_region
    go_wp2
    clear ws c1
    go_region_law (first
      | (refine step_gen rfl (.tmp 24) (.tmp 25) 29 rfl w.heap.size 5 i1 _ 1 1 Try.underlying29 hj hy0 hy1 hy2 rfl (by decide) (.slice (some ⟨w.heap.size, 0, none⟩) 0 0) 0 [] (by rfl) hE0.out A L cap (ub l) (by rfl) hulen.out (hbb.out _ hB0.out) (ub_one l) (by unfold maxLen; omega) (by omega) (by simp) ?_; intro A3 c3 w3 hr3 hg3 hat3; have hr3' := Lib.hid hr3; have hB3 := Lib.hid (hB0.out.grown hg3 (by simp) (fun k e => by cases e; exact Nat.le_refl _)); have q9 := (hB3.out.cell (p := ⟨q, 1, none⟩) hql).trans h1; have l9 := Nat.lt_of_lt_of_le hql hB3.out.size; clear hr3 hg3 hat3)
      | (refine step_gen rfl (.tmp 23) (.tmp 27) 25 rfl 0 29 i0 _ 1 24 Try.underlying25 hi hz0 hz1 hz2 rfl (by decide) _ k xs (by rfl) (hO.out _ (trans0 hB3.out (al0 _ _))) (some ⟨_, 0, none⟩) 1 1 [_] (by rfl) rfl (stand_new _ _ _ _) (by intro u hu; rw [List.mem_singleton.1 hu]; rfl) hls.out (by omega) (Nat.zero_le _) ?_; intro A9 c9 w9 hr9 hg9 hat9; have z9 := farD hI.out (trans0 hB3.out (al0 _ _)) (.inl rfl) hg9; have q2 := z9.cell (i := 1) (by omega); have q3 := z9.frozen 1; clear z9))
    all_goals
      go_wp2
      go_ret
      refine hS.out _ _ ?_
      have hI3 := hI.out.below hB3.out
      have hown : Own w3 w.heap.size (.slice A3 l.length c3) l.length l := ⟨rfl, h256.out, by rw [hL.out]; omega, by have := hr3'.out; rw [Nat.zero_add, List.nil_append] at this; rw [hL.out]; exact this⟩
      have hd := Dat.of_makes hown hI.out.fresh
      have hz := addSentD hI3 hd (al0 _ _) (by rw [hk.out, hL.out]; exact hr9) hg9 hat9 (by rw [hk.out]; exact hsl'.out)
      rw [← hak.out]
      exact hz
end
end Go.Proofs.Ythiadkpndemeeaa.lnkPd
