/- The contract of the law's own move: what comes is a beginning of what was sent. (Written by genV6.py.) -/
import Derived.Test.YthiadkpndemeeaaLnkT
namespace Go.Proofs.Ythiadkpndemeeaa.lnkV
open Go.ChangeShapes Go.WideShapes Go.ChangeAt Go.RowKit Go.Deep
open numM rowA byt numA numB numC lnkA lnkB lnkC lnkD lnkE lnkF lnkG lnkH lnkI lnkJ lnkP lnkL lnkQ lnkR lnkS lnkT

def cMv (kind at_ : Int) (A : Option Addr) (n c : Nat) (i : Nat) : Value := if i = 0 then .int .i64 kind else if i = 1 then .int .i64 at_ else .slice A n c
theorem mvrow (w : World) (kind at_ : Int) (A : Option Addr) (n c : Nat) : (w.alloc (.cells #[.int .i64 kind, .int .i64 at_, .slice A n c] 54)).rowIs w.heap.size 54 3 (cMv kind at_ A n c) := by
  have h := World.rowIs_alloc w #[.int .i64 kind, .int .i64 at_, .slice A n c] 54 (cMv kind at_ A n c) (fun i hi => ?_)
  · exact h
  · have : i = 0 ∨ i = 1 ∨ i = 2 := by simp at hi; omega
    rcases this with rfl | rfl | rfl <;> rfl
theorem quietN {P : Program} {f : FuncId} {args : Array Value} {w : World} {n : Nat} {v : Value} (h : Calls P f args (w.drewN n) fun e w' => e = .returned v ∧ ∃ m, w' = (w.drewN n).drewN m) :
    Calls P f args (w.drewN n) fun e w'' => e = .returned v ∧ ∃ m, w'' = w.drewN m := Calls.quiet_of h
theorem lqN {w : World} {A : Option Addr} {n : Nat} {ls : List (List Nat)} (h : LQ w A n ls) (m : Nat) : LQ (w.drewN m) A n ls := h.below (lnkI.below_drewN w m)
/-- What the law's own move answers. -/
def Did (w0 : World) (t : Nat) (x : Tw) (m : Mv) (n : Nat) (e : Ending) (w' : World) : Prop := e = .returned (.bool true) ∧ TwoAt w0 w' t (moveTw x m) ∧ GoodT (moveTw x m) (n + 1)
theorem neq {a b : Int} (h : a ≠ b) : (a == b) = false := beq_eq_false_iff_ne.2 h

set_option maxRecDepth 100000 in
set_option maxHeartbeats 2000000 in
theorem do_other {w0 w : World} {t : Nat} {x : Tw} {n : Nat} (m : Mv) (A : Option Addr) (c : Nat) (hT0 : TwoAt w0 w t x) (hG : GoodT x n) (hn : n < 300) (hb : BL w A m.body.length m.body) (hl : m.body.length ≤ 1048576) (hA : m.body.length = 0 ∨ ∀ y, A = some y → y.block < w0.heap.size) (h0 : m.kind ≠ 0) (h1 : m.kind ≠ 1) (h2 : m.kind ≠ 2) (h3 : m.kind ≠ 3) (h4 : m.kind ≠ 4) (h5 : m.kind ≠ 5) :
    Calls Try.prog 26 #[.pointer (some ⟨t, 0, none⟩), .agg #[.int .i64 m.kind, .int .i64 m.at_, .slice A m.body.length c]] w (Did w0 t x m n) := by
  obtain ⟨kind, at_, l⟩ := m
  simp only at hb hl hA h0 h1 h2 h3 h4 h5
  obtain ⟨col, pa, pb, vr, vs, vc, css, xs, xc, hI0⟩ := hT0
  have hT := Lib.hid (hI0.below (al0 w (.cells #[.int .i64 kind, .int .i64 at_, .slice A l.length c] 54)))
  have hMB := Lib.hid (mvrow w kind at_ A l.length c)
  have hbW := Lib.hid (hb.below (al0 w (.cells #[.int .i64 kind, .int .i64 at_, .slice A l.length c] 54)))
  have hfb := Lib.hid (hI0.fresh w.heap.size (Nat.le_refl _))
  have hl9 := hb.2.1
  clear hI0 hb
  replace hG := Lib.hid hG
  have hS : Hid (moveTw x ⟨kind, at_, l⟩ = x) := Lib.hid (by unfold moveTw; rw [if_neg h0, if_neg h1, if_neg h2, if_neg (fun q => q.elim h3 (fun q => q.elim h4 h5))])
  have hG' := Lib.hid (hG.out.more (Nat.le_succ n))
  have b0 := neq h0
  have b1 := neq h1
  have b2 := neq h2
  have b3 := neq h3
  have b4 := neq h4
  have b5 := neq h5
  clear h0 h1 h2 h3 h4 h5 hG
  go_enter Try.func26, Try.ntmps26
  go_wp2
  generalize w.alloc (.cells #[.int .i64 kind, .int .i64 at_, .slice A l.length c] 54) = W at *
  clear b0 b1 b2 b3 b4 b5
  obtain ⟨g1, g2⟩ := hG'.out.same
  have hsl := hG'.out.sl
  obtain ⟨A5, k5, e5, hq5⟩ := LQ.of hT.out.sent.1 hT.out.sentd (by omega)
  obtain ⟨A6, k6, e6, hq6⟩ := LQ.of hT.out.came.1 hT.out.camed (by omega)
  obtain ⟨-, -, -, z3, z4⟩ := hT.out.cells
  obtain ⟨A5', k5', e5', hk5, hk5'⟩ := own_form hT.out.sent.1
  rw [e5] at e5'
  cases e5'
  have hq5' : LQ W A5 (x).came.length (x).came := by
    have := LQ.take hq5 g1
    rwa [← g2] at this
  rw [e5] at z3
  rw [e6] at z4
  have d1 : decide ((((x).came.length : Nat) : Int) ≤ (((x).sent.length : Nat) : Int)) = true := by simpa using g1
  have g1' : (((x).came.length : Nat) : Int) ≤ (((x).sent.length : Nat) : Int) := by omega
  have d1n : decide ((x).came.length ≤ (x).sent.length) = true := by simpa using g1
  have hfin : Hid (∀ nq, Did w0 t x ⟨kind, at_, l⟩ n (.returned (.bool true)) (World.drewN W nq)) := Lib.hid fun nq => ⟨rfl, by rw [hS.out]; exact ⟨_, _, _, _, _, _, _, _, _, hT.out.below (lnkI.below_drewN _ nq)⟩, by rw [hS.out]; exact hG'.out⟩
  replace hq5' := Lib.hid hq5'
  replace hq6 := Lib.hid hq6
  clear hT hG' hS hq5 e5 e6 g2 hsl
  generalize (x).came = CC at *
  generalize (x).sent.length = nS at *
  generalize hnC : CC.length = nC at *
  replace hnC := Lib.hid hnC
  have g3 : ((nC : Nat) : Int) ≤ ((k5 : Nat) : Int) := by omega
  have g4 : (0 : Int) ≤ ((nC : Nat) : Int) := by omega
  have g5 : nC ≤ k5 := by omega
  go_wp2
  go_quiet ((go_at_call 16; exact quietN (sames_q _ _ _ _ _ CC _ (lqN hq6.out _) (lqN hq5'.out _))))
  go_wp2
  go_ret
  exact hfin.out nq

set_option maxRecDepth 100000 in
set_option maxHeartbeats 2000000 in
theorem do_send {w0 w : World} {t : Nat} {x : Tw} {n : Nat} (m : Mv) (A : Option Addr) (c : Nat) (hT0 : TwoAt w0 w t x) (hG : GoodT x n) (hn : n < 300) (hb : BL w A m.body.length m.body) (hl : m.body.length ≤ 1048576) (hA : m.body.length = 0 ∨ ∀ y, A = some y → y.block < w0.heap.size) (h0 : m.kind = 0) :
    Calls Try.prog 26 #[.pointer (some ⟨t, 0, none⟩), .agg #[.int .i64 m.kind, .int .i64 m.at_, .slice A m.body.length c]] w (Did w0 t x m n) := by
  obtain ⟨kind, at_, l⟩ := m
  simp only at hb hl hA h0
  obtain ⟨col, pa, pb, vr, vs, vc, css, xs, xc, hI0⟩ := hT0
  have hT := Lib.hid (hI0.below (al0 w (.cells #[.int .i64 kind, .int .i64 at_, .slice A l.length c] 54)))
  have hMB := Lib.hid (mvrow w kind at_ A l.length c)
  have hbW := Lib.hid (hb.below (al0 w (.cells #[.int .i64 kind, .int .i64 at_, .slice A l.length c] 54)))
  have hfb := Lib.hid (hI0.fresh w.heap.size (Nat.le_refl _))
  have hl9 := hb.2.1
  clear hI0 hb
  replace hG := Lib.hid hG
  subst h0
  obtain ⟨i0, hi0, hz0, hz1, hz2⟩ := info_parts info24
  have hn3 := hG.out.sl
  go_enter Try.func26, Try.ntmps26
  go_wp2
  generalize w.alloc (.cells #[.int .i64 0, .int .i64 at_, .slice A l.length c] 54) = W at *
  have hd0 := Lib.hid (show Dat col W.drew (.slice A l.length c) l from ⟨A, c, rfl, hbW.out, hA.imp id (fun hA y e => ⟨hT.out.zero _ (hA y e), Nat.lt_of_lt_of_le (hA y e) hT.out.bel.size⟩)⟩)
  have hTd := Lib.hid (hT.out.below (below_drew W))
  obtain ⟨z0, -, -, -, -⟩ := hT.out.cells
  have m2 : W.cell? ⟨w.heap.size, 2, none⟩ = some (.slice A l.length c) := hMB.out.cell (i := 2) (by omega)
  have hbd := Lib.hid (show BL W.drew A l.length l from hbW.out)
  have hcn := Lib.hid (show x.a.cnt < 1000000 from by have := hG.out.acn; omega)
  have hMd := Lib.hid (show W.drew.rowIs w.heap.size 54 3 (cMv 0 at_ A l.length c) from hMB.out)
  clear hA hbW hT hMB
  by_cases hs0 : sendE x.a l = 0
  · have hsS : sendS x.a l = stPut x.a l := by
      unfold sendE at hs0
      unfold sendS
      split
      · rename_i q; rw [if_pos q] at hs0; omega
      · rename_i q
        rw [if_neg q] at hs0
        split
        · rename_i q2; rw [if_pos q2] at hs0; omega
        · rfl
    have hG' := Lib.hid (hG.out.send hl hs0 hsS)
    have hS : Hid (moveTw x ⟨0, at_, l⟩ = { x with a := sendS x.a l, sent := x.sent ++ [l] }) := Lib.hid (by unfold moveTw; rw [if_pos rfl, if_pos hs0])
    replace hs0 := Lib.hid hs0
    clear hsS hG
    go_region_law (go_simp; go_at_call 12; (with_reducible refine (send_any A c l _ hTd.out.a hbd.out (by decide) hTd.out.fresh hcn.out).mono ?_); rintro e w2 ⟨rfl, col2, hx2, hf2, hg2, hE2⟩; rw [hs0.out]; have hT2 := Lib.hid (hTd.out.setA hg2 hx2 hf2 hE2); have hM2 := Lib.hid (hMd.out.of_block (hg2.block _ hMd.out.lt (by rw [hfb.out]; decide))); have hd2 := Lib.hid (hd0.out.go hg2 (by decide) hx2); clear hx2 hf2 hg2 hE2)
    all_goals
      clear z0 m2
      obtain ⟨-, -, -, z3, -⟩ := hT2.out.cells
      have m2 : w2.cell? ⟨w.heap.size, 2, none⟩ = some (.slice A l.length c) := hM2.out.cell (i := 2) (by omega)
      have hO := Lib.hid (show w2.drew.ownsRow 0 29 1 vs x.sent.length xs from hT2.out.sent.1)
      have l1 := hT2.out.blk.lt
      have l2 := hM2.out.lt
      clear hTd hMd hd0 hbd
      go_wp2
      go_region_law (refine step_gen rfl (.tmp 28) (.tmp 31) 25 rfl 0 29 i0 (.slice none 0 0) 1 24 Try.underlying25 hi0 hz0 hz1 hz2 rfl (by decide) vs x.sent.length xs (by rfl) (hO.out.alloc _) (some ⟨_, 0, none⟩) 1 1 [.slice A l.length c] (by rfl) rfl (.inr ⟨_, rfl, cell_one_new _ _ _⟩) (by intro u hu; simp at hu; subst hu; rfl) (by unfold maxLen; omega) (by omega) (Nat.zero_le _) ?_; intro A9 c9 w3 hr9 hg9 hat9; have q0 := far hT2.out (trans0 (below_drew w2) (al0 _ _)) (.inr (.inl rfl)) hg9; have q3 : w3.cell? ⟨t, 3, none⟩ = some vs := q0.cell (i := 3) (by omega); have q4 := q0.frozen 3; clear q0)
      all_goals
        obtain ⟨col9, pa9, pb9, vr9, vs9, vc9, css9, xs9, xc9, hTw⟩ := addSent hT2.out hd2.out (trans0 (below_drew w2) (al0 _ _)) hr9 hg9 hat9
        replace hTw := Lib.hid hTw
        clear hr9 hg9 hat9 q3 q4 z3 m2 hO l1 l2 hT2 hM2 hd2
        generalize w3.setCell ⟨t, 3, none⟩ (.slice A9 (x.sent.length + 1) c9) = W9 at *
        clear hs0
        generalize hX : ({ x with a := sendS x.a l, sent := x.sent ++ [l] } : Tw) = X at *
        clear hX
        obtain ⟨g1, g2⟩ := hG'.out.same
        have hsl := hG'.out.sl
        obtain ⟨A5, k5, e5, hq5⟩ := LQ.of hTw.out.sent.1 hTw.out.sentd (by omega)
        obtain ⟨A6, k6, e6, hq6⟩ := LQ.of hTw.out.came.1 hTw.out.camed (by omega)
        obtain ⟨-, -, -, z3, z4⟩ := hTw.out.cells
        obtain ⟨A5', k5', e5', hk5, hk5'⟩ := own_form hTw.out.sent.1
        rw [e5] at e5'
        cases e5'
        have hq5' : LQ W9 A5 (X).came.length (X).came := by
          have := LQ.take hq5 g1
          rwa [← g2] at this
        rw [e5] at z3
        rw [e6] at z4
        have d1 : decide ((((X).came.length : Nat) : Int) ≤ (((X).sent.length : Nat) : Int)) = true := by simpa using g1
        have g1' : (((X).came.length : Nat) : Int) ≤ (((X).sent.length : Nat) : Int) := by omega
        have d1n : decide ((X).came.length ≤ (X).sent.length) = true := by simpa using g1
        have hfin : Hid (∀ nq, Did w0 t x ⟨0, at_, l⟩ n (.returned (.bool true)) (World.drewN W9 nq)) := Lib.hid fun nq => ⟨rfl, by rw [hS.out]; exact ⟨_, _, _, _, _, _, _, _, _, hTw.out.below (lnkI.below_drewN _ nq)⟩, by rw [hS.out]; exact hG'.out⟩
        replace hq5' := Lib.hid hq5'
        replace hq6 := Lib.hid hq6
        clear hTw hG' hS hq5 e5 e6 g2 hsl
        generalize (X).came = CC at *
        generalize (X).sent.length = nS at *
        generalize hnC : CC.length = nC at *
        replace hnC := Lib.hid hnC
        have g3 : ((nC : Nat) : Int) ≤ ((k5 : Nat) : Int) := by omega
        have g4 : (0 : Int) ≤ ((nC : Nat) : Int) := by omega
        have g5 : nC ≤ k5 := by omega
        go_wp2
        go_quiet ((go_at_call 16; exact quietN (sames_q _ _ _ _ _ CC _ (lqN hq6.out _) (lqN hq5'.out _))))
        go_wp2
        go_ret
        exact hfin.out nq
  · have hS : Hid (moveTw x ⟨0, at_, l⟩ = { x with a := sendS x.a l }) := Lib.hid (by unfold moveTw; rw [if_pos rfl, if_neg hs0])
    have hsS : sendS x.a l = x.a := by
      unfold sendE at hs0
      unfold sendS
      split
      · rfl
      · rename_i q
        rw [if_neg q] at hs0
        split
        · rfl
        · rename_i q2; rw [if_neg q2] at hs0; exact absurd rfl hs0
    have hG' : Hid (GoodT { x with a := sendS x.a l } (n + 1)) := Lib.hid (by rw [hsS]; exact hG.out.more (Nat.le_succ n))
    have hne : ((sendE x.a l : Nat) : Int) ≠ 0 := by omega
    have hne2 : (((sendE x.a l : Nat) : Int) == 0) = false := neq hne
    clear hsS hG hne hs0
    go_region_law (go_simp; go_at_call 12; (with_reducible refine (send_any A c l _ hTd.out.a hbd.out (by decide) hTd.out.fresh hcn.out).mono ?_); rintro e w2 ⟨rfl, col2, hx2, hf2, hg2, hE2⟩; have hT2 := Lib.hid (hTd.out.setA hg2 hx2 hf2 hE2); clear hx2 hf2 hg2 hE2)
    all_goals
      clear z0 m2 hTd hMd hd0 hbd
      generalize sendE x.a l = SE9 at *
      go_wp2
      clear hne2
      generalize hX : ({ x with a := sendS x.a l } : Tw) = X at *
      clear hX
      obtain ⟨g1, g2⟩ := hG'.out.same
      have hsl := hG'.out.sl
      obtain ⟨A5, k5, e5, hq5⟩ := LQ.of hT2.out.sent.1 hT2.out.sentd (by omega)
      obtain ⟨A6, k6, e6, hq6⟩ := LQ.of hT2.out.came.1 hT2.out.camed (by omega)
      obtain ⟨-, -, -, z3, z4⟩ := hT2.out.cells
      obtain ⟨A5', k5', e5', hk5, hk5'⟩ := own_form hT2.out.sent.1
      rw [e5] at e5'
      cases e5'
      have hq5' : LQ w2 A5 (X).came.length (X).came := by
        have := LQ.take hq5 g1
        rwa [← g2] at this
      rw [e5] at z3
      rw [e6] at z4
      have d1 : decide ((((X).came.length : Nat) : Int) ≤ (((X).sent.length : Nat) : Int)) = true := by simpa using g1
      have g1' : (((X).came.length : Nat) : Int) ≤ (((X).sent.length : Nat) : Int) := by omega
      have d1n : decide ((X).came.length ≤ (X).sent.length) = true := by simpa using g1
      have hfin : Hid (∀ nq, Did w0 t x ⟨0, at_, l⟩ n (.returned (.bool true)) (World.drewN w2 nq)) := Lib.hid fun nq => ⟨rfl, by rw [hS.out]; exact ⟨_, _, _, _, _, _, _, _, _, hT2.out.below (lnkI.below_drewN _ nq)⟩, by rw [hS.out]; exact hG'.out⟩
      replace hq5' := Lib.hid hq5'
      replace hq6 := Lib.hid hq6
      clear hT2 hG' hS hq5 e5 e6 g2 hsl
      generalize (X).came = CC at *
      generalize (X).sent.length = nS at *
      generalize hnC : CC.length = nC at *
      replace hnC := Lib.hid hnC
      have g3 : ((nC : Nat) : Int) ≤ ((k5 : Nat) : Int) := by omega
      have g4 : (0 : Int) ≤ ((nC : Nat) : Int) := by omega
      have g5 : nC ≤ k5 := by omega
      go_wp2
      go_quiet ((go_at_call 16; exact quietN (sames_q _ _ _ _ _ CC _ (lqN hq6.out _) (lqN hq5'.out _))))
      go_wp2
      go_ret
      exact hfin.out nq
end Go.Proofs.Ythiadkpndemeeaa.lnkV
