/- The contract of the law's own move: what comes is a beginning of what was sent. (Written by genV6.py.) -/
import Derived.Test.YthiadkpndemeeaaLnkV
namespace Go.Proofs.Ythiadkpndemeeaa.lnkW
open Go.ChangeShapes Go.WideShapes Go.ChangeAt Go.RowKit Go.Deep
open numM rowA byt numA numB numC lnkA lnkB lnkC lnkD lnkE lnkF lnkG lnkH lnkI lnkJ lnkP lnkL lnkQ lnkR lnkS lnkT lnkV


theorem stand_new (w : World) (cs : List Value) (T : TypeId) (m : Nat) : Stand (w.alloc (.cells cs.toArray T)) (some ⟨w.heap.size, 0, none⟩) m cs := .inr ⟨_, rfl, fun j u hu => by
  rw [add_plain, Nat.zero_add]
  have := cell_of_row (w.alloc (.cells cs.toArray T)) w.heap.size j cs.toArray T (0, 0) (heap_alloc_new w _)
  rw [this]
  simpa using hu⟩
theorem note_out {col : Nat → Nat} {c p : Nat} {s : St} (w : World) (h : EndAt col c w p s) :
    Calls Try.prog 17 #[.pointer (some ⟨p, 0, none⟩), .slice none 0 0] w fun e w' => ∃ A2 c2, e = .returned (.agg #[.int .i64 0, .int .i64 s.ep, .int .i64 0, .int .i64 s.got, .slice A2 0 c2]) ∧ Below w.heap.size w w' :=
  (note_any none 0 0 [] w h (BL.none_ _ _) (by omega)).mono fun _ _ ⟨A2, c2, h1, _, h3⟩ => ⟨A2, c2, h1, h3⟩
/-- A way's worth more, with what stays. -/
theorem addRow2 {col : Nat → Nat} {w0 w : World} {t : Nat} {x : Tw} {pa pb : Nat} {vr vs vc : Value} {css : List (List Value)} {xs xc : List Value} (h : TwoIs col w0 w t x pa pb vr vs vc css xs xc) {cs : List Value} {f : Fm × Bool} (hd : Wy col w cs f) {wa w3 : World} {v' : Value} (hB : Below w.heap.size w wa) (hr : w3.ownsRow 0 75 6 v' (x.row.length + 1) (css.flatten ++ cs)) (hg : wa.grownBy w3 vr.ownBlock)
    (hat : v'.ownBlock = vr.ownBlock ∨ v'.ownBlock = some wa.heap.size) : ∃ col', Ext w col col' ∧ (∀ k, k < w.heap.size → col k = 0 → (w3.setCell ⟨t, 2, none⟩ v').heap[k]? = w.heap[k]?) ∧ w.heap.size ≤ (w3.setCell ⟨t, 2, none⟩ v').heap.size ∧
    TwoIs col' w0 (w3.setCell ⟨t, 2, none⟩ v') t { x with row := x.row ++ [f] } pa pb v' vs vc (css ++ [cs]) xs xc := by
  have h2 := h.below hB
  obtain ⟨e1, e2, e3, e4⟩ := app_col h2.fresh h2.row.2 hg hr hat
  have hd2 := hd.go (Chg.of_below col 99 hB) (by decide) (Ext.refl _ _)
  have hs1 := hB.size
  have hs2 := hg.size
  refine ⟨_, fun k hk => e1 k (by omega), fun k hk hc => ?_, by rw [World.size_setCell]; omega, h2.stored (d := 4) (by decide) e3 e1 e2 ({ x with row := x.row ++ [f] }) rfl rfl ⟨?_, e4⟩ (Wys.app (vs2 := [cs]) (ls2 := [f]) (show Wys _ _ [cs] [f] from ⟨hd2.go e3 (by decide) e1, trivial⟩) (h2.rowd.go e3 (by decide) e1)) (h2.sent.other e3 (by decide) e1) (h2.sentd.go e3 (by decide) e1) (h2.came.other e3 (by decide) e1) (h2.camed.go e3 (by decide) e1) 2 v' (fun j hj => ?_)⟩
  · have hkt : k ≠ t := by rintro rfl; rw [h.ct] at hc; cases hc
    rw [Below.heap_setCell _ _ _ _ hkt, e3.block k (by omega) (by rw [hc]; decide), hB.block k hk]
  · rw [List.length_append, List.flatten_append]; simpa using hr
  · have : j = 0 ∨ j = 1 ∨ j = 2 ∨ j = 3 ∨ j = 4 := by omega
    rcases this with rfl | rfl | rfl | rfl | rfl <;> rfl

set_option maxRecDepth 100000 in
set_option maxHeartbeats 2000000 in
theorem do_note {w0 w : World} {t : Nat} {x : Tw} {n : Nat} (m : Mv) (A : Option Addr) (c : Nat) (hT0 : TwoAt w0 w t x) (hG : GoodT x n) (hn : n < 300) (hb : BL w A m.body.length m.body) (hl : m.body.length ≤ 1048576) (hA : m.body.length = 0 ∨ ∀ y, A = some y → y.block < w0.heap.size) (h0 : m.kind = 2) :
    Calls Try.prog 26 #[.pointer (some ⟨t, 0, none⟩), .agg #[.int .i64 m.kind, .int .i64 m.at_, .slice A m.body.length c]] w (Did w0 t x m n) := by
  obtain ⟨kind, at_, l⟩ := m
  simp only at hb hl hA h0
  obtain ⟨col, pa, pb, vr, vs, vc, css, xs, xc, hI0⟩ := hT0
  have hT := Lib.hid (hI0.below (al0 w (.cells #[.int .i64 kind, .int .i64 at_, .slice A l.length c] 54)))
  have hMB := Lib.hid (mvrow w kind at_ A l.length c)
  have hbW := Lib.hid (hb.below (al0 w (.cells #[.int .i64 kind, .int .i64 at_, .slice A l.length c] 54)))
  have hfb := Lib.hid (hI0.fresh w.heap.size (Nat.le_refl _))
  have hl9 := hb.2.1
  clear hI0 hb
  replace hG := Lib.hid hG
  subst h0
  obtain ⟨i0, hi0, hz0, hz1, hz2⟩ := info_parts info64
  have hn3 := hG.out.rl
  have hG' := Lib.hid hG.out.noted
  have hS : Hid (moveTw x ⟨2, at_, l⟩ = { x with row := x.row ++ [(noteF x.b, false)] }) := Lib.hid (by unfold moveTw; rw [if_neg (show ¬ (2 : Int) = 0 by decide), if_neg (show ¬ (2 : Int) = 1 by decide), if_pos rfl])
  go_enter Try.func26, Try.ntmps26
  go_wp2
  generalize w.alloc (.cells #[.int .i64 2, .int .i64 at_, .slice A l.length c] 54) = W at *
  have hTd := Lib.hid (hT.out.below (below_drew W))
  obtain ⟨-, z1, z2, -, -⟩ := hT.out.cells
  have l1 := hT.out.blk.lt
  have hkk := Lib.hid (fun w' (hB : Below W.drew.heap.size W.drew w') => hTd.out.below hB)
  clear hT hMB hbW hA hG
  go_region_law (first
    | (go_simp; go_at_call 17; (with_reducible refine (note_out _ hTd.out.b).mono ?_); rintro e w2 ⟨A2, c2, rfl, hB2⟩; have hT2 := Lib.hid (hkk.out w2 hB2); have l2 := hT2.out.blk.lt; have y2 := (hB2.cell (p := ⟨t, 2, none⟩) l1).trans z2; have hO := Lib.hid hT2.out.row.1; clear hB2)
    | (refine step_gen rfl (.tmp 65) (.tmp 72) 50 rfl 0 75 i0 _ 6 64 Try.underlying50 hi0 hz0 hz1 hz2 rfl (by decide) vr x.row.length css.flatten (by rfl) (hO.out.alloc _) (some ⟨_, 0, none⟩) 1 1 [.int .i64 0, .int .i64 x.b.ep, .int .i64 0, .int .i64 x.b.got, .slice A2 0 c2, .bool false] (by rfl) rfl (stand_new _ _ _ _) (by intro u hu; simp only [List.mem_cons, List.not_mem_nil, or_false] at hu; rcases hu with rfl | rfl | rfl | rfl | rfl | rfl <;> rfl) (by unfold maxLen; omega) (by omega) (Nat.zero_le _) ?_; intro A9 c9 w3 hr9 hg9 hat9; have q0 := far hT2.out (al0 _ _) (.inl rfl) hg9; have q3 : w3.cell? ⟨t, 2, none⟩ = some vr := q0.cell (i := 2) (by omega); have q4 := q0.frozen 2; clear q0))
  all_goals
    obtain ⟨col9, pa9, pb9, vr9, vs9, vc9, css9, xs9, xc9, hTw⟩ := addRow hT2.out (f := (noteF x.b, false)) ⟨A2, c2, rfl, ⟨A2, c2, rfl, ⟨rfl, by simp [noteF], by simp [noteF], .inl rfl⟩, .inl rfl⟩⟩ (al0 _ _) hr9 hg9 hat9
    replace hTw := Lib.hid hTw
    clear hr9 hg9 hat9 q3 q4 z1 z2 y2 hO l1 l2 hT2 hTd hkk
    generalize w3.setCell ⟨t, 2, none⟩ (.slice A9 (x.row.length + 1) c9) = W9 at *
    generalize hX : ({ x with row := x.row ++ [(noteF x.b, false)] } : Tw) = X at *
    clear hX
    obtain ⟨g1, g2⟩ := hG'.out.same
    have hsl := hG'.out.sl
    obtain ⟨A5, k5, e5, hq5⟩ := LQ.of hTw.out.sent.1 hTw.out.sentd (by omega)
    obtain ⟨A6, k6, e6, hq6⟩ := LQ.of hTw.out.came.1 hTw.out.camed (by omega)
    obtain ⟨-, -, -, z3, z4⟩ := hTw.out.cells
    obtain ⟨A5', k5', e5', hk5, hk5'⟩ := own_form hTw.out.sent.1
    rw [e5] at e5'
    cases e5'
    have hq5' : LQ W9 A5 (X).came.length (X).came := by
      have := LQ.take hq5 g1
      rwa [← g2] at this
    rw [e5] at z3
    rw [e6] at z4
    have d1 : decide ((((X).came.length : Nat) : Int) ≤ (((X).sent.length : Nat) : Int)) = true := by simpa using g1
    have g1' : (((X).came.length : Nat) : Int) ≤ (((X).sent.length : Nat) : Int) := by omega
    have d1n : decide ((X).came.length ≤ (X).sent.length) = true := by simpa using g1
    have hfin : Hid (∀ nq, Did w0 t x ⟨2, at_, l⟩ n (.returned (.bool true)) (World.drewN W9 nq)) := Lib.hid fun nq => ⟨rfl, by rw [hS.out]; exact ⟨_, _, _, _, _, _, _, _, _, hTw.out.below (lnkI.below_drewN _ nq)⟩, by rw [hS.out]; exact hG'.out⟩
    replace hq5' := Lib.hid hq5'
    replace hq6 := Lib.hid hq6
    clear hTw hG' hS hq5 e5 e6 g2 hsl
    generalize (X).came = CC at *
    generalize (X).sent.length = nS at *
    generalize hnC : CC.length = nC at *
    replace hnC := Lib.hid hnC
    have g3 : ((nC : Nat) : Int) ≤ ((k5 : Nat) : Int) := by omega
    have g4 : (0 : Int) ≤ ((nC : Nat) : Int) := by omega
    have g5 : nC ≤ k5 := by omega
    go_wp2
    go_quiet ((go_at_call 16; exact quietN (sames_q _ _ _ _ _ CC _ (lqN hq6.out _) (lqN hq5'.out _))))
    go_wp2
    go_ret
    exact hfin.out nq
end Go.Proofs.Ythiadkpndemeeaa.lnkW
