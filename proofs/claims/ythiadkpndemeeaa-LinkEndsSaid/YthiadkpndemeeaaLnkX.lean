/- The contract of the law's own move: what comes is a beginning of what was sent. (Written by genV6.py.) -/
import Derived.Test.YthiadkpndemeeaaLnkW
namespace Go.Proofs.Ythiadkpndemeeaa.lnkX
open Go.ChangeShapes Go.WideShapes Go.ChangeAt Go.RowKit Go.Deep
open numM rowA byt numA numB numC lnkA lnkB lnkC lnkD lnkE lnkF lnkG lnkH lnkI lnkJ lnkP lnkL lnkQ lnkR lnkS lnkT lnkV lnkW


theorem outL_take (s : St) {k : Nat} (h : k < outN s) : (outL s).take (k + 1) = (outL s).take k ++ [outF s k] := by
  have hl : (outL s).length = outN s := by simp [outL]
  rw [List.take_succ_eq_append_getElem (by omega)]
  congr 2
  simp [outL]
/-- the move's state with so many frames on their way -/
def xK (x : Tw) (k : Nat) : Tw := { x with row := x.row ++ ((outL x.a).take k).map (fun f => (f, true)) }
theorem xK_0 (x : Tw) : xK x 0 = x := by unfold xK; simp
theorem xK_s (x : Tw) {k : Nat} (h : k < outN x.a) : ({ xK x k with row := (xK x k).row ++ [(outF x.a k, true)] } : Tw) = xK x (k + 1) := by
  unfold xK; rw [outL_take _ h]; simp
theorem xK_N (x : Tw) : xK x (outN x.a) = { x with row := x.row ++ (outL x.a).map (fun f => (f, true)) } := by
  unfold xK
  rw [List.take_of_length_le (by simp [outL])]

set_option maxRecDepth 100000 in
set_option maxHeartbeats 4000000 in
theorem do_out {w0 w : World} {t : Nat} {x : Tw} {n : Nat} (m : Mv) (A : Option Addr) (c : Nat) (hT0 : TwoAt w0 w t x) (hG : GoodT x n) (hn : n < 300) (hb : BL w A m.body.length m.body) (hl : m.body.length ≤ 1048576) (hA : m.body.length = 0 ∨ ∀ y, A = some y → y.block < w0.heap.size) (h0 : m.kind = 1) :
    Calls Try.prog 26 #[.pointer (some ⟨t, 0, none⟩), .agg #[.int .i64 m.kind, .int .i64 m.at_, .slice A m.body.length c]] w (Did w0 t x m n) := by
  obtain ⟨kind, at_, l⟩ := m
  simp only at hb hl hA h0
  obtain ⟨col, pa, pb, vr, vs, vc, css, xs, xc, hI0⟩ := hT0
  have hT := Lib.hid (hI0.below (al0 w (.cells #[.int .i64 kind, .int .i64 at_, .slice A l.length c] 54)))
  have hMB := Lib.hid (mvrow w kind at_ A l.length c)
  have hbW := Lib.hid (hb.below (al0 w (.cells #[.int .i64 kind, .int .i64 at_, .slice A l.length c] 54)))
  have hfb := Lib.hid (hI0.fresh w.heap.size (Nat.le_refl _))
  have hl9 := hb.2.1
  clear hI0 hb
  replace hG := Lib.hid hG
  subst h0
  obtain ⟨i0, hi0, hz0, hz1, hz2⟩ := info_parts info64
  have hn3 := hG.out.rl
  have hG' : Hid (GoodT (xK x (outN x.a)) (n + 1)) := Lib.hid (by rw [xK_N]; exact hG.out.out)
  have hS : Hid (moveTw x ⟨1, at_, l⟩ = xK x (outN x.a)) := Lib.hid (by rw [xK_N]; unfold moveTw; rw [if_neg (show ¬ (1 : Int) = 0 by decide), if_pos rfl])
  obtain ⟨z0, -, -, -, -⟩ := hT.out.cells
  go_enter Try.func26, Try.ntmps26
  go_wp2_with (fail)
  clear z0
  generalize w.alloc (.cells #[.int .i64 1, .int .i64 at_, .slice A l.length c] 54) = W at *
  clear hMB hbW hA hG
  refine (out_any W hT.out.a).mono ?_
  rintro e w2 ⟨v2, rfl, hR2, hB2⟩
  obtain ⟨g, rfl, hlo, hlt2, hat⟩ := FR.at hR2
  have hN16 : outN x.a ≤ 16 := by unfold outN; omega
  have hT2 := hT.out.below hB2
  have hcg : Hid (∀ q, W.heap.size ≤ q → col q = 0) := Lib.hid hT.out.fresh
  have hst := Lib.hid hT2
  replace hat := Lib.hid hat
  clear hR2 hB2 hT hT2
  go_wp2
  go_loopw [43] (fun i wr => ∃ k : Nat, k ≤ outN x.a ∧ i = .int .i64 k ∧ Hid (∃ col' vr' css', Ext w2 col col' ∧ (∀ q, q < w2.heap.size → col q = 0 → wr.heap[q]? = w2.heap[q]?) ∧ w2.heap.size ≤ wr.heap.size ∧ TwoIs col' w0 wr t (xK x k) pa pb vr' vs vc css' xs xc)) (fun i _ => outN x.a - (intOf i).toNat)
  case atStart => exact ⟨0, by omega, rfl, col, vr, css, Ext.refl _ _, fun _ _ _ => rfl, Nat.le_refl _, by rw [xK_0]; exact hst.out⟩
  case round =>
    clear hst
    obtain ⟨k, hk, rfl, hrel2⟩ := hrel
    by_cases hlt : k < outN x.a
    · obtain ⟨col1, vr1, css1, hx1, hk1, hs1, hT1⟩ := hrel2.out
      obtain ⟨B, cB, ⟨f0, f1, f2, f3, f4⟩, hO⟩ := hat.out k hlt
      have hg0 := hk1 g hlt2 (hcg.out g hlo)
      have ge : ∀ o, wr.cell? ⟨g, o, none⟩ = w2.cell? ⟨g, o, none⟩ := fun o => World.cell?_of_block (a := ⟨g, o, none⟩) hg0
      rw [← ge] at f0 f1 f2 f3 f4
      have hO1 : Own wr (g + 1) (.slice B (outF x.a k).body.length cB) (outF x.a k).body.length (outF x.a k).body := ⟨hO.1, hO.2.1, hO.2.2.1, own_block hO.2.2.2 (fun q e => by have := hO.2.2.2.lt q e; exact hk1 q this.2 (hcg.out q (by omega)))⟩
      have hdat : Dat col1 wr (.slice B (outF x.a k).body.length cB) (outF x.a k).body := ⟨B, cB, rfl, own_bl hO1, .inr fun y e => by subst e; have := hO.2.2.2.lt y.block rfl; exact ⟨(hx1 _ this.2).trans (hcg.out _ (by omega)), by omega⟩⟩
      have hxs := Lib.hid (xK_s x hlt)
      have hrl := Lib.hid (show (xK x k).row.length ≤ 16 * n + 16 from by unfold xK; simp [outL]; omega)
      have hB8 := al0 wr (.cells (cf (outF x.a k) B cB) 31)
      have hT8 := hT1.below hB8
      have hd8 := hdat.go (Chg.of_below col1 99 hB8) (by decide) (Ext.refl _ _)
      obtain ⟨p0, p1, p2, p3, p4⟩ := FB.cells (cfrow wr (outF x.a k) B cB)
      have hk8 : Hid (∀ q, q < w2.heap.size → col q = 0 → (wr.alloc (.cells (cf (outF x.a k) B cB) 31)).heap[q]? = w2.heap[q]?) := Lib.hid fun q hq hc => (hB8.block q (by omega)).trans (hk1 q hq hc)
      have hs8 : Hid (w2.heap.size ≤ (wr.alloc (.cells (cf (outF x.a k) B cB) 31)).heap.size) := Lib.hid (by have := hB8.size; omega)
      replace hx1 := Lib.hid hx1
      replace hT8 := Lib.hid hT8
      replace hd8 := Lib.hid hd8
      clear ge hg0 hO hO1 hdat hk1 hs1 hT1 hB8 hrel2
      generalize hxk : xK x k = xk at *
      clear hxk
      generalize outF x.a k = f at *
      unfold cf at p0 p1 p2 p3 p4 hk8 hs8 hT8 hd8
      go_wp2
      generalize hWb : wr.heap.size = b8 at *
      generalize wr.alloc (.cells #[.int .i64 f.v, .int .i64 f.e, .int .i64 f.s, .int .i64 f.a, .slice B f.body.length cB] 31) = W8 at *
      clear f0 f1 f2 f3 f4 hWb
      obtain ⟨-, -, z2, -, -⟩ := hT8.out.cells
      have l1 := hT8.out.blk.lt
      have l2 := World.block_lt_of_cell? _ _ p0
      have hTd := Lib.hid (hT8.out.below (below_drew W8))
      have hO := Lib.hid (show W8.drew.ownsRow 0 75 6 vr1 xk.row.length css1.flatten from hT8.out.row.1)
      have hrl' := hrl.out
      go_region_law (refine step_gen rfl (.tmp 51) (.tmp 54) 50 rfl 0 75 i0 _ 6 64 Try.underlying50 hi0 hz0 hz1 hz2 rfl (by decide) vr1 xk.row.length css1.flatten (by rfl) (hO.out.alloc _) (some ⟨_, 0, none⟩) 1 1 [.int .i64 f.v, .int .i64 f.e, .int .i64 f.s, .int .i64 f.a, .slice B f.body.length cB, .bool true] (by rfl) rfl (stand_new _ _ _ _) (by intro u hu; simp only [List.mem_cons, List.not_mem_nil, or_false] at hu; rcases hu with rfl | rfl | rfl | rfl | rfl | rfl <;> rfl) (by unfold maxLen; omega) (by omega) (Nat.zero_le _) ?_; intro A9 c9 w3 hr9 hg9 hat9; have q0 := far hTd.out (al0 _ _) (.inl rfl) hg9; have q3 : w3.cell? ⟨t, 2, none⟩ = some vr1 := q0.cell (i := 2) (by omega); have q4 := q0.frozen 2; clear q0)
      all_goals
        obtain ⟨col3, hx3, hk3, hs3, hT3⟩ := addRow2 hTd.out (f := (f, true)) (cs := [.int .i64 f.v, .int .i64 f.e, .int .i64 f.s, .int .i64 f.a, .slice B f.body.length cB, .bool true]) ⟨B, cB, rfl, hd8.out.go (Chg.of_below col1 99 (below_drew W8)) (by decide) (Ext.refl _ _)⟩ (al0 _ _) hr9 hg9 hat9
        rw [hxs.out] at hT3
        have hnew : Hid (∃ col' vr' css', Ext w2 col col' ∧ (∀ q, q < w2.heap.size → col q = 0 → (w3.setCell ⟨t, 2, none⟩ (.slice A9 (xk.row.length + 1) c9)).heap[q]? = w2.heap[q]?) ∧ w2.heap.size ≤ (w3.setCell ⟨t, 2, none⟩ (.slice A9 (xk.row.length + 1) c9)).heap.size ∧ TwoIs col' w0 (w3.setCell ⟨t, 2, none⟩ (.slice A9 (xk.row.length + 1) c9)) t (xK x (k + 1)) pa pb vr' vs vc css' xs xc) :=
          Lib.hid ⟨col3, _, _, fun q hq => (hx3 q (Nat.lt_of_lt_of_le hq hs8.out)).trans (hx1.out q hq), fun q hq hc => (hk3 q (Nat.lt_of_lt_of_le hq hs8.out) ((hx1.out q hq).trans hc)).trans (hk8.out q hq hc), Nat.le_trans hs8.out hs3, hT3⟩
        clear hr9 hg9 hat9 q3 q4 z2 l1 l2 p0 p1 p2 p3 p4 hO hTd hT8 hd8 hx1 hk8 hs8 hx3 hk3 hs3 hT3 hrl hrl' hxs
        go_wp2
        go_roundw
        case rel => exact ⟨k + 1, by omega, by go_num, hnew⟩
        case measure => simp [intOf]; omega
    · obtain ⟨col1, vr1, css1, hx1, hk1, hs1, hT1⟩ := hrel2.out
      have hkN : k = outN x.a := by omega
      rw [hkN] at hT1
      replace hT1 := Lib.hid hT1
      clear hx1 hk1 hs1 hrel2 hat hcg
      generalize outN x.a = N at *
      generalize hX : xK x N = X at *
      clear hX
      obtain ⟨g1, g2⟩ := hG'.out.same
      have hsl := hG'.out.sl
      obtain ⟨A5, k5, e5, hq5⟩ := LQ.of hT1.out.sent.1 hT1.out.sentd (by omega)
      obtain ⟨A6, k6, e6, hq6⟩ := LQ.of hT1.out.came.1 hT1.out.camed (by omega)
      obtain ⟨-, -, -, z3, z4⟩ := hT1.out.cells
      obtain ⟨A5', k5', e5', hk5, hk5'⟩ := own_form hT1.out.sent.1
      rw [e5] at e5'
      cases e5'
      have hq5' : LQ wr A5 (X).came.length (X).came := by
        have := LQ.take hq5 g1
        rwa [← g2] at this
      rw [e5] at z3
      rw [e6] at z4
      have d1 : decide ((((X).came.length : Nat) : Int) ≤ (((X).sent.length : Nat) : Int)) = true := by simpa using g1
      have g1' : (((X).came.length : Nat) : Int) ≤ (((X).sent.length : Nat) : Int) := by omega
      have d1n : decide ((X).came.length ≤ (X).sent.length) = true := by simpa using g1
      have hfin : Hid (∀ nq, Did w0 t x ⟨1, at_, l⟩ n (.returned (.bool true)) (World.drewN wr nq)) := Lib.hid fun nq => ⟨rfl, by rw [hS.out]; exact ⟨_, _, _, _, _, _, _, _, _, hT1.out.below (lnkI.below_drewN _ nq)⟩, by rw [hS.out]; exact hG'.out⟩
      replace hq5' := Lib.hid hq5'
      replace hq6 := Lib.hid hq6
      clear hT1 hG' hS hq5 e5 e6 g2 hsl
      generalize (X).came = CC at *
      generalize (X).sent.length = nS at *
      generalize hnC : CC.length = nC at *
      replace hnC := Lib.hid hnC
      have g3 : ((nC : Nat) : Int) ≤ ((k5 : Nat) : Int) := by omega
      have g4 : (0 : Int) ≤ ((nC : Nat) : Int) := by omega
      have g5 : nC ≤ k5 := by omega
      go_wp2
      go_quiet ((go_at_call 16; exact quietN (sames_q _ _ _ _ _ CC _ (lqN hq6.out _) (lqN hq5'.out _))))
      go_wp2
      go_ret
      exact hfin.out nq
end Go.Proofs.Ythiadkpndemeeaa.lnkX
