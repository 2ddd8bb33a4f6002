/- The contract of the law's own move: what comes is a beginning of what was sent. (Written by genV6.py.) -/
import Derived.Test.YthiadkpndemeeaaLnkX
import Derived.Test.YthiadkpndemeeaaLnkZ
namespace Go.Proofs.Ythiadkpndemeeaa.lnkY
open Go.ChangeShapes Go.WideShapes Go.ChangeAt Go.RowKit Go.Deep
open numM rowA byt numA numB numC lnkA lnkB lnkC lnkD lnkE lnkF lnkG lnkH lnkI lnkJ lnkP lnkL lnkQ lnkR lnkS lnkT lnkV lnkW lnkX lnkZ


def cW (f : Fm) (b : Bool) (A : Option Addr) (c : Nat) (i : Nat) : Value := if i = 0 then .int .i64 f.v else if i = 1 then .int .i64 f.e else if i = 2 then .int .i64 f.s else if i = 3 then .int .i64 f.a else if i = 4 then .slice A f.body.length c else .bool b
theorem wayrow (w : World) (f : Fm) (b : Bool) (A : Option Addr) (c : Nat) : (w.alloc (.cells #[.int .i64 f.v, .int .i64 f.e, .int .i64 f.s, .int .i64 f.a, .slice A f.body.length c, .bool b] 75)).rowIs w.heap.size 75 6 (cW f b A c) := by
  have h := World.rowIs_alloc w #[.int .i64 f.v, .int .i64 f.e, .int .i64 f.s, .int .i64 f.a, .slice A f.body.length c, .bool b] 75 (cW f b A c) (fun i hi => ?_)
  · exact h
  · have : i = 0 ∨ i = 1 ∨ i = 2 ∨ i = 3 ∨ i = 4 ∨ i = 5 := by simp at hi; omega
    rcases this with rfl | rfl | rfl | rfl | rfl | rfl <;> rfl
theorem pick_lt (a : Int) {n : Nat} (h : 0 < n) : pickT a n < n := Nat.mod_lt _ h
theorem pick_eq (a : Int) (n : Nat) : ∃ u : Nat, IntKind.u64.wrap a = (u : Int) ∧ pickT a n = u % n := by
  refine ⟨(a % 18446744073709551616).toNat, ?_, rfl⟩
  rw [IntKind.wrap_u64]
  omega

set_option maxRecDepth 100000 in
set_option maxHeartbeats 2000000 in
theorem do_empty {w0 w : World} {t : Nat} {x : Tw} {n : Nat} (m : Mv) (A : Option Addr) (c : Nat) (hT0 : TwoAt w0 w t x) (hG : GoodT x n) (hb : BL w A m.body.length m.body) (hl : m.body.length ≤ 1048576) (hA : m.body.length = 0 ∨ ∀ y, A = some y → y.block < w0.heap.size) (h0 : m.kind = 3 ∨ m.kind = 4 ∨ m.kind = 5) (he : x.row.length = 0) :
    Calls Try.prog 26 #[.pointer (some ⟨t, 0, none⟩), .agg #[.int .i64 m.kind, .int .i64 m.at_, .slice A m.body.length c]] w (Did w0 t x m n) := by
  obtain ⟨kind, at_, l⟩ := m
  simp only at hb hl hA h0
  obtain ⟨col, pa, pb, vr, vs, vc, css, xs, xc, hI0⟩ := hT0
  have hT := Lib.hid (hI0.below (al0 w (.cells #[.int .i64 kind, .int .i64 at_, .slice A l.length c] 54)))
  have hMB := Lib.hid (mvrow w kind at_ A l.length c)
  have hbW := Lib.hid (hb.below (al0 w (.cells #[.int .i64 kind, .int .i64 at_, .slice A l.length c] 54)))
  have hfb := Lib.hid (hI0.fresh w.heap.size (Nat.le_refl _))
  have hl9 := hb.2.1
  clear hI0 hb
  replace hG := Lib.hid hG
  have hS : Hid (moveTw x ⟨kind, at_, l⟩ = x) := Lib.hid (by unfold moveTw; rw [if_neg (show ¬ kind = 0 by omega), if_neg (show ¬ kind = 1 by omega), if_neg (show ¬ kind = 2 by omega), if_pos h0, if_pos he])
  have hfin : Hid (∀ W, TwoIs col w0 W t x pa pb vr vs vc css xs xc → Did w0 t x ⟨kind, at_, l⟩ n (.returned (.bool true)) W) := Lib.hid fun W h => ⟨rfl, by rw [hS.out]; exact ⟨_, _, _, _, _, _, _, _, _, h⟩, by rw [hS.out]; exact hG.out.more (Nat.le_succ n)⟩
  obtain ⟨-, -, z2, -, -⟩ := hT.out.cells
  obtain ⟨A5, k5, e5, -, -⟩ := own_form hT.out.row.1
  rw [e5, he] at z2
  clear hS hG hMB hbW hA e5 he
  rcases h0 with rfl | rfl | rfl
  all_goals
    go_enter Try.func26, Try.ntmps26
    go_wp2
    go_ret
    exact hfin.out _ hT.out

set_option maxRecDepth 100000 in
set_option maxHeartbeats 4000000 in
theorem do_stay_true {w0 w : World} {t : Nat} {x : Tw} {n : Nat} (m : Mv) (A : Option Addr) (c : Nat) (hT0 : TwoAt w0 w t x) (hG : GoodT x n) (hn : n < 300) (hb : BL w A m.body.length m.body) (hl : m.body.length ≤ 1048576) (hA : m.body.length = 0 ∨ ∀ y, A = some y → y.block < w0.heap.size) (h0 : m.kind = 4) (he : x.row.length ≠ 0) (hfst : (x.row.getD (pickT m.at_ x.row.length) F0).2 = true) :
    Calls Try.prog 26 #[.pointer (some ⟨t, 0, none⟩), .agg #[.int .i64 m.kind, .int .i64 m.at_, .slice A m.body.length c]] w (Did w0 t x m n) := by
  obtain ⟨kind, at_, l⟩ := m
  simp only at hb hl hA h0 he hfst
  obtain ⟨col, pa, pb, vr, vs, vc, css, xs, xc, hI0⟩ := hT0
  have hT := Lib.hid (hI0.below (al0 w (.cells #[.int .i64 kind, .int .i64 at_, .slice A l.length c] 54)))
  have hMB := Lib.hid (mvrow w kind at_ A l.length c)
  have hbW := Lib.hid (hb.below (al0 w (.cells #[.int .i64 kind, .int .i64 at_, .slice A l.length c] 54)))
  have hfb := Lib.hid (hI0.fresh w.heap.size (Nat.le_refl _))
  have hl9 := hb.2.1
  clear hI0 hb
  replace hG := Lib.hid hG
  subst h0
  have hnz : 0 < x.row.length := by omega
  have hrl := hG.out.rl
  obtain ⟨i0, hi0, hz0, hz1, hz2⟩ := info_parts info64
  have hip := pick_lt at_ hnz
  obtain ⟨u, hu, hpu⟩ := pick_eq at_ x.row.length
  obtain ⟨z0, z1, z2, -, -⟩ := hT.out.cells
  obtain ⟨g, cR, e5⟩ : ∃ g c, vr = .slice (some ⟨g, 0, none⟩) x.row.length c := by
    rcases hT.out.row.1.2 with ⟨_, e⟩ | ⟨g, cap, cur, e, _⟩
    · omega
    · exact ⟨g, cap, e⟩
  subst e5
  have hcR : x.row.length ≤ cR ∧ cR ≤ 9223372036854775807 := by
    obtain ⟨_, _, e, q1, q2⟩ := own_form hT.out.row.1
    cases e
    exact ⟨q1, q2⟩
  obtain ⟨cs, hcs, B, cB, hce, hdat⟩ := hT.out.rowd.get hip
  have hcell : ∀ j v, cs[j]? = some v → ∀ W, TwoIs col w0 W t x pa pb (.slice (some ⟨g, 0, none⟩) x.row.length cR) vs vc css xs xc → W.cell? ⟨g, pickT at_ x.row.length * 6 + j, none⟩ = some v := fun j v hj W h => by
    have := h.row.1.cells (g := g) rfl _ _ (h.rowd.cell hcs hj)
    rwa [add_plain, Nat.zero_add] at this
  subst hce
  have p0 := hcell 0 _ rfl _ hT.out
  rw [Nat.add_zero] at p0
  have p1 := hcell 1 _ rfl _ hT.out
  have p2 := hcell 2 _ rfl _ hT.out
  have p3 := hcell 3 _ rfl _ hT.out
  have p4 := hcell 4 _ rfl _ hT.out
  have p5 := hcell 5 _ rfl _ hT.out
  have m1 : (w.alloc (.cells #[.int .i64 4, .int .i64 at_, .slice A l.length c] 54)).cell? ⟨w.heap.size, 1, none⟩ = some (.int .i64 at_) := hMB.out.cell (i := 1) (by omega)
  have m0 : (w.alloc (.cells #[.int .i64 4, .int .i64 at_, .slice A l.length c] 54)).cell? ⟨w.heap.size, 0, none⟩ = some (.int .i64 4) := hMB.out.cell (i := 0) (by omega)
  have r1 : IntKind.u64.wrap ((x.row.length : Nat) : Int) = ((x.row.length : Nat) : Int) := by rw [IntKind.wrap_u64]; omega
  have r2 : ((u : Nat) : Int).tmod ((x.row.length : Nat) : Int) = ((pickT at_ x.row.length : Nat) : Int) := by rw [Int.tmod_eq_emod_of_nonneg (by omega), hpu]; omega
  have r3 : ((u : Nat) : Int) % ((x.row.length : Nat) : Int) = ((pickT at_ x.row.length : Nat) : Int) := by rw [hpu]; omega
  have r4 := wrap_in ((pickT at_ x.row.length : Nat) : Int) (by omega) (by omega)
  have hin : x.row.getD (pickT at_ x.row.length) F0 ∈ x.row := by
    rw [List.getD_eq_getElem?_getD, List.getElem?_eq_getElem hip]
    exact List.getElem_mem hip
  replace hcell := Lib.hid hcell
  replace hcs := Lib.hid hcs
  replace hdat := Lib.hid hdat
  replace hin := Lib.hid hin
  clear hpu hMB hA hbW
  have hcut : Hid (GoodT (cutT x (pickT at_ x.row.length)) n) := Lib.hid (hG.out.cutn _)
  have hS : Hid (moveTw x ⟨4, at_, l⟩ = recvT x (x.row.getD (pickT at_ x.row.length) F0)) := Lib.hid (by unfold moveTw; rw [if_neg (show ¬ (4 : Int) = 0 by decide), if_neg (show ¬ (4 : Int) = 1 by decide), if_neg (show ¬ (4 : Int) = 2 by decide), if_pos (show (4 : Int) = 3 ∨ (4 : Int) = 4 ∨ (4 : Int) = 5 from .inr (.inl rfl)), if_neg he]; show (if (4 : Int) = 5 then _ else _) = _; rw [if_neg (by decide), if_pos rfl])
  generalize x.row.getD (pickT at_ x.row.length) F0 = fx at *
  obtain ⟨f, first⟩ := fx
  simp only at hfst
  subst hfst
  generalize pickT at_ x.row.length = pk at *
  have hGx := hG
  generalize x.row.length = nR at *
  clear hcut hcs hcell
  go_enter Try.func26, Try.ntmps26
  go_wp2
  generalize w.alloc (.cells #[.int .i64 4, .int .i64 at_, .slice A l.length c] 54) = W at *
  have hlb : w.heap.size < W.heap.size := World.block_lt_of_cell? _ _ m0
  have hlt : t < W.heap.size := hT.out.blk.lt
  have hT8 := Lib.hid ((hT.out.below (al0 W (.cells #[.int .i64 f.v, .int .i64 f.e, .int .i64 f.s, .int .i64 f.a, .slice B f.body.length cB, .bool true] 75))).below (below_drew _))
  have hd8 := Lib.hid ((hdat.out.go (Chg.of_below col 99 (al0 W (.cells #[.int .i64 f.v, .int .i64 f.e, .int .i64 f.s, .int .i64 f.a, .slice B f.body.length cB, .bool true] 75))) (by decide) (Ext.refl _ _)).go (Chg.of_below col 99 (below_drew _)) (by decide) (Ext.refl _ _))
  have w8 := Lib.hid ((wayrow W f true B cB).drew)
  have hc8 := Lib.hid (hT.out.fresh W.heap.size (Nat.le_refl _))
  clear hdat
  go_region
  go_wp2_with (fail)
  generalize (W.alloc (.cells #[.int .i64 f.v, .int .i64 f.e, .int .i64 f.s, .int .i64 f.a, .slice B f.body.length cB, .bool true] 75)).drew = W8 at *
  clear z0 z1 z2 m0 m1 p0 p1 p2 p3 p4 p5 r1 r2 r3 r4 hu hlb hlt
  have hw0 := hin.out
  obtain ⟨_, _, ed, hb9, hd9⟩ := hd8.out
  cases ed
  have hrl9 := hG.out.rl
  have hsl9 := hG.out.sl
  have hff := hGx.out.first f hw0
  have hfl : f.body.length ≤ 1048576 := by
    obtain ⟨_, _, q, _, q1, q2, _, e⟩ := hff
    rw [e]
    exact hGx.out.body _ (lth_mem (by omega))
  have hf9 : f.s ≤ 9223372036854775807 := by
    obtain ⟨_, _, q, e, _, q2, _⟩ := hff
    have := hGx.out.sl
    omega
  have hgi := Lib.hid (hG.out.inb hff).1
  have hcn9 : (x).b.cnt + 2 ≤ 1000000 := by have := hG.out.bcn; omega
  replace hd9 := Lib.hid hd9
  replace hb9 := Lib.hid hb9
  refine (in_any0 f B cB W8 hT8.out.b hb9.out (by omega) (hd9.out.imp id (fun h y e => by rw [(h y e).1]; decide)) (by decide) hT8.out.fresh hcn9 hf9).mono ?_
  rintro e W10 ⟨b, us, rfl, ho, hds, hg, hE⟩
  have hT10 := Lib.hid (hT8.out.setB hg (Ext.refl _ _) (hT8.out.fresh.size hg.size) hE)
  have w10 := Lib.hid (w8.out.of_block (hg.block _ w8.out.lt (by rw [hc8.out]; decide)))
  have hX : Hid (recvT (x) (f, true) = { x with b := inS (x).b f, came := (x).came ++ inL (x).b f }) := Lib.hid (by unfold recvT; rw [if_pos rfl])
  have hG' : Hid (GoodT { x with b := inS (x).b f, came := (x).came ++ inL (x).b f } (n + 1)) := hgi
  generalize inL (x).b f = L9 at *
  generalize inE (x).b f = E9 at *
  generalize hs9 : inS (x).b f = S9 at *
  clear hs9
  have hL1 : L9.length ≤ 400 := by
    have q1 := hG'.out.same.1
    have q2 := hG'.out.sl
    have q3 : ((x).came ++ L9).length ≤ n + 1 := Nat.le_trans q1 q2
    rw [List.length_append] at q3
    omega
  obtain ⟨A9, c9, rfl, h91, h92⟩ := own_form ho
  have hcl : (x).came.length ≤ 400 := by have := hG.out.same.1; omega
  have hul : us.length = L9.length * 1 := by have := ho.1; omega
  have hstd : Stand W10 A9 L9.length us := by
    rcases ho.2 with ⟨_, e0⟩ | ⟨g0, cap0, cur0, e0, _⟩
    · exact .inl e0
    · cases e0
      exact .inr ⟨_, rfl, ho.cells (g := g0) rfl⟩
  obtain ⟨-, -, -, -, z4⟩ := hT10.out.cells
  have v5 : W10.cell? ⟨W.heap.size, 5, none⟩ = some (.bool true) := w10.out.cell (i := 5) (by omega)
  have hO10 := Lib.hid hT10.out.came.1
  have hds10 := Lib.hid hds
  have hone := Lib.hid (Dats.one hds)
  replace hstd := Lib.hid hstd
  have lt10 := hT10.out.blk.lt
  obtain ⟨j0, hj0, jz0, jz1, jz2⟩ := info_parts info24
  clear ho hds hg hE hw0 hff hfl hf9 hcn9 hb9 hT hd8 hG hT8 w8 hin
  clear hgi hd9
  go_wp2_with (at_builtin; refine wpList_gen rfl (.tmp 158) (.tmp 159) 25 rfl 0 29 j0 (.slice none 0 0) 1 24 Try.underlying25 hj0 jz0 jz1 jz2 rfl (by decide) vc (x).came.length xc rfl hO10.out A9 L9.length c9 us rfl hul hstd.out hone.out ?e1 ?e2 (Nat.zero_le _) ?_)
  case e1 => unfold maxLen; omega
  case e2 => omega
  intro A11 c11 w11 hr11 hg11 hat11
  have q0 := far hT10.out (Below.refl _ _) (.inr (.inr rfl)) hg11
  have q4 : w11.cell? ⟨t, 4, none⟩ = some vc := q0.cell (i := 4) (by omega)
  have q5 := q0.frozen 4
  obtain ⟨col9, pa9, pb9, vr9, vs9, vc9, css9, xs9, xc9, hTw⟩ := addCame hT10.out hds10.out hr11 hg11 hat11
  replace hTw := Lib.hid hTw
  clear q0 hr11 hg11 hat11 hT10 hds10 hO10 z4 v5 hone hstd w10
  go_wp2
  clear q4 q5
  generalize w11.setCell ⟨t, 4, none⟩ (.slice A11 ((x).came.length + L9.length) c11) = W12 at *
  rw [← hS.out] at hX
  generalize hXX : ({ x with b := S9, came := (x).came ++ L9 } : Tw) = XX at *
  clear hXX
  obtain ⟨g1, g2⟩ := hG'.out.same
  have hsl := hG'.out.sl
  obtain ⟨A5, k5, e5, hq5⟩ := LQ.of hTw.out.sent.1 hTw.out.sentd (by omega)
  obtain ⟨A6, k6, e6, hq6⟩ := LQ.of hTw.out.came.1 hTw.out.camed (by omega)
  obtain ⟨-, -, -, z3, z4⟩ := hTw.out.cells
  obtain ⟨A5', k5', e5', hk5, hk5'⟩ := own_form hTw.out.sent.1
  rw [e5] at e5'
  cases e5'
  have hq5' : LQ W12 A5 (XX).came.length (XX).came := by
    have := LQ.take hq5 g1
    rwa [← g2] at this
  rw [e5] at z3
  rw [e6] at z4
  have d1 : decide ((((XX).came.length : Nat) : Int) ≤ (((XX).sent.length : Nat) : Int)) = true := by simpa using g1
  have g1' : (((XX).came.length : Nat) : Int) ≤ (((XX).sent.length : Nat) : Int) := by omega
  have d1n : decide ((XX).came.length ≤ (XX).sent.length) = true := by simpa using g1
  have hfin : Hid (∀ nq, Did w0 t x ⟨4, at_, l⟩ n (.returned (.bool true)) (World.drewN W12 nq)) := Lib.hid fun nq => ⟨rfl, by rw [hX.out]; exact ⟨_, _, _, _, _, _, _, _, _, hTw.out.below (lnkI.below_drewN _ nq)⟩, by rw [hX.out]; exact hG'.out⟩
  replace hq5' := Lib.hid hq5'
  replace hq6 := Lib.hid hq6
  clear hTw hG' hX hq5 e5 e6 g2 hsl
  generalize (XX).came = CC at *
  generalize (XX).sent.length = nS at *
  generalize hnC : CC.length = nC at *
  replace hnC := Lib.hid hnC
  have g3 : ((nC : Nat) : Int) ≤ ((k5 : Nat) : Int) := by omega
  have g4 : (0 : Int) ≤ ((nC : Nat) : Int) := by omega
  have g5 : nC ≤ k5 := by omega
  go_wp2
  go_quiet ((go_at_call 16; exact quietN (sames_q _ _ _ _ _ CC _ (lqN hq6.out _) (lqN hq5'.out _))))
  go_wp2
  go_ret
  exact hfin.out nq

set_option maxRecDepth 100000 in
set_option maxHeartbeats 4000000 in
theorem do_stay_false {w0 w : World} {t : Nat} {x : Tw} {n : Nat} (m : Mv) (A : Option Addr) (c : Nat) (hT0 : TwoAt w0 w t x) (hG : GoodT x n) (hn : n < 300) (hb : BL w A m.body.length m.body) (hl : m.body.length ≤ 1048576) (hA : m.body.length = 0 ∨ ∀ y, A = some y → y.block < w0.heap.size) (h0 : m.kind = 4) (he : x.row.length ≠ 0) (hfst : (x.row.getD (pickT m.at_ x.row.length) F0).2 = false) :
    Calls Try.prog 26 #[.pointer (some ⟨t, 0, none⟩), .agg #[.int .i64 m.kind, .int .i64 m.at_, .slice A m.body.length c]] w (Did w0 t x m n) := by
  obtain ⟨kind, at_, l⟩ := m
  simp only at hb hl hA h0 he hfst
  obtain ⟨col, pa, pb, vr, vs, vc, css, xs, xc, hI0⟩ := hT0
  have hT := Lib.hid (hI0.below (al0 w (.cells #[.int .i64 kind, .int .i64 at_, .slice A l.length c] 54)))
  have hMB := Lib.hid (mvrow w kind at_ A l.length c)
  have hbW := Lib.hid (hb.below (al0 w (.cells #[.int .i64 kind, .int .i64 at_, .slice A l.length c] 54)))
  have hfb := Lib.hid (hI0.fresh w.heap.size (Nat.le_refl _))
  have hl9 := hb.2.1
  clear hI0 hb
  replace hG := Lib.hid hG
  subst h0
  have hnz : 0 < x.row.length := by omega
  have hrl := hG.out.rl
  obtain ⟨i0, hi0, hz0, hz1, hz2⟩ := info_parts info64
  have hip := pick_lt at_ hnz
  obtain ⟨u, hu, hpu⟩ := pick_eq at_ x.row.length
  obtain ⟨z0, z1, z2, -, -⟩ := hT.out.cells
  obtain ⟨g, cR, e5⟩ : ∃ g c, vr = .slice (some ⟨g, 0, none⟩) x.row.length c := by
    rcases hT.out.row.1.2 with ⟨_, e⟩ | ⟨g, cap, cur, e, _⟩
    · omega
    · exact ⟨g, cap, e⟩
  subst e5
  have hcR : x.row.length ≤ cR ∧ cR ≤ 9223372036854775807 := by
    obtain ⟨_, _, e, q1, q2⟩ := own_form hT.out.row.1
    cases e
    exact ⟨q1, q2⟩
  obtain ⟨cs, hcs, B, cB, hce, hdat⟩ := hT.out.rowd.get hip
  have hcell : ∀ j v, cs[j]? = some v → ∀ W, TwoIs col w0 W t x pa pb (.slice (some ⟨g, 0, none⟩) x.row.length cR) vs vc css xs xc → W.cell? ⟨g, pickT at_ x.row.length * 6 + j, none⟩ = some v := fun j v hj W h => by
    have := h.row.1.cells (g := g) rfl _ _ (h.rowd.cell hcs hj)
    rwa [add_plain, Nat.zero_add] at this
  subst hce
  have p0 := hcell 0 _ rfl _ hT.out
  rw [Nat.add_zero] at p0
  have p1 := hcell 1 _ rfl _ hT.out
  have p2 := hcell 2 _ rfl _ hT.out
  have p3 := hcell 3 _ rfl _ hT.out
  have p4 := hcell 4 _ rfl _ hT.out
  have p5 := hcell 5 _ rfl _ hT.out
  have m1 : (w.alloc (.cells #[.int .i64 4, .int .i64 at_, .slice A l.length c] 54)).cell? ⟨w.heap.size, 1, none⟩ = some (.int .i64 at_) := hMB.out.cell (i := 1) (by omega)
  have m0 : (w.alloc (.cells #[.int .i64 4, .int .i64 at_, .slice A l.length c] 54)).cell? ⟨w.heap.size, 0, none⟩ = some (.int .i64 4) := hMB.out.cell (i := 0) (by omega)
  have r1 : IntKind.u64.wrap ((x.row.length : Nat) : Int) = ((x.row.length : Nat) : Int) := by rw [IntKind.wrap_u64]; omega
  have r2 : ((u : Nat) : Int).tmod ((x.row.length : Nat) : Int) = ((pickT at_ x.row.length : Nat) : Int) := by rw [Int.tmod_eq_emod_of_nonneg (by omega), hpu]; omega
  have r3 : ((u : Nat) : Int) % ((x.row.length : Nat) : Int) = ((pickT at_ x.row.length : Nat) : Int) := by rw [hpu]; omega
  have r4 := wrap_in ((pickT at_ x.row.length : Nat) : Int) (by omega) (by omega)
  have hin : x.row.getD (pickT at_ x.row.length) F0 ∈ x.row := by
    rw [List.getD_eq_getElem?_getD, List.getElem?_eq_getElem hip]
    exact List.getElem_mem hip
  replace hcell := Lib.hid hcell
  replace hcs := Lib.hid hcs
  replace hdat := Lib.hid hdat
  replace hin := Lib.hid hin
  clear hpu hMB hA hbW
  have hcut : Hid (GoodT (cutT x (pickT at_ x.row.length)) n) := Lib.hid (hG.out.cutn _)
  have hS : Hid (moveTw x ⟨4, at_, l⟩ = recvT x (x.row.getD (pickT at_ x.row.length) F0)) := Lib.hid (by unfold moveTw; rw [if_neg (show ¬ (4 : Int) = 0 by decide), if_neg (show ¬ (4 : Int) = 1 by decide), if_neg (show ¬ (4 : Int) = 2 by decide), if_pos (show (4 : Int) = 3 ∨ (4 : Int) = 4 ∨ (4 : Int) = 5 from .inr (.inl rfl)), if_neg he]; show (if (4 : Int) = 5 then _ else _) = _; rw [if_neg (by decide), if_pos rfl])
  generalize x.row.getD (pickT at_ x.row.length) F0 = fx at *
  obtain ⟨f, first⟩ := fx
  simp only at hfst
  subst hfst
  generalize pickT at_ x.row.length = pk at *
  have hGx := hG
  generalize x.row.length = nR at *
  clear hcut hcs hcell
  go_enter Try.func26, Try.ntmps26
  go_wp2
  generalize w.alloc (.cells #[.int .i64 4, .int .i64 at_, .slice A l.length c] 54) = W at *
  have hlb : w.heap.size < W.heap.size := World.block_lt_of_cell? _ _ m0
  have hlt : t < W.heap.size := hT.out.blk.lt
  have hT8 := Lib.hid ((hT.out.below (al0 W (.cells #[.int .i64 f.v, .int .i64 f.e, .int .i64 f.s, .int .i64 f.a, .slice B f.body.length cB, .bool false] 75))).below (below_drew _))
  have hd8 := Lib.hid ((hdat.out.go (Chg.of_below col 99 (al0 W (.cells #[.int .i64 f.v, .int .i64 f.e, .int .i64 f.s, .int .i64 f.a, .slice B f.body.length cB, .bool false] 75))) (by decide) (Ext.refl _ _)).go (Chg.of_below col 99 (below_drew _)) (by decide) (Ext.refl _ _))
  have w8 := Lib.hid ((wayrow W f false B cB).drew)
  have hc8 := Lib.hid (hT.out.fresh W.heap.size (Nat.le_refl _))
  clear hdat
  go_region
  go_wp2_with (fail)
  generalize (W.alloc (.cells #[.int .i64 f.v, .int .i64 f.e, .int .i64 f.s, .int .i64 f.a, .slice B f.body.length cB, .bool false] 75)).drew = W8 at *
  clear z0 z1 z2 m0 m1 p0 p1 p2 p3 p4 p5 r1 r2 r3 r4 hu hlb hlt
  have hw0 := hin.out
  obtain ⟨_, _, ed, hb9, hd9⟩ := hd8.out
  cases ed
  have hrl9 := hG.out.rl
  have hsl9 := hG.out.sl
  have hff := hGx.out.note f hw0
  have hfl : f.body.length = 0 := by rw [hff.2.2.1]; rfl
  have hf9 : f.s ≤ 9223372036854775807 := by rw [hff.2.1]; decide
  have hgi := hG.out.ina hff
  have hcn9 : (x).a.cnt + 2 ≤ 1000000 := by have := hG.out.acn; omega
  replace hb9 := Lib.hid hb9
  refine (in_any0 f B cB W8 hT8.out.a hb9.out (by omega) (.inl hfl) (by decide) hT8.out.fresh hcn9 hf9).mono ?_
  rintro e W10 ⟨b, us, rfl, ho, hds, hg, hE⟩
  have hT10 := Lib.hid (hT8.out.setA hg (Ext.refl _ _) (hT8.out.fresh.size hg.size) hE)
  have w10 := Lib.hid (w8.out.of_block (hg.block _ w8.out.lt (by rw [hc8.out]; decide)))
  have hX : Hid (recvT (x) (f, false) = { x with a := inS (x).a f, came := (x).came ++ inL (x).a f }) := Lib.hid (by unfold recvT; rw [if_neg (show ¬ ((f, false) : Fm × Bool).2 = true from Bool.false_ne_true)])
  have hG' : Hid (GoodT { x with a := inS (x).a f, came := (x).came ++ inL (x).a f } (n + 1)) := Lib.hid hgi.2.1
  have hL0 := hgi.1
  rw [hL0] at ho hds hX hG'
  generalize hL9 : ([] : List (List Nat)) = L9 at *
  generalize inE (x).a f = E9 at *
  generalize hs9 : inS (x).a f = S9 at *
  have hLn : Hid (L9.length = 0) := Lib.hid (by rw [← hL9]; rfl)
  clear hs9 hL0 hL9 hgi
  have hL1 : L9.length ≤ 400 := by
    have q1 := hG'.out.same.1
    have q2 := hG'.out.sl
    have q3 : ((x).came ++ L9).length ≤ n + 1 := Nat.le_trans q1 q2
    rw [List.length_append] at q3
    omega
  obtain ⟨A9, c9, rfl, h91, h92⟩ := own_form ho
  have hcl : (x).came.length ≤ 400 := by have := hG.out.same.1; omega
  have hul : us.length = L9.length * 1 := by have := ho.1; omega
  have hstd : Stand W10 A9 L9.length us := by
    rcases ho.2 with ⟨_, e0⟩ | ⟨g0, cap0, cur0, e0, _⟩
    · exact .inl e0
    · cases e0
      exact .inr ⟨_, rfl, ho.cells (g := g0) rfl⟩
  obtain ⟨-, -, -, -, z4⟩ := hT10.out.cells
  have v5 : W10.cell? ⟨W.heap.size, 5, none⟩ = some (.bool false) := w10.out.cell (i := 5) (by omega)
  have hO10 := Lib.hid hT10.out.came.1
  have hds10 := Lib.hid hds
  have hone := Lib.hid (Dats.one hds)
  replace hstd := Lib.hid hstd
  have lt10 := hT10.out.blk.lt
  obtain ⟨j0, hj0, jz0, jz1, jz2⟩ := info_parts info24
  clear ho hds hg hE hw0 hff hfl hf9 hcn9 hb9 hT hd8 hG hT8 w8 hin
  have hd0 : decide (0 < L9.length) = false := by rw [hLn.out]; rfl
  have hd1 : decide ((0 : Int) < ((L9.length : Nat) : Int)) = false := by rw [hLn.out]; rfl
  go_wp2_with (at_builtin; refine wpList_gen rfl (.tmp 158) (.tmp 159) 25 rfl 0 29 j0 (.slice none 0 0) 1 24 Try.underlying25 hj0 jz0 jz1 jz2 rfl (by decide) vc (x).came.length xc rfl hO10.out A9 L9.length c9 us rfl hul hstd.out hone.out ?e1 ?e2 (Nat.zero_le _) ?_)
  case e1 => unfold maxLen; omega
  case e2 => omega
  intro A11 c11 w11 hr11 hg11 hat11
  have q0 := far hT10.out (Below.refl _ _) (.inr (.inr rfl)) hg11
  have q4 : w11.cell? ⟨t, 4, none⟩ = some vc := q0.cell (i := 4) (by omega)
  have q5 := q0.frozen 4
  obtain ⟨col9, pa9, pb9, vr9, vs9, vc9, css9, xs9, xc9, hTw⟩ := addCame hT10.out hds10.out hr11 hg11 hat11
  replace hTw := Lib.hid hTw
  clear q0 hr11 hg11 hat11 hT10 hds10 hO10 z4 v5 hone hstd w10
  go_wp2
  clear q4 q5
  generalize w11.setCell ⟨t, 4, none⟩ (.slice A11 ((x).came.length + L9.length) c11) = W12 at *
  rw [← hS.out] at hX
  generalize hXX : ({ x with a := S9, came := (x).came ++ L9 } : Tw) = XX at *
  clear hXX
  obtain ⟨g1, g2⟩ := hG'.out.same
  have hsl := hG'.out.sl
  obtain ⟨A5, k5, e5, hq5⟩ := LQ.of hTw.out.sent.1 hTw.out.sentd (by omega)
  obtain ⟨A6, k6, e6, hq6⟩ := LQ.of hTw.out.came.1 hTw.out.camed (by omega)
  obtain ⟨-, -, -, z3, z4⟩ := hTw.out.cells
  obtain ⟨A5', k5', e5', hk5, hk5'⟩ := own_form hTw.out.sent.1
  rw [e5] at e5'
  cases e5'
  have hq5' : LQ W12 A5 (XX).came.length (XX).came := by
    have := LQ.take hq5 g1
    rwa [← g2] at this
  rw [e5] at z3
  rw [e6] at z4
  have d1 : decide ((((XX).came.length : Nat) : Int) ≤ (((XX).sent.length : Nat) : Int)) = true := by simpa using g1
  have g1' : (((XX).came.length : Nat) : Int) ≤ (((XX).sent.length : Nat) : Int) := by omega
  have d1n : decide ((XX).came.length ≤ (XX).sent.length) = true := by simpa using g1
  have hfin : Hid (∀ nq, Did w0 t x ⟨4, at_, l⟩ n (.returned (.bool true)) (World.drewN W12 nq)) := Lib.hid fun nq => ⟨rfl, by rw [hX.out]; exact ⟨_, _, _, _, _, _, _, _, _, hTw.out.below (lnkI.below_drewN _ nq)⟩, by rw [hX.out]; exact hG'.out⟩
  replace hq5' := Lib.hid hq5'
  replace hq6 := Lib.hid hq6
  clear hTw hG' hX hq5 e5 e6 g2 hsl
  generalize (XX).came = CC at *
  generalize (XX).sent.length = nS at *
  generalize hnC : CC.length = nC at *
  replace hnC := Lib.hid hnC
  have g3 : ((nC : Nat) : Int) ≤ ((k5 : Nat) : Int) := by omega
  have g4 : (0 : Int) ≤ ((nC : Nat) : Int) := by omega
  have g5 : nC ≤ k5 := by omega
  go_wp2
  go_quiet ((go_at_call 16; exact quietN (sames_q _ _ _ _ _ CC _ (lqN hq6.out _) (lqN hq5'.out _))))
  go_wp2
  go_ret
  exact hfin.out nq
end Go.Proofs.Ythiadkpndemeeaa.lnkY
