/- The contract of the law's own move: what comes is a beginning of what was sent. (Written by genV6.py.) -/
import Derived.Test.YthiadkpndemeeaaLnkY
namespace Go.Proofs.Ythiadkpndemeeaa.lnkN
open Go.ChangeShapes Go.WideShapes Go.ChangeAt Go.RowKit Go.Deep
open numM rowA byt numA numB numC lnkA lnkB lnkC lnkD lnkE lnkF lnkG lnkH lnkI lnkJ lnkP lnkL lnkQ lnkR lnkS lnkT lnkV lnkW lnkX lnkZ lnkY


theorem dat_keep {col col' : Nat → Nat} {w w' : World} {v : Value} {l : List Nat} (h : Dat col w v l) (he : Ext w col col') (hk : ∀ k, k < w.heap.size → col k = 0 → w'.heap[k]? = w.heap[k]?) (hs : w.heap.size ≤ w'.heap.size) : Dat col' w' v l := by
  obtain ⟨A, c, rfl, hb, hy⟩ := h
  rcases hy with h0 | hy
  · exact ⟨A, c, rfl, ⟨hb.1, hb.2.1, hb.2.2.1, .inl h0⟩, .inl h0⟩
  refine ⟨A, c, rfl, ⟨hb.1, hb.2.1, hb.2.2.1, hb.2.2.2.imp id ?_⟩, .inr fun y e => ⟨(he _ (hy y e).2).trans (hy y e).1, by have := (hy y e).2; omega⟩⟩
  rintro ⟨b, off, rfl, hlt, hc⟩
  refine ⟨b, off, rfl, by omega, fun i hi => ?_⟩
  rw [World.cell?_of_block (a := ⟨b, off + i, none⟩) (hk b hlt (hy _ rfl).1)]
  exact hc i hi
theorem setRow2 {col : Nat → Nat} {w0 w : World} {t : Nat} {x : Tw} {pa pb : Nat} {vr vs vc : Value} {css : List (List Value)} {xs xc : List Value} (h : TwoIs col w0 w t x pa pb vr vs vc css xs xc) {css' : List (List Value)} {row' : List (Fm × Bool)} (hd : Wys col w css' row') {w3 : World} {v' : Value} (hB : Below w.heap.size w w3) (hr : w3.ownsRow w.heap.size 75 6 v' row'.length css'.flatten) :
    ∃ col', Ext w col col' ∧ (∀ k, k < w.heap.size → col k = 0 → (w3.setCell ⟨t, 2, none⟩ v').heap[k]? = w.heap[k]?) ∧ w.heap.size ≤ (w3.setCell ⟨t, 2, none⟩ v').heap.size ∧ TwoIs col' w0 (w3.setCell ⟨t, 2, none⟩ v') t { x with row := row' } pa pb v' vs vc css' xs xc := by
  have hr0 : w3.ownsRow 0 75 6 v' row'.length css'.flatten := own_le hr (Nat.zero_le _)
  have e1 : Ext w col (paintB col v' 4) := fun k hk => by
    unfold paintB
    rw [if_neg (fun e => by have := (hr.lt k e).1; omega)]
  have e2 : Fresh (paintB col v' 4) w3 := fun k hk => by
    unfold paintB
    rw [if_neg (fun e => by have := (hr.lt k e).2; omega)]
    exact h.fresh k (by have := hB.size; omega)
  have e3 : Chg col 4 w w3 := Chg.of_below _ _ hB
  refine ⟨_, e1, fun k hk hc => ?_, by rw [World.size_setCell]; exact hB.size, h.stored (d := 4) (by decide) e3 e1 e2 ({ x with row := row' }) rfl rfl ⟨hr0, fun k e => if_pos e⟩ (hd.go e3 (by decide) e1) (h.sent.other (Chg.of_below _ 99 hB) (by decide) e1) (h.sentd.go e3 (by decide) e1) (h.came.other e3 (by decide) e1) (h.camed.go e3 (by decide) e1) 2 v' (fun j hj => ?_)⟩
  · have hkt : k ≠ t := by rintro rfl; rw [h.ct] at hc; cases hc
    rw [Below.heap_setCell _ _ _ _ hkt, hB.block k hk]
  · have : j = 0 ∨ j = 1 ∨ j = 2 ∨ j = 3 ∨ j = 4 := by omega
    rcases this with rfl | rfl | rfl | rfl | rfl <;> rfl
theorem flat_take {css : List (List Value)} {i j : Nat} {u : Value} (h : (css.take i).flatten[j]? = some u) : css.flatten[j]? = some u := by
  have := (List.getElem?_eq_some_iff.1 h).1
  rw [← List.take_append_drop i css, List.flatten_append, List.getElem?_append_left this]
  exact h
theorem flat_drop {css : List (List Value)} {i j : Nat} {u : Value} (hl : (css.take i).flatten.length = i * 6) (h : (css.drop i).flatten[j]? = some u) : css.flatten[i * 6 + j]? = some u := by
  conv => lhs; rw [← List.take_append_drop i css]
  rw [List.flatten_append, List.getElem?_append_right (by omega), hl, show i * 6 + j - i * 6 = j by omega]
  exact h

set_option maxRecDepth 100000 in
set_option maxHeartbeats 4000000 in
theorem do_lost {w0 w : World} {t : Nat} {x : Tw} {n : Nat} (m : Mv) (A : Option Addr) (c : Nat) (hT0 : TwoAt w0 w t x) (hG : GoodT x n) (hn : n < 300) (hb : BL w A m.body.length m.body) (hl : m.body.length ≤ 1048576) (hA : m.body.length = 0 ∨ ∀ y, A = some y → y.block < w0.heap.size) (h0 : m.kind = 5) (he : x.row.length ≠ 0) :
    Calls Try.prog 26 #[.pointer (some ⟨t, 0, none⟩), .agg #[.int .i64 m.kind, .int .i64 m.at_, .slice A m.body.length c]] w (Did w0 t x m n) := by
  obtain ⟨kind, at_, l⟩ := m
  simp only at hb hl hA h0 he
  obtain ⟨col, pa, pb, vr, vs, vc, css, xs, xc, hI0⟩ := hT0
  have hT := Lib.hid (hI0.below (al0 w (.cells #[.int .i64 kind, .int .i64 at_, .slice A l.length c] 54)))
  have hMB := Lib.hid (mvrow w kind at_ A l.length c)
  have hbW := Lib.hid (hb.below (al0 w (.cells #[.int .i64 kind, .int .i64 at_, .slice A l.length c] 54)))
  have hfb := Lib.hid (hI0.fresh w.heap.size (Nat.le_refl _))
  have hl9 := hb.2.1
  clear hI0 hb
  replace hG := Lib.hid hG
  subst h0
  have hnz : 0 < x.row.length := by omega
  have hrl := hG.out.rl
  obtain ⟨i0, hi0, hz0, hz1, hz2⟩ := info_parts info64
  have hip := pick_lt at_ hnz
  obtain ⟨u, hu, hpu⟩ := pick_eq at_ x.row.length
  obtain ⟨z0, z1, z2, -, -⟩ := hT.out.cells
  obtain ⟨g, cR, e5⟩ : ∃ g c, vr = .slice (some ⟨g, 0, none⟩) x.row.length c := by
    rcases hT.out.row.1.2 with ⟨_, e⟩ | ⟨g, cap, cur, e, _⟩
    · omega
    · exact ⟨g, cap, e⟩
  subst e5
  have hcR : x.row.length ≤ cR ∧ cR ≤ 9223372036854775807 := by
    obtain ⟨_, _, e, q1, q2⟩ := own_form hT.out.row.1
    cases e
    exact ⟨q1, q2⟩
  obtain ⟨cs, hcs, B, cB, hce, hdat⟩ := hT.out.rowd.get hip
  have hcell : ∀ j v, cs[j]? = some v → ∀ W, TwoIs col w0 W t x pa pb (.slice (some ⟨g, 0, none⟩) x.row.length cR) vs vc css xs xc → W.cell? ⟨g, pickT at_ x.row.length * 6 + j, none⟩ = some v := fun j v hj W h => by
    have := h.row.1.cells (g := g) rfl _ _ (h.rowd.cell hcs hj)
    rwa [add_plain, Nat.zero_add] at this
  subst hce
  have p0 := hcell 0 _ rfl _ hT.out
  rw [Nat.add_zero] at p0
  have p1 := hcell 1 _ rfl _ hT.out
  have p2 := hcell 2 _ rfl _ hT.out
  have p3 := hcell 3 _ rfl _ hT.out
  have p4 := hcell 4 _ rfl _ hT.out
  have p5 := hcell 5 _ rfl _ hT.out
  have m1 : (w.alloc (.cells #[.int .i64 5, .int .i64 at_, .slice A l.length c] 54)).cell? ⟨w.heap.size, 1, none⟩ = some (.int .i64 at_) := hMB.out.cell (i := 1) (by omega)
  have m0 : (w.alloc (.cells #[.int .i64 5, .int .i64 at_, .slice A l.length c] 54)).cell? ⟨w.heap.size, 0, none⟩ = some (.int .i64 5) := hMB.out.cell (i := 0) (by omega)
  have r1 : IntKind.u64.wrap ((x.row.length : Nat) : Int) = ((x.row.length : Nat) : Int) := by rw [IntKind.wrap_u64]; omega
  have r2 : ((u : Nat) : Int).tmod ((x.row.length : Nat) : Int) = ((pickT at_ x.row.length : Nat) : Int) := by rw [Int.tmod_eq_emod_of_nonneg (by omega), hpu]; omega
  have r3 : ((u : Nat) : Int) % ((x.row.length : Nat) : Int) = ((pickT at_ x.row.length : Nat) : Int) := by rw [hpu]; omega
  have r4 := wrap_in ((pickT at_ x.row.length : Nat) : Int) (by omega) (by omega)
  have hin : x.row.getD (pickT at_ x.row.length) F0 ∈ x.row := by
    rw [List.getD_eq_getElem?_getD, List.getElem?_eq_getElem hip]
    exact List.getElem_mem hip
  replace hcell := Lib.hid hcell
  replace hcs := Lib.hid hcs
  replace hdat := Lib.hid hdat
  replace hin := Lib.hid hin
  clear hpu hMB hA hbW
  have hcut : Hid (GoodT (cutT x (pickT at_ x.row.length)) n) := Lib.hid (hG.out.cutn _)
  have hS : Hid (moveTw x ⟨5, at_, l⟩ = cutT x (pickT at_ x.row.length)) := Lib.hid (by unfold moveTw; rw [if_neg (show ¬ (5 : Int) = 0 by decide), if_neg (show ¬ (5 : Int) = 1 by decide), if_neg (show ¬ (5 : Int) = 2 by decide), if_pos (show (5 : Int) = 3 ∨ (5 : Int) = 4 ∨ (5 : Int) = 5 by decide), if_neg he]; show (if (5 : Int) = 5 then _ else _) = _; rw [if_pos rfl])
  generalize hfx : x.row.getD (pickT at_ x.row.length) F0 = fx at *
  obtain ⟨f, first⟩ := fx
  replace hfx := Lib.hid hfx
  clear hcs hcell
  go_enter Try.func26, Try.ntmps26
  go_wp2
  generalize w.alloc (.cells #[.int .i64 5, .int .i64 at_, .slice A l.length c] 54) = W at *
  have hlb : w.heap.size < W.heap.size := World.block_lt_of_cell? _ _ m0
  have hlt : t < W.heap.size := hT.out.blk.lt
  have hT8 := Lib.hid ((hT.out.below (al0 W (.cells #[.int .i64 f.v, .int .i64 f.e, .int .i64 f.s, .int .i64 f.a, .slice B f.body.length cB, .bool first] 75))).below (below_drew _))
  have hd8 := Lib.hid ((hdat.out.go (Chg.of_below col 99 (al0 W (.cells #[.int .i64 f.v, .int .i64 f.e, .int .i64 f.s, .int .i64 f.a, .slice B f.body.length cB, .bool first] 75))) (by decide) (Ext.refl _ _)).go (Chg.of_below col 99 (below_drew _)) (by decide) (Ext.refl _ _))
  have w8 := Lib.hid ((wayrow W f first B cB).drew)
  have hc8 := Lib.hid (hT.out.fresh W.heap.size (Nat.le_refl _))
  have m8 : (W.alloc (.cells #[.int .i64 f.v, .int .i64 f.e, .int .i64 f.s, .int .i64 f.a, .slice B f.body.length cB, .bool first] 75)).drew.cell? ⟨w.heap.size, 0, none⟩ = some (.int .i64 5) := ((al0 W _).cell (p := ⟨w.heap.size, 0, none⟩) hlb).trans m0
  have hz8 : W.heap.size < (W.alloc (.cells #[.int .i64 f.v, .int .i64 f.e, .int .i64 f.s, .int .i64 f.a, .slice B f.body.length cB, .bool first] 75)).drew.heap.size := by simp
  clear hdat
  go_region
  go_wp2
  generalize (W.alloc (.cells #[.int .i64 f.v, .int .i64 f.e, .int .i64 f.s, .int .i64 f.a, .slice B f.body.length cB, .bool first] 75)).drew = W8 at *
  clear z0 z1 z2 m0 m1 p0 p1 p2 p3 p4 p5 r1 r2 r3 r4 hu hlt
  obtain ⟨z0, z1, z2, -, -⟩ := hT8.out.cells
  -- the one is struck from the row
  have hcl : css.length = x.row.length := hT8.out.rowd.len
  have hk1 := hT8.out.rowd.take (pickT at_ x.row.length)
  have hk2 := hT8.out.rowd.drop (pickT at_ x.row.length + 1)
  have hlen1 : (css.take (pickT at_ x.row.length)).flatten.length = pickT at_ x.row.length * 6 := by rw [hk1.flen, List.length_take]; omega
  have hlen1' : (css.take (pickT at_ x.row.length + 1)).flatten.length = (pickT at_ x.row.length + 1) * 6 := by rw [(hT8.out.rowd.take (pickT at_ x.row.length + 1)).flen, List.length_take]; omega
  have hlen2 : (css.drop (pickT at_ x.row.length + 1)).flatten.length = (x.row.length - (pickT at_ x.row.length + 1)) * 6 := by rw [hk2.flen, List.length_drop]
  have hcells := hT8.out.row.1.cells (g := g) rfl
  have hglt : g < W8.heap.size := (hT8.out.row.1.lt g rfl).2
  obtain ⟨A2, hA2, hst2⟩ : ∃ A2 : Addr, (if cR = pickT at_ x.row.length + 1 then some (⟨g, 0, none⟩ : Addr) else some ⟨g, (pickT at_ x.row.length + 1) * 6, none⟩) = some A2 ∧ Hid (∀ w', Below W8.heap.size W8 w' → Stand w' (some A2) (x.row.length - (pickT at_ x.row.length + 1)) (css.drop (pickT at_ x.row.length + 1)).flatten) := by
    by_cases e : cR = pickT at_ x.row.length + 1
    · exact ⟨⟨g, 0, none⟩, by rw [if_pos e], fun w' _ => .inl (by omega)⟩
    · refine ⟨⟨g, (pickT at_ x.row.length + 1) * 6, none⟩, by rw [if_neg e], fun w' hB => .inr ⟨_, rfl, fun j u hu => ?_⟩⟩
      have := hcells _ _ (flat_drop hlen1' hu)
      rw [add_plain, Nat.zero_add] at this
      rw [add_plain, hB.cell (p := ⟨g, (pickT at_ x.row.length + 1) * 6 + j, none⟩) hglt]
      exact this
  have hst1 : Hid (∀ w', Below W8.heap.size W8 w' → Stand w' (some ⟨g, 0, none⟩) (pickT at_ x.row.length) (css.take (pickT at_ x.row.length)).flatten) := by
    intro w' hB
    refine .inr ⟨_, rfl, fun j u hu => ?_⟩
    have := hcells _ _ (flat_take hu)
    rw [add_plain, Nat.zero_add] at this
    rw [add_plain, Nat.zero_add, hB.cell (p := ⟨g, j, none⟩) hglt]
    exact this
  have hrow' : Hid ((x.row.take (pickT at_ x.row.length) ++ x.row.drop (pickT at_ x.row.length + 1)).length = pickT at_ x.row.length + (x.row.length - (pickT at_ x.row.length + 1))) := Lib.hid (by rw [List.length_append, List.length_take, List.length_drop]; omega)
  have hset : Hid (∀ w5 A5 c5, Below W8.heap.size W8 w5 → w5.ownsRow W8.heap.size 75 6 (.slice A5 (pickT at_ x.row.length + (x.row.length - (pickT at_ x.row.length + 1))) c5) (pickT at_ x.row.length + (x.row.length - (pickT at_ x.row.length + 1))) ((css.take (pickT at_ x.row.length)).flatten ++ (css.drop (pickT at_ x.row.length + 1)).flatten) →
      ∃ col', Ext W8 col col' ∧ (∀ k, k < W8.heap.size → col k = 0 → (w5.setCell ⟨t, 2, none⟩ (.slice A5 (pickT at_ x.row.length + (x.row.length - (pickT at_ x.row.length + 1))) c5)).heap[k]? = W8.heap[k]?) ∧ W8.heap.size ≤ (w5.setCell ⟨t, 2, none⟩ (.slice A5 (pickT at_ x.row.length + (x.row.length - (pickT at_ x.row.length + 1))) c5)).heap.size ∧
        TwoIs col' w0 (w5.setCell ⟨t, 2, none⟩ (.slice A5 (pickT at_ x.row.length + (x.row.length - (pickT at_ x.row.length + 1))) c5)) t (cutT x (pickT at_ x.row.length)) pa pb (.slice A5 (pickT at_ x.row.length + (x.row.length - (pickT at_ x.row.length + 1))) c5) vs vc (css.take (pickT at_ x.row.length) ++ css.drop (pickT at_ x.row.length + 1)) xs xc) := by
    intro w5 A5 c5 hB hr
    exact setRow2 hT8.out (Wys.app hk2 hk1) hB (by rw [hrow'.out, List.flatten_append]; exact hr)
  have hone1 := Lib.hid (hk1.one)
  have hone2 := Lib.hid (hk2.one)
  have hE0 : Hid ((W8.drew.alloc (.cells #[] 75)).ownsRow W8.heap.size 75 6 (.slice (some ⟨W8.heap.size, 0, none⟩) 0 0) 0 []) := Lib.hid (World.ownsRow_made (W8.drew) #[] 0 (Nat.le_refl _) (by unfold maxLen; omega) rfl)
  have hB0 : Hid (Below W8.heap.size W8 (W8.drew.alloc (.cells #[] 75))) := Lib.hid ((below_drew W8).alloc (Nat.le_refl _) _)
  have hblk := Lib.hid hT8.out.blk
  have hlt8 := hT8.out.blk.lt
  replace hlen1 := Lib.hid hlen1
  replace hlen2 := Lib.hid hlen2
  clear hk1 hk2 hlen1' hcells hcl hrow'
  have k1 := wrap_in (((pickT at_ x.row.length : Nat) : Int) + 1) (by omega) (by omega)
  have k2 : (0 : Int) ≤ ((pickT at_ x.row.length : Nat) : Int) + 1 := by omega
  have k3 : (((pickT at_ x.row.length : Nat) : Int) + 1).toNat = pickT at_ x.row.length + 1 := by omega
  have k4 : ((pickT at_ x.row.length : Nat) : Int) ≤ ((cR : Nat) : Int) := by omega
  have k5 : ((pickT at_ x.row.length : Nat) : Int) + 1 ≤ ((x.row.length : Nat) : Int) := by omega
  have k6 : pickT at_ x.row.length ≤ cR := by omega
  have k7 : pickT at_ x.row.length + 1 ≤ x.row.length := by omega
  generalize hpk : pickT at_ x.row.length = pk at *
  generalize hnR : x.row.length = nR at *
  generalize hy1 : (css.take pk).flatten = Y1 at *
  generalize hy2 : (css.drop (pk + 1)).flatten = Y2 at *
  replace hpk := Lib.hid hpk
  replace hnR := Lib.hid hnR
  replace hy1 := Lib.hid hy1
  replace hy2 := Lib.hid hy2
  go_region_law (first
    | (refine step_gen rfl (.tmp 108) (.tmp 114) 50 rfl W8.heap.size 75 i0 _ 6 64 Try.underlying50 hi0 hz0 hz1 hz2 rfl (by decide) (.slice (some ⟨W8.heap.size, 0, none⟩) 0 0) 0 [] (by rfl) hE0.out (some ⟨g, 0, none⟩) pk cR Y1 (by rfl) hlen1.out (hst1.out _ hB0.out) hone1.out (by unfold maxLen; omega) (by omega) (by simp) ?_; intro A3 c3 w3 hr3 hg3 hat3; have hr3' := Lib.hid hr3; have hB3 := Lib.hid (hB0.out.grown hg3 (by simp) (fun k e => by cases e; exact Nat.le_refl _)); have y2 := (hB3.out.cell (p := ⟨t, 2, none⟩) hlt8).trans z2; clear hr3 hg3 hat3)
    | (refine step_gen rfl (.tmp 115) (.tmp 122) 50 rfl W8.heap.size 75 i0 _ 6 64 Try.underlying50 hi0 hz0 hz1 hz2 rfl (by decide) (.slice A3 pk c3) pk Y1 (by rfl) (by have := hr3'.out; rw [Nat.zero_add, List.nil_append] at this; exact this) (some A2) (nR - (pk + 1)) (cR - (pk + 1)) Y2 (by rfl) hlen2.out (hst2.out _ hB3.out) hone2.out (by unfold maxLen; omega) (by omega) hB3.out.size ?_; intro A5 c5 w5 hr5 hg5 hat5; have hB5 := Lib.hid (hB3.out.grown hg5 hB3.out.size (fun k e => (hr3'.out.lt k (by rw [Nat.zero_add]; exact e)).1)); have q0 := hblk.out.of_block (hB5.out.block t hlt8); have q3 : w5.cell? ⟨t, 2, none⟩ = some (.slice (some ⟨g, 0, none⟩) nR cR) := q0.cell (i := 2) (by omega); have q4 := q0.frozen 2; clear q0 hg5 hat5))
  all_goals
    obtain ⟨col9, hx9, hk9, hs9, hT9⟩ := hset.out w5 A5 c5 hB5.out hr5
    have hlb8 : w.heap.size < W8.heap.size := World.block_lt_of_cell? _ _ m8
    have m9 := (World.cell?_of_block (a := ⟨w.heap.size, 0, none⟩) (hk9 _ hlb8 hfb.out)).trans m8
    have hdd9 := Lib.hid (dat_keep hd8.out hx9 hk9 hs9)
    have w9 := Lib.hid (w8.out.of_block (hk9 _ hz8 hc8.out))
    have hcc9 := Lib.hid ((hx9 _ hz8).trans hc8.out)
    replace hT9 := Lib.hid hT9
    clear hr5 hB5 q3 q4 y2 hB3 hr3' z0 z1 z2 m8 hk9 hx9 hs9 hset hE0 hB0 hblk hlt8 hst1 hst2 hone1 hone2 hA2 hd8 w8 hc8 hT8 hT hlb hlb8 hz8 k1 k2 k3 k4 k5 k6 k7 hglt hlen1 hlen2
    generalize w5.setCell ⟨t, 2, none⟩ (.slice A5 (pk + (nR - (pk + 1))) c5) = W9 at *
    have hfin : Hid (Did w0 t x ⟨5, at_, l⟩ n (.returned (.bool true)) W9) := Lib.hid ⟨rfl, by rw [hS.out]; exact ⟨_, _, _, _, _, _, _, _, _, hT9.out⟩, by rw [hS.out]; exact hcut.out.more (Nat.le_succ n)⟩
    clear hT9 hdd9 w9 hcc9 hS hcut hin hfx hn
    go_wp2
    go_ret
    exact hfin.out

set_option maxRecDepth 100000 in
set_option maxHeartbeats 4000000 in
theorem do_come_true {w0 w : World} {t : Nat} {x : Tw} {n : Nat} (m : Mv) (A : Option Addr) (c : Nat) (hT0 : TwoAt w0 w t x) (hG : GoodT x n) (hn : n < 300) (hb : BL w A m.body.length m.body) (hl : m.body.length ≤ 1048576) (hA : m.body.length = 0 ∨ ∀ y, A = some y → y.block < w0.heap.size) (h0 : m.kind = 3) (he : x.row.length ≠ 0) (hfst : (x.row.getD (pickT m.at_ x.row.length) F0).2 = true) :
    Calls Try.prog 26 #[.pointer (some ⟨t, 0, none⟩), .agg #[.int .i64 m.kind, .int .i64 m.at_, .slice A m.body.length c]] w (Did w0 t x m n) := by
  obtain ⟨kind, at_, l⟩ := m
  simp only at hb hl hA h0 he hfst
  obtain ⟨col, pa, pb, vr, vs, vc, css, xs, xc, hI0⟩ := hT0
  have hT := Lib.hid (hI0.below (al0 w (.cells #[.int .i64 kind, .int .i64 at_, .slice A l.length c] 54)))
  have hMB := Lib.hid (mvrow w kind at_ A l.length c)
  have hbW := Lib.hid (hb.below (al0 w (.cells #[.int .i64 kind, .int .i64 at_, .slice A l.length c] 54)))
  have hfb := Lib.hid (hI0.fresh w.heap.size (Nat.le_refl _))
  have hl9 := hb.2.1
  clear hI0 hb
  replace hG := Lib.hid hG
  subst h0
  have hnz : 0 < x.row.length := by omega
  have hrl := hG.out.rl
  obtain ⟨i0, hi0, hz0, hz1, hz2⟩ := info_parts info64
  have hip := pick_lt at_ hnz
  obtain ⟨u, hu, hpu⟩ := pick_eq at_ x.row.length
  obtain ⟨z0, z1, z2, -, -⟩ := hT.out.cells
  obtain ⟨g, cR, e5⟩ : ∃ g c, vr = .slice (some ⟨g, 0, none⟩) x.row.length c := by
    rcases hT.out.row.1.2 with ⟨_, e⟩ | ⟨g, cap, cur, e, _⟩
    · omega
    · exact ⟨g, cap, e⟩
  subst e5
  have hcR : x.row.length ≤ cR ∧ cR ≤ 9223372036854775807 := by
    obtain ⟨_, _, e, q1, q2⟩ := own_form hT.out.row.1
    cases e
    exact ⟨q1, q2⟩
  obtain ⟨cs, hcs, B, cB, hce, hdat⟩ := hT.out.rowd.get hip
  have hcell : ∀ j v, cs[j]? = some v → ∀ W, TwoIs col w0 W t x pa pb (.slice (some ⟨g, 0, none⟩) x.row.length cR) vs vc css xs xc → W.cell? ⟨g, pickT at_ x.row.length * 6 + j, none⟩ = some v := fun j v hj W h => by
    have := h.row.1.cells (g := g) rfl _ _ (h.rowd.cell hcs hj)
    rwa [add_plain, Nat.zero_add] at this
  subst hce
  have p0 := hcell 0 _ rfl _ hT.out
  rw [Nat.add_zero] at p0
  have p1 := hcell 1 _ rfl _ hT.out
  have p2 := hcell 2 _ rfl _ hT.out
  have p3 := hcell 3 _ rfl _ hT.out
  have p4 := hcell 4 _ rfl _ hT.out
  have p5 := hcell 5 _ rfl _ hT.out
  have m1 : (w.alloc (.cells #[.int .i64 3, .int .i64 at_, .slice A l.length c] 54)).cell? ⟨w.heap.size, 1, none⟩ = some (.int .i64 at_) := hMB.out.cell (i := 1) (by omega)
  have m0 : (w.alloc (.cells #[.int .i64 3, .int .i64 at_, .slice A l.length c] 54)).cell? ⟨w.heap.size, 0, none⟩ = some (.int .i64 3) := hMB.out.cell (i := 0) (by omega)
  have r1 : IntKind.u64.wrap ((x.row.length : Nat) : Int) = ((x.row.length : Nat) : Int) := by rw [IntKind.wrap_u64]; omega
  have r2 : ((u : Nat) : Int).tmod ((x.row.length : Nat) : Int) = ((pickT at_ x.row.length : Nat) : Int) := by rw [Int.tmod_eq_emod_of_nonneg (by omega), hpu]; omega
  have r3 : ((u : Nat) : Int) % ((x.row.length : Nat) : Int) = ((pickT at_ x.row.length : Nat) : Int) := by rw [hpu]; omega
  have r4 := wrap_in ((pickT at_ x.row.length : Nat) : Int) (by omega) (by omega)
  have hin : x.row.getD (pickT at_ x.row.length) F0 ∈ x.row := by
    rw [List.getD_eq_getElem?_getD, List.getElem?_eq_getElem hip]
    exact List.getElem_mem hip
  replace hcell := Lib.hid hcell
  replace hcs := Lib.hid hcs
  replace hdat := Lib.hid hdat
  replace hin := Lib.hid hin
  clear hpu hMB hA hbW
  have hcut : Hid (GoodT (cutT x (pickT at_ x.row.length)) n) := Lib.hid (hG.out.cutn _)
  have hS : Hid (moveTw x ⟨3, at_, l⟩ = recvT (cutT x (pickT at_ x.row.length)) (x.row.getD (pickT at_ x.row.length) F0)) := Lib.hid (by unfold moveTw; rw [if_neg (show ¬ (3 : Int) = 0 by decide), if_neg (show ¬ (3 : Int) = 1 by decide), if_neg (show ¬ (3 : Int) = 2 by decide), if_pos (show (3 : Int) = 3 ∨ (3 : Int) = 4 ∨ (3 : Int) = 5 by decide), if_neg he]; show (if (3 : Int) = 5 then _ else _) = _; rw [if_neg (show ¬ (3 : Int) = 5 by decide), if_neg (show ¬ (3 : Int) = 4 by decide)])
  generalize hfx : x.row.getD (pickT at_ x.row.length) F0 = fx at *
  obtain ⟨f, first⟩ := fx
  simp only at hfst
  subst hfst
  replace hfx := Lib.hid hfx
  clear hcs hcell
  go_enter Try.func26, Try.ntmps26
  go_wp2
  generalize w.alloc (.cells #[.int .i64 3, .int .i64 at_, .slice A l.length c] 54) = W at *
  have hlb : w.heap.size < W.heap.size := World.block_lt_of_cell? _ _ m0
  have hlt : t < W.heap.size := hT.out.blk.lt
  have hT8 := Lib.hid ((hT.out.below (al0 W (.cells #[.int .i64 f.v, .int .i64 f.e, .int .i64 f.s, .int .i64 f.a, .slice B f.body.length cB, .bool true] 75))).below (below_drew _))
  have hd8 := Lib.hid ((hdat.out.go (Chg.of_below col 99 (al0 W (.cells #[.int .i64 f.v, .int .i64 f.e, .int .i64 f.s, .int .i64 f.a, .slice B f.body.length cB, .bool true] 75))) (by decide) (Ext.refl _ _)).go (Chg.of_below col 99 (below_drew _)) (by decide) (Ext.refl _ _))
  have w8 := Lib.hid ((wayrow W f true B cB).drew)
  have hc8 := Lib.hid (hT.out.fresh W.heap.size (Nat.le_refl _))
  have m8 : (W.alloc (.cells #[.int .i64 f.v, .int .i64 f.e, .int .i64 f.s, .int .i64 f.a, .slice B f.body.length cB, .bool true] 75)).drew.cell? ⟨w.heap.size, 0, none⟩ = some (.int .i64 3) := ((al0 W _).cell (p := ⟨w.heap.size, 0, none⟩) hlb).trans m0
  have hz8 : W.heap.size < (W.alloc (.cells #[.int .i64 f.v, .int .i64 f.e, .int .i64 f.s, .int .i64 f.a, .slice B f.body.length cB, .bool true] 75)).drew.heap.size := by simp
  clear hdat
  go_region
  go_wp2
  generalize (W.alloc (.cells #[.int .i64 f.v, .int .i64 f.e, .int .i64 f.s, .int .i64 f.a, .slice B f.body.length cB, .bool true] 75)).drew = W8 at *
  clear z0 z1 z2 m0 m1 p0 p1 p2 p3 p4 p5 r1 r2 r3 r4 hu hlt
  obtain ⟨z0, z1, z2, -, -⟩ := hT8.out.cells
  -- the one is struck from the row
  have hcl : css.length = x.row.length := hT8.out.rowd.len
  have hk1 := hT8.out.rowd.take (pickT at_ x.row.length)
  have hk2 := hT8.out.rowd.drop (pickT at_ x.row.length + 1)
  have hlen1 : (css.take (pickT at_ x.row.length)).flatten.length = pickT at_ x.row.length * 6 := by rw [hk1.flen, List.length_take]; omega
  have hlen1' : (css.take (pickT at_ x.row.length + 1)).flatten.length = (pickT at_ x.row.length + 1) * 6 := by rw [(hT8.out.rowd.take (pickT at_ x.row.length + 1)).flen, List.length_take]; omega
  have hlen2 : (css.drop (pickT at_ x.row.length + 1)).flatten.length = (x.row.length - (pickT at_ x.row.length + 1)) * 6 := by rw [hk2.flen, List.length_drop]
  have hcells := hT8.out.row.1.cells (g := g) rfl
  have hglt : g < W8.heap.size := (hT8.out.row.1.lt g rfl).2
  obtain ⟨A2, hA2, hst2⟩ : ∃ A2 : Addr, (if cR = pickT at_ x.row.length + 1 then some (⟨g, 0, none⟩ : Addr) else some ⟨g, (pickT at_ x.row.length + 1) * 6, none⟩) = some A2 ∧ Hid (∀ w', Below W8.heap.size W8 w' → Stand w' (some A2) (x.row.length - (pickT at_ x.row.length + 1)) (css.drop (pickT at_ x.row.length + 1)).flatten) := by
    by_cases e : cR = pickT at_ x.row.length + 1
    · exact ⟨⟨g, 0, none⟩, by rw [if_pos e], fun w' _ => .inl (by omega)⟩
    · refine ⟨⟨g, (pickT at_ x.row.length + 1) * 6, none⟩, by rw [if_neg e], fun w' hB => .inr ⟨_, rfl, fun j u hu => ?_⟩⟩
      have := hcells _ _ (flat_drop hlen1' hu)
      rw [add_plain, Nat.zero_add] at this
      rw [add_plain, hB.cell (p := ⟨g, (pickT at_ x.row.length + 1) * 6 + j, none⟩) hglt]
      exact this
  have hst1 : Hid (∀ w', Below W8.heap.size W8 w' → Stand w' (some ⟨g, 0, none⟩) (pickT at_ x.row.length) (css.take (pickT at_ x.row.length)).flatten) := by
    intro w' hB
    refine .inr ⟨_, rfl, fun j u hu => ?_⟩
    have := hcells _ _ (flat_take hu)
    rw [add_plain, Nat.zero_add] at this
    rw [add_plain, Nat.zero_add, hB.cell (p := ⟨g, j, none⟩) hglt]
    exact this
  have hrow' : Hid ((x.row.take (pickT at_ x.row.length) ++ x.row.drop (pickT at_ x.row.length + 1)).length = pickT at_ x.row.length + (x.row.length - (pickT at_ x.row.length + 1))) := Lib.hid (by rw [List.length_append, List.length_take, List.length_drop]; omega)
  have hset : Hid (∀ w5 A5 c5, Below W8.heap.size W8 w5 → w5.ownsRow W8.heap.size 75 6 (.slice A5 (pickT at_ x.row.length + (x.row.length - (pickT at_ x.row.length + 1))) c5) (pickT at_ x.row.length + (x.row.length - (pickT at_ x.row.length + 1))) ((css.take (pickT at_ x.row.length)).flatten ++ (css.drop (pickT at_ x.row.length + 1)).flatten) →
      ∃ col', Ext W8 col col' ∧ (∀ k, k < W8.heap.size → col k = 0 → (w5.setCell ⟨t, 2, none⟩ (.slice A5 (pickT at_ x.row.length + (x.row.length - (pickT at_ x.row.length + 1))) c5)).heap[k]? = W8.heap[k]?) ∧ W8.heap.size ≤ (w5.setCell ⟨t, 2, none⟩ (.slice A5 (pickT at_ x.row.length + (x.row.length - (pickT at_ x.row.length + 1))) c5)).heap.size ∧
        TwoIs col' w0 (w5.setCell ⟨t, 2, none⟩ (.slice A5 (pickT at_ x.row.length + (x.row.length - (pickT at_ x.row.length + 1))) c5)) t (cutT x (pickT at_ x.row.length)) pa pb (.slice A5 (pickT at_ x.row.length + (x.row.length - (pickT at_ x.row.length + 1))) c5) vs vc (css.take (pickT at_ x.row.length) ++ css.drop (pickT at_ x.row.length + 1)) xs xc) := by
    intro w5 A5 c5 hB hr
    exact setRow2 hT8.out (Wys.app hk2 hk1) hB (by rw [hrow'.out, List.flatten_append]; exact hr)
  have hone1 := Lib.hid (hk1.one)
  have hone2 := Lib.hid (hk2.one)
  have hE0 : Hid ((W8.drew.alloc (.cells #[] 75)).ownsRow W8.heap.size 75 6 (.slice (some ⟨W8.heap.size, 0, none⟩) 0 0) 0 []) := Lib.hid (World.ownsRow_made (W8.drew) #[] 0 (Nat.le_refl _) (by unfold maxLen; omega) rfl)
  have hB0 : Hid (Below W8.heap.size W8 (W8.drew.alloc (.cells #[] 75))) := Lib.hid ((below_drew W8).alloc (Nat.le_refl _) _)
  have hblk := Lib.hid hT8.out.blk
  have hlt8 := hT8.out.blk.lt
  replace hlen1 := Lib.hid hlen1
  replace hlen2 := Lib.hid hlen2
  clear hk1 hk2 hlen1' hcells hcl hrow'
  have k1 := wrap_in (((pickT at_ x.row.length : Nat) : Int) + 1) (by omega) (by omega)
  have k2 : (0 : Int) ≤ ((pickT at_ x.row.length : Nat) : Int) + 1 := by omega
  have k3 : (((pickT at_ x.row.length : Nat) : Int) + 1).toNat = pickT at_ x.row.length + 1 := by omega
  have k4 : ((pickT at_ x.row.length : Nat) : Int) ≤ ((cR : Nat) : Int) := by omega
  have k5 : ((pickT at_ x.row.length : Nat) : Int) + 1 ≤ ((x.row.length : Nat) : Int) := by omega
  have k6 : pickT at_ x.row.length ≤ cR := by omega
  have k7 : pickT at_ x.row.length + 1 ≤ x.row.length := by omega
  generalize hpk : pickT at_ x.row.length = pk at *
  generalize hnR : x.row.length = nR at *
  generalize hy1 : (css.take pk).flatten = Y1 at *
  generalize hy2 : (css.drop (pk + 1)).flatten = Y2 at *
  replace hpk := Lib.hid hpk
  replace hnR := Lib.hid hnR
  replace hy1 := Lib.hid hy1
  replace hy2 := Lib.hid hy2
  go_region_law (first
    | (refine step_gen rfl (.tmp 108) (.tmp 114) 50 rfl W8.heap.size 75 i0 _ 6 64 Try.underlying50 hi0 hz0 hz1 hz2 rfl (by decide) (.slice (some ⟨W8.heap.size, 0, none⟩) 0 0) 0 [] (by rfl) hE0.out (some ⟨g, 0, none⟩) pk cR Y1 (by rfl) hlen1.out (hst1.out _ hB0.out) hone1.out (by unfold maxLen; omega) (by omega) (by simp) ?_; intro A3 c3 w3 hr3 hg3 hat3; have hr3' := Lib.hid hr3; have hB3 := Lib.hid (hB0.out.grown hg3 (by simp) (fun k e => by cases e; exact Nat.le_refl _)); have y2 := (hB3.out.cell (p := ⟨t, 2, none⟩) hlt8).trans z2; clear hr3 hg3 hat3)
    | (refine step_gen rfl (.tmp 115) (.tmp 122) 50 rfl W8.heap.size 75 i0 _ 6 64 Try.underlying50 hi0 hz0 hz1 hz2 rfl (by decide) (.slice A3 pk c3) pk Y1 (by rfl) (by have := hr3'.out; rw [Nat.zero_add, List.nil_append] at this; exact this) (some A2) (nR - (pk + 1)) (cR - (pk + 1)) Y2 (by rfl) hlen2.out (hst2.out _ hB3.out) hone2.out (by unfold maxLen; omega) (by omega) hB3.out.size ?_; intro A5 c5 w5 hr5 hg5 hat5; have hB5 := Lib.hid (hB3.out.grown hg5 hB3.out.size (fun k e => (hr3'.out.lt k (by rw [Nat.zero_add]; exact e)).1)); have q0 := hblk.out.of_block (hB5.out.block t hlt8); have q3 : w5.cell? ⟨t, 2, none⟩ = some (.slice (some ⟨g, 0, none⟩) nR cR) := q0.cell (i := 2) (by omega); have q4 := q0.frozen 2; clear q0 hg5 hat5))
  all_goals
    obtain ⟨col9, hx9, hk9, hs9, hT9⟩ := hset.out w5 A5 c5 hB5.out hr5
    have hlb8 : w.heap.size < W8.heap.size := World.block_lt_of_cell? _ _ m8
    have m9 := (World.cell?_of_block (a := ⟨w.heap.size, 0, none⟩) (hk9 _ hlb8 hfb.out)).trans m8
    have hdd9 := Lib.hid (dat_keep hd8.out hx9 hk9 hs9)
    have w9 := Lib.hid (w8.out.of_block (hk9 _ hz8 hc8.out))
    have hcc9 := Lib.hid ((hx9 _ hz8).trans hc8.out)
    replace hT9 := Lib.hid hT9
    clear hr5 hB5 q3 q4 y2 hB3 hr3' z0 z1 z2 m8 hk9 hx9 hs9 hset hE0 hB0 hblk hlt8 hst1 hst2 hone1 hone2 hA2 hd8 w8 hc8 hT8 hT hlb hlb8 hz8 k1 k2 k3 k4 k5 k6 k7 hglt hlen1 hlen2
    generalize w5.setCell ⟨t, 2, none⟩ (.slice A5 (pk + (nR - (pk + 1))) c5) = W9 at *
    obtain ⟨z0, z1, -, -, -⟩ := hT9.out.cells
    have x0 : W9.cell? ⟨W.heap.size, 0, none⟩ = some (.int .i64 f.v) := w9.out.cell (i := 0) (by omega)
    have x1 : W9.cell? ⟨W.heap.size, 1, none⟩ = some (.int .i64 f.e) := w9.out.cell (i := 1) (by omega)
    have x2 : W9.cell? ⟨W.heap.size, 2, none⟩ = some (.int .i64 f.s) := w9.out.cell (i := 2) (by omega)
    have x3 : W9.cell? ⟨W.heap.size, 3, none⟩ = some (.int .i64 f.a) := w9.out.cell (i := 3) (by omega)
    have x4 : W9.cell? ⟨W.heap.size, 4, none⟩ = some (.slice B f.body.length cB) := w9.out.cell (i := 4) (by omega)
    have x5 : W9.cell? ⟨W.heap.size, 5, none⟩ = some (.bool true) := w9.out.cell (i := 5) (by omega)
    have hGx := hG
    go_wp2_with (fail)
    clear z0 z1 x0 x1 x2 x3 x4 x5 m9
    have hw0 := hin.out
    obtain ⟨_, _, ed, hb9, hd9⟩ := hdd9.out
    cases ed
    have hrl9 := hcut.out.rl
    have hsl9 := hcut.out.sl
    have hff := hGx.out.first f hw0
    have hfl : f.body.length ≤ 1048576 := by
      obtain ⟨_, _, q, _, q1, q2, _, e⟩ := hff
      rw [e]
      exact hGx.out.body _ (lth_mem (by omega))
    have hf9 : f.s ≤ 9223372036854775807 := by
      obtain ⟨_, _, q, e, _, q2, _⟩ := hff
      have := hGx.out.sl
      omega
    have hgi := Lib.hid (hcut.out.inb hff).1
    have hcn9 : ((cutT x pk)).b.cnt + 2 ≤ 1000000 := by have := hcut.out.bcn; omega
    replace hd9 := Lib.hid hd9
    replace hb9 := Lib.hid hb9
    refine (in_any0 f B cB W9 hT9.out.b hb9.out (by omega) (hd9.out.imp id (fun h y e => by rw [(h y e).1]; decide)) (by decide) hT9.out.fresh hcn9 hf9).mono ?_
    rintro e W10 ⟨b, us, rfl, ho, hds, hg, hE⟩
    have hT10 := Lib.hid (hT9.out.setB hg (Ext.refl _ _) (hT9.out.fresh.size hg.size) hE)
    have w10 := Lib.hid (w9.out.of_block (hg.block _ w9.out.lt (by rw [hcc9.out]; decide)))
    have hX : Hid (recvT ((cutT x pk)) (f, true) = { (cutT x pk) with b := inS ((cutT x pk)).b f, came := ((cutT x pk)).came ++ inL ((cutT x pk)).b f }) := Lib.hid (by unfold recvT; rw [if_pos rfl])
    have hG' : Hid (GoodT { (cutT x pk) with b := inS ((cutT x pk)).b f, came := ((cutT x pk)).came ++ inL ((cutT x pk)).b f } (n + 1)) := hgi
    generalize inL ((cutT x pk)).b f = L9 at *
    generalize inE ((cutT x pk)).b f = E9 at *
    generalize hs9 : inS ((cutT x pk)).b f = S9 at *
    clear hs9
    have hL1 : L9.length ≤ 400 := by
      have q1 := hG'.out.same.1
      have q2 := hG'.out.sl
      have q3 : (((cutT x pk)).came ++ L9).length ≤ n + 1 := Nat.le_trans q1 q2
      rw [List.length_append] at q3
      omega
    obtain ⟨A9, c9, rfl, h91, h92⟩ := own_form ho
    have hcl : ((cutT x pk)).came.length ≤ 400 := by have := hcut.out.same.1; omega
    have hul : us.length = L9.length * 1 := by have := ho.1; omega
    have hstd : Stand W10 A9 L9.length us := by
      rcases ho.2 with ⟨_, e0⟩ | ⟨g0, cap0, cur0, e0, _⟩
      · exact .inl e0
      · cases e0
        exact .inr ⟨_, rfl, ho.cells (g := g0) rfl⟩
    obtain ⟨-, -, -, -, z4⟩ := hT10.out.cells
    have v5 : W10.cell? ⟨W.heap.size, 5, none⟩ = some (.bool true) := w10.out.cell (i := 5) (by omega)
    have hO10 := Lib.hid hT10.out.came.1
    have hds10 := Lib.hid hds
    have hone := Lib.hid (Dats.one hds)
    replace hstd := Lib.hid hstd
    have lt10 := hT10.out.blk.lt
    obtain ⟨j0, hj0, jz0, jz1, jz2⟩ := info_parts info24
    clear ho hds hg hE hw0 hff hfl hf9 hcn9 hb9 hdd9 hcut hT9 w9 hin
    clear hgi hd9
    go_wp2_with (at_builtin; refine wpList_gen rfl (.tmp 158) (.tmp 159) 25 rfl 0 29 j0 (.slice none 0 0) 1 24 Try.underlying25 hj0 jz0 jz1 jz2 rfl (by decide) vc ((cutT x pk)).came.length xc rfl hO10.out A9 L9.length c9 us rfl hul hstd.out hone.out ?e1 ?e2 (Nat.zero_le _) ?_)
    case e1 => unfold maxLen; omega
    case e2 => omega
    intro A11 c11 w11 hr11 hg11 hat11
    have q0 := far hT10.out (Below.refl _ _) (.inr (.inr rfl)) hg11
    have q4 : w11.cell? ⟨t, 4, none⟩ = some vc := q0.cell (i := 4) (by omega)
    have q5 := q0.frozen 4
    obtain ⟨col9, pa9, pb9, vr9, vs9, vc9, css9, xs9, xc9, hTw⟩ := addCame hT10.out hds10.out hr11 hg11 hat11
    replace hTw := Lib.hid hTw
    clear q0 hr11 hg11 hat11 hT10 hds10 hO10 z4 v5 hone hstd w10
    go_wp2
    clear q4 q5
    generalize w11.setCell ⟨t, 4, none⟩ (.slice A11 (((cutT x pk)).came.length + L9.length) c11) = W12 at *
    rw [← hS.out] at hX
    generalize hXX : ({ (cutT x pk) with b := S9, came := ((cutT x pk)).came ++ L9 } : Tw) = XX at *
    clear hXX
    obtain ⟨g1, g2⟩ := hG'.out.same
    have hsl := hG'.out.sl
    obtain ⟨A5, k5, e5, hq5⟩ := LQ.of hTw.out.sent.1 hTw.out.sentd (by omega)
    obtain ⟨A6, k6, e6, hq6⟩ := LQ.of hTw.out.came.1 hTw.out.camed (by omega)
    obtain ⟨-, -, -, z3, z4⟩ := hTw.out.cells
    obtain ⟨A5', k5', e5', hk5, hk5'⟩ := own_form hTw.out.sent.1
    rw [e5] at e5'
    cases e5'
    have hq5' : LQ W12 A5 (XX).came.length (XX).came := by
      have := LQ.take hq5 g1
      rwa [← g2] at this
    rw [e5] at z3
    rw [e6] at z4
    have d1 : decide ((((XX).came.length : Nat) : Int) ≤ (((XX).sent.length : Nat) : Int)) = true := by simpa using g1
    have g1' : (((XX).came.length : Nat) : Int) ≤ (((XX).sent.length : Nat) : Int) := by omega
    have d1n : decide ((XX).came.length ≤ (XX).sent.length) = true := by simpa using g1
    have hfin : Hid (∀ nq, Did w0 t x ⟨3, at_, l⟩ n (.returned (.bool true)) (World.drewN W12 nq)) := Lib.hid fun nq => ⟨rfl, by rw [hX.out]; exact ⟨_, _, _, _, _, _, _, _, _, hTw.out.below (lnkI.below_drewN _ nq)⟩, by rw [hX.out]; exact hG'.out⟩
    replace hq5' := Lib.hid hq5'
    replace hq6 := Lib.hid hq6
    clear hTw hG' hX hq5 e5 e6 g2 hsl
    generalize (XX).came = CC at *
    generalize (XX).sent.length = nS at *
    generalize hnC : CC.length = nC at *
    replace hnC := Lib.hid hnC
    have g3 : ((nC : Nat) : Int) ≤ ((k5 : Nat) : Int) := by omega
    have g4 : (0 : Int) ≤ ((nC : Nat) : Int) := by omega
    have g5 : nC ≤ k5 := by omega
    go_wp2
    go_quiet ((go_at_call 16; exact quietN (sames_q _ _ _ _ _ CC _ (lqN hq6.out _) (lqN hq5'.out _))))
    go_wp2
    go_ret
    exact hfin.out nq

set_option maxRecDepth 100000 in
set_option maxHeartbeats 4000000 in
theorem do_come_false {w0 w : World} {t : Nat} {x : Tw} {n : Nat} (m : Mv) (A : Option Addr) (c : Nat) (hT0 : TwoAt w0 w t x) (hG : GoodT x n) (hn : n < 300) (hb : BL w A m.body.length m.body) (hl : m.body.length ≤ 1048576) (hA : m.body.length = 0 ∨ ∀ y, A = some y → y.block < w0.heap.size) (h0 : m.kind = 3) (he : x.row.length ≠ 0) (hfst : (x.row.getD (pickT m.at_ x.row.length) F0).2 = false) :
    Calls Try.prog 26 #[.pointer (some ⟨t, 0, none⟩), .agg #[.int .i64 m.kind, .int .i64 m.at_, .slice A m.body.length c]] w (Did w0 t x m n) := by
  obtain ⟨kind, at_, l⟩ := m
  simp only at hb hl hA h0 he hfst
  obtain ⟨col, pa, pb, vr, vs, vc, css, xs, xc, hI0⟩ := hT0
  have hT := Lib.hid (hI0.below (al0 w (.cells #[.int .i64 kind, .int .i64 at_, .slice A l.length c] 54)))
  have hMB := Lib.hid (mvrow w kind at_ A l.length c)
  have hbW := Lib.hid (hb.below (al0 w (.cells #[.int .i64 kind, .int .i64 at_, .slice A l.length c] 54)))
  have hfb := Lib.hid (hI0.fresh w.heap.size (Nat.le_refl _))
  have hl9 := hb.2.1
  clear hI0 hb
  replace hG := Lib.hid hG
  subst h0
  have hnz : 0 < x.row.length := by omega
  have hrl := hG.out.rl
  obtain ⟨i0, hi0, hz0, hz1, hz2⟩ := info_parts info64
  have hip := pick_lt at_ hnz
  obtain ⟨u, hu, hpu⟩ := pick_eq at_ x.row.length
  obtain ⟨z0, z1, z2, -, -⟩ := hT.out.cells
  obtain ⟨g, cR, e5⟩ : ∃ g c, vr = .slice (some ⟨g, 0, none⟩) x.row.length c := by
    rcases hT.out.row.1.2 with ⟨_, e⟩ | ⟨g, cap, cur, e, _⟩
    · omega
    · exact ⟨g, cap, e⟩
  subst e5
  have hcR : x.row.length ≤ cR ∧ cR ≤ 9223372036854775807 := by
    obtain ⟨_, _, e, q1, q2⟩ := own_form hT.out.row.1
    cases e
    exact ⟨q1, q2⟩
  obtain ⟨cs, hcs, B, cB, hce, hdat⟩ := hT.out.rowd.get hip
  have hcell : ∀ j v, cs[j]? = some v → ∀ W, TwoIs col w0 W t x pa pb (.slice (some ⟨g, 0, none⟩) x.row.length cR) vs vc css xs xc → W.cell? ⟨g, pickT at_ x.row.length * 6 + j, none⟩ = some v := fun j v hj W h => by
    have := h.row.1.cells (g := g) rfl _ _ (h.rowd.cell hcs hj)
    rwa [add_plain, Nat.zero_add] at this
  subst hce
  have p0 := hcell 0 _ rfl _ hT.out
  rw [Nat.add_zero] at p0
  have p1 := hcell 1 _ rfl _ hT.out
  have p2 := hcell 2 _ rfl _ hT.out
  have p3 := hcell 3 _ rfl _ hT.out
  have p4 := hcell 4 _ rfl _ hT.out
  have p5 := hcell 5 _ rfl _ hT.out
  have m1 : (w.alloc (.cells #[.int .i64 3, .int .i64 at_, .slice A l.length c] 54)).cell? ⟨w.heap.size, 1, none⟩ = some (.int .i64 at_) := hMB.out.cell (i := 1) (by omega)
  have m0 : (w.alloc (.cells #[.int .i64 3, .int .i64 at_, .slice A l.length c] 54)).cell? ⟨w.heap.size, 0, none⟩ = some (.int .i64 3) := hMB.out.cell (i := 0) (by omega)
  have r1 : IntKind.u64.wrap ((x.row.length : Nat) : Int) = ((x.row.length : Nat) : Int) := by rw [IntKind.wrap_u64]; omega
  have r2 : ((u : Nat) : Int).tmod ((x.row.length : Nat) : Int) = ((pickT at_ x.row.length : Nat) : Int) := by rw [Int.tmod_eq_emod_of_nonneg (by omega), hpu]; omega
  have r3 : ((u : Nat) : Int) % ((x.row.length : Nat) : Int) = ((pickT at_ x.row.length : Nat) : Int) := by rw [hpu]; omega
  have r4 := wrap_in ((pickT at_ x.row.length : Nat) : Int) (by omega) (by omega)
  have hin : x.row.getD (pickT at_ x.row.length) F0 ∈ x.row := by
    rw [List.getD_eq_getElem?_getD, List.getElem?_eq_getElem hip]
    exact List.getElem_mem hip
  replace hcell := Lib.hid hcell
  replace hcs := Lib.hid hcs
  replace hdat := Lib.hid hdat
  replace hin := Lib.hid hin
  clear hpu hMB hA hbW
  have hcut : Hid (GoodT (cutT x (pickT at_ x.row.length)) n) := Lib.hid (hG.out.cutn _)
  have hS : Hid (moveTw x ⟨3, at_, l⟩ = recvT (cutT x (pickT at_ x.row.length)) (x.row.getD (pickT at_ x.row.length) F0)) := Lib.hid (by unfold moveTw; rw [if_neg (show ¬ (3 : Int) = 0 by decide), if_neg (show ¬ (3 : Int) = 1 by decide), if_neg (show ¬ (3 : Int) = 2 by decide), if_pos (show (3 : Int) = 3 ∨ (3 : Int) = 4 ∨ (3 : Int) = 5 by decide), if_neg he]; show (if (3 : Int) = 5 then _ else _) = _; rw [if_neg (show ¬ (3 : Int) = 5 by decide), if_neg (show ¬ (3 : Int) = 4 by decide)])
  generalize hfx : x.row.getD (pickT at_ x.row.length) F0 = fx at *
  obtain ⟨f, first⟩ := fx
  simp only at hfst
  subst hfst
  replace hfx := Lib.hid hfx
  clear hcs hcell
  go_enter Try.func26, Try.ntmps26
  go_wp2
  generalize w.alloc (.cells #[.int .i64 3, .int .i64 at_, .slice A l.length c] 54) = W at *
  have hlb : w.heap.size < W.heap.size := World.block_lt_of_cell? _ _ m0
  have hlt : t < W.heap.size := hT.out.blk.lt
  have hT8 := Lib.hid ((hT.out.below (al0 W (.cells #[.int .i64 f.v, .int .i64 f.e, .int .i64 f.s, .int .i64 f.a, .slice B f.body.length cB, .bool false] 75))).below (below_drew _))
  have hd8 := Lib.hid ((hdat.out.go (Chg.of_below col 99 (al0 W (.cells #[.int .i64 f.v, .int .i64 f.e, .int .i64 f.s, .int .i64 f.a, .slice B f.body.length cB, .bool false] 75))) (by decide) (Ext.refl _ _)).go (Chg.of_below col 99 (below_drew _)) (by decide) (Ext.refl _ _))
  have w8 := Lib.hid ((wayrow W f false B cB).drew)
  have hc8 := Lib.hid (hT.out.fresh W.heap.size (Nat.le_refl _))
  have m8 : (W.alloc (.cells #[.int .i64 f.v, .int .i64 f.e, .int .i64 f.s, .int .i64 f.a, .slice B f.body.length cB, .bool false] 75)).drew.cell? ⟨w.heap.size, 0, none⟩ = some (.int .i64 3) := ((al0 W _).cell (p := ⟨w.heap.size, 0, none⟩) hlb).trans m0
  have hz8 : W.heap.size < (W.alloc (.cells #[.int .i64 f.v, .int .i64 f.e, .int .i64 f.s, .int .i64 f.a, .slice B f.body.length cB, .bool false] 75)).drew.heap.size := by simp
  clear hdat
  go_region
  go_wp2
  generalize (W.alloc (.cells #[.int .i64 f.v, .int .i64 f.e, .int .i64 f.s, .int .i64 f.a, .slice B f.body.length cB, .bool false] 75)).drew = W8 at *
  clear z0 z1 z2 m0 m1 p0 p1 p2 p3 p4 p5 r1 r2 r3 r4 hu hlt
  obtain ⟨z0, z1, z2, -, -⟩ := hT8.out.cells
  -- the one is struck from the row
  have hcl : css.length = x.row.length := hT8.out.rowd.len
  have hk1 := hT8.out.rowd.take (pickT at_ x.row.length)
  have hk2 := hT8.out.rowd.drop (pickT at_ x.row.length + 1)
  have hlen1 : (css.take (pickT at_ x.row.length)).flatten.length = pickT at_ x.row.length * 6 := by rw [hk1.flen, List.length_take]; omega
  have hlen1' : (css.take (pickT at_ x.row.length + 1)).flatten.length = (pickT at_ x.row.length + 1) * 6 := by rw [(hT8.out.rowd.take (pickT at_ x.row.length + 1)).flen, List.length_take]; omega
  have hlen2 : (css.drop (pickT at_ x.row.length + 1)).flatten.length = (x.row.length - (pickT at_ x.row.length + 1)) * 6 := by rw [hk2.flen, List.length_drop]
  have hcells := hT8.out.row.1.cells (g := g) rfl
  have hglt : g < W8.heap.size := (hT8.out.row.1.lt g rfl).2
  obtain ⟨A2, hA2, hst2⟩ : ∃ A2 : Addr, (if cR = pickT at_ x.row.length + 1 then some (⟨g, 0, none⟩ : Addr) else some ⟨g, (pickT at_ x.row.length + 1) * 6, none⟩) = some A2 ∧ Hid (∀ w', Below W8.heap.size W8 w' → Stand w' (some A2) (x.row.length - (pickT at_ x.row.length + 1)) (css.drop (pickT at_ x.row.length + 1)).flatten) := by
    by_cases e : cR = pickT at_ x.row.length + 1
    · exact ⟨⟨g, 0, none⟩, by rw [if_pos e], fun w' _ => .inl (by omega)⟩
    · refine ⟨⟨g, (pickT at_ x.row.length + 1) * 6, none⟩, by rw [if_neg e], fun w' hB => .inr ⟨_, rfl, fun j u hu => ?_⟩⟩
      have := hcells _ _ (flat_drop hlen1' hu)
      rw [add_plain, Nat.zero_add] at this
      rw [add_plain, hB.cell (p := ⟨g, (pickT at_ x.row.length + 1) * 6 + j, none⟩) hglt]
      exact this
  have hst1 : Hid (∀ w', Below W8.heap.size W8 w' → Stand w' (some ⟨g, 0, none⟩) (pickT at_ x.row.length) (css.take (pickT at_ x.row.length)).flatten) := by
    intro w' hB
    refine .inr ⟨_, rfl, fun j u hu => ?_⟩
    have := hcells _ _ (flat_take hu)
    rw [add_plain, Nat.zero_add] at this
    rw [add_plain, Nat.zero_add, hB.cell (p := ⟨g, j, none⟩) hglt]
    exact this
  have hrow' : Hid ((x.row.take (pickT at_ x.row.length) ++ x.row.drop (pickT at_ x.row.length + 1)).length = pickT at_ x.row.length + (x.row.length - (pickT at_ x.row.length + 1))) := Lib.hid (by rw [List.length_append, List.length_take, List.length_drop]; omega)
  have hset : Hid (∀ w5 A5 c5, Below W8.heap.size W8 w5 → w5.ownsRow W8.heap.size 75 6 (.slice A5 (pickT at_ x.row.length + (x.row.length - (pickT at_ x.row.length + 1))) c5) (pickT at_ x.row.length + (x.row.length - (pickT at_ x.row.length + 1))) ((css.take (pickT at_ x.row.length)).flatten ++ (css.drop (pickT at_ x.row.length + 1)).flatten) →
      ∃ col', Ext W8 col col' ∧ (∀ k, k < W8.heap.size → col k = 0 → (w5.setCell ⟨t, 2, none⟩ (.slice A5 (pickT at_ x.row.length + (x.row.length - (pickT at_ x.row.length + 1))) c5)).heap[k]? = W8.heap[k]?) ∧ W8.heap.size ≤ (w5.setCell ⟨t, 2, none⟩ (.slice A5 (pickT at_ x.row.length + (x.row.length - (pickT at_ x.row.length + 1))) c5)).heap.size ∧
        TwoIs col' w0 (w5.setCell ⟨t, 2, none⟩ (.slice A5 (pickT at_ x.row.length + (x.row.length - (pickT at_ x.row.length + 1))) c5)) t (cutT x (pickT at_ x.row.length)) pa pb (.slice A5 (pickT at_ x.row.length + (x.row.length - (pickT at_ x.row.length + 1))) c5) vs vc (css.take (pickT at_ x.row.length) ++ css.drop (pickT at_ x.row.length + 1)) xs xc) := by
    intro w5 A5 c5 hB hr
    exact setRow2 hT8.out (Wys.app hk2 hk1) hB (by rw [hrow'.out, List.flatten_append]; exact hr)
  have hone1 := Lib.hid (hk1.one)
  have hone2 := Lib.hid (hk2.one)
  have hE0 : Hid ((W8.drew.alloc (.cells #[] 75)).ownsRow W8.heap.size 75 6 (.slice (some ⟨W8.heap.size, 0, none⟩) 0 0) 0 []) := Lib.hid (World.ownsRow_made (W8.drew) #[] 0 (Nat.le_refl _) (by unfold maxLen; omega) rfl)
  have hB0 : Hid (Below W8.heap.size W8 (W8.drew.alloc (.cells #[] 75))) := Lib.hid ((below_drew W8).alloc (Nat.le_refl _) _)
  have hblk := Lib.hid hT8.out.blk
  have hlt8 := hT8.out.blk.lt
  replace hlen1 := Lib.hid hlen1
  replace hlen2 := Lib.hid hlen2
  clear hk1 hk2 hlen1' hcells hcl hrow'
  have k1 := wrap_in (((pickT at_ x.row.length : Nat) : Int) + 1) (by omega) (by omega)
  have k2 : (0 : Int) ≤ ((pickT at_ x.row.length : Nat) : Int) + 1 := by omega
  have k3 : (((pickT at_ x.row.length : Nat) : Int) + 1).toNat = pickT at_ x.row.length + 1 := by omega
  have k4 : ((pickT at_ x.row.length : Nat) : Int) ≤ ((cR : Nat) : Int) := by omega
  have k5 : ((pickT at_ x.row.length : Nat) : Int) + 1 ≤ ((x.row.length : Nat) : Int) := by omega
  have k6 : pickT at_ x.row.length ≤ cR := by omega
  have k7 : pickT at_ x.row.length + 1 ≤ x.row.length := by omega
  generalize hpk : pickT at_ x.row.length = pk at *
  generalize hnR : x.row.length = nR at *
  generalize hy1 : (css.take pk).flatten = Y1 at *
  generalize hy2 : (css.drop (pk + 1)).flatten = Y2 at *
  replace hpk := Lib.hid hpk
  replace hnR := Lib.hid hnR
  replace hy1 := Lib.hid hy1
  replace hy2 := Lib.hid hy2
  go_region_law (first
    | (refine step_gen rfl (.tmp 108) (.tmp 114) 50 rfl W8.heap.size 75 i0 _ 6 64 Try.underlying50 hi0 hz0 hz1 hz2 rfl (by decide) (.slice (some ⟨W8.heap.size, 0, none⟩) 0 0) 0 [] (by rfl) hE0.out (some ⟨g, 0, none⟩) pk cR Y1 (by rfl) hlen1.out (hst1.out _ hB0.out) hone1.out (by unfold maxLen; omega) (by omega) (by simp) ?_; intro A3 c3 w3 hr3 hg3 hat3; have hr3' := Lib.hid hr3; have hB3 := Lib.hid (hB0.out.grown hg3 (by simp) (fun k e => by cases e; exact Nat.le_refl _)); have y2 := (hB3.out.cell (p := ⟨t, 2, none⟩) hlt8).trans z2; clear hr3 hg3 hat3)
    | (refine step_gen rfl (.tmp 115) (.tmp 122) 50 rfl W8.heap.size 75 i0 _ 6 64 Try.underlying50 hi0 hz0 hz1 hz2 rfl (by decide) (.slice A3 pk c3) pk Y1 (by rfl) (by have := hr3'.out; rw [Nat.zero_add, List.nil_append] at this; exact this) (some A2) (nR - (pk + 1)) (cR - (pk + 1)) Y2 (by rfl) hlen2.out (hst2.out _ hB3.out) hone2.out (by unfold maxLen; omega) (by omega) hB3.out.size ?_; intro A5 c5 w5 hr5 hg5 hat5; have hB5 := Lib.hid (hB3.out.grown hg5 hB3.out.size (fun k e => (hr3'.out.lt k (by rw [Nat.zero_add]; exact e)).1)); have q0 := hblk.out.of_block (hB5.out.block t hlt8); have q3 : w5.cell? ⟨t, 2, none⟩ = some (.slice (some ⟨g, 0, none⟩) nR cR) := q0.cell (i := 2) (by omega); have q4 := q0.frozen 2; clear q0 hg5 hat5))
  all_goals
    obtain ⟨col9, hx9, hk9, hs9, hT9⟩ := hset.out w5 A5 c5 hB5.out hr5
    have hlb8 : w.heap.size < W8.heap.size := World.block_lt_of_cell? _ _ m8
    have m9 := (World.cell?_of_block (a := ⟨w.heap.size, 0, none⟩) (hk9 _ hlb8 hfb.out)).trans m8
    have hdd9 := Lib.hid (dat_keep hd8.out hx9 hk9 hs9)
    have w9 := Lib.hid (w8.out.of_block (hk9 _ hz8 hc8.out))
    have hcc9 := Lib.hid ((hx9 _ hz8).trans hc8.out)
    replace hT9 := Lib.hid hT9
    clear hr5 hB5 q3 q4 y2 hB3 hr3' z0 z1 z2 m8 hk9 hx9 hs9 hset hE0 hB0 hblk hlt8 hst1 hst2 hone1 hone2 hA2 hd8 w8 hc8 hT8 hT hlb hlb8 hz8 k1 k2 k3 k4 k5 k6 k7 hglt hlen1 hlen2
    generalize w5.setCell ⟨t, 2, none⟩ (.slice A5 (pk + (nR - (pk + 1))) c5) = W9 at *
    obtain ⟨z0, z1, -, -, -⟩ := hT9.out.cells
    have x0 : W9.cell? ⟨W.heap.size, 0, none⟩ = some (.int .i64 f.v) := w9.out.cell (i := 0) (by omega)
    have x1 : W9.cell? ⟨W.heap.size, 1, none⟩ = some (.int .i64 f.e) := w9.out.cell (i := 1) (by omega)
    have x2 : W9.cell? ⟨W.heap.size, 2, none⟩ = some (.int .i64 f.s) := w9.out.cell (i := 2) (by omega)
    have x3 : W9.cell? ⟨W.heap.size, 3, none⟩ = some (.int .i64 f.a) := w9.out.cell (i := 3) (by omega)
    have x4 : W9.cell? ⟨W.heap.size, 4, none⟩ = some (.slice B f.body.length cB) := w9.out.cell (i := 4) (by omega)
    have x5 : W9.cell? ⟨W.heap.size, 5, none⟩ = some (.bool false) := w9.out.cell (i := 5) (by omega)
    have hGx := hG
    go_wp2_with (fail)
    clear z0 z1 x0 x1 x2 x3 x4 x5 m9
    have hw0 := hin.out
    obtain ⟨_, _, ed, hb9, hd9⟩ := hdd9.out
    cases ed
    have hrl9 := hcut.out.rl
    have hsl9 := hcut.out.sl
    have hff := hGx.out.note f hw0
    have hfl : f.body.length = 0 := by rw [hff.2.2.1]; rfl
    have hf9 : f.s ≤ 9223372036854775807 := by rw [hff.2.1]; decide
    have hgi := hcut.out.ina hff
    have hcn9 : ((cutT x pk)).a.cnt + 2 ≤ 1000000 := by have := hcut.out.acn; omega
    replace hb9 := Lib.hid hb9
    refine (in_any0 f B cB W9 hT9.out.a hb9.out (by omega) (.inl hfl) (by decide) hT9.out.fresh hcn9 hf9).mono ?_
    rintro e W10 ⟨b, us, rfl, ho, hds, hg, hE⟩
    have hT10 := Lib.hid (hT9.out.setA hg (Ext.refl _ _) (hT9.out.fresh.size hg.size) hE)
    have w10 := Lib.hid (w9.out.of_block (hg.block _ w9.out.lt (by rw [hcc9.out]; decide)))
    have hX : Hid (recvT ((cutT x pk)) (f, false) = { (cutT x pk) with a := inS ((cutT x pk)).a f, came := ((cutT x pk)).came ++ inL ((cutT x pk)).a f }) := Lib.hid (by unfold recvT; rw [if_neg (show ¬ ((f, false) : Fm × Bool).2 = true from Bool.false_ne_true)])
    have hG' : Hid (GoodT { (cutT x pk) with a := inS ((cutT x pk)).a f, came := ((cutT x pk)).came ++ inL ((cutT x pk)).a f } (n + 1)) := Lib.hid hgi.2.1
    have hL0 := hgi.1
    rw [hL0] at ho hds hX hG'
    generalize hL9 : ([] : List (List Nat)) = L9 at *
    generalize inE ((cutT x pk)).a f = E9 at *
    generalize hs9 : inS ((cutT x pk)).a f = S9 at *
    have hLn : Hid (L9.length = 0) := Lib.hid (by rw [← hL9]; rfl)
    clear hs9 hL0 hL9 hgi
    have hL1 : L9.length ≤ 400 := by
      have q1 := hG'.out.same.1
      have q2 := hG'.out.sl
      have q3 : (((cutT x pk)).came ++ L9).length ≤ n + 1 := Nat.le_trans q1 q2
      rw [List.length_append] at q3
      omega
    obtain ⟨A9, c9, rfl, h91, h92⟩ := own_form ho
    have hcl : ((cutT x pk)).came.length ≤ 400 := by have := hcut.out.same.1; omega
    have hul : us.length = L9.length * 1 := by have := ho.1; omega
    have hstd : Stand W10 A9 L9.length us := by
      rcases ho.2 with ⟨_, e0⟩ | ⟨g0, cap0, cur0, e0, _⟩
      · exact .inl e0
      · cases e0
        exact .inr ⟨_, rfl, ho.cells (g := g0) rfl⟩
    obtain ⟨-, -, -, -, z4⟩ := hT10.out.cells
    have v5 : W10.cell? ⟨W.heap.size, 5, none⟩ = some (.bool false) := w10.out.cell (i := 5) (by omega)
    have hO10 := Lib.hid hT10.out.came.1
    have hds10 := Lib.hid hds
    have hone := Lib.hid (Dats.one hds)
    replace hstd := Lib.hid hstd
    have lt10 := hT10.out.blk.lt
    obtain ⟨j0, hj0, jz0, jz1, jz2⟩ := info_parts info24
    clear ho hds hg hE hw0 hff hfl hf9 hcn9 hb9 hdd9 hcut hT9 w9 hin
    have hd0 : decide (0 < L9.length) = false := by rw [hLn.out]; rfl
    have hd1 : decide ((0 : Int) < ((L9.length : Nat) : Int)) = false := by rw [hLn.out]; rfl
    go_wp2_with (at_builtin; refine wpList_gen rfl (.tmp 158) (.tmp 159) 25 rfl 0 29 j0 (.slice none 0 0) 1 24 Try.underlying25 hj0 jz0 jz1 jz2 rfl (by decide) vc ((cutT x pk)).came.length xc rfl hO10.out A9 L9.length c9 us rfl hul hstd.out hone.out ?e1 ?e2 (Nat.zero_le _) ?_)
    case e1 => unfold maxLen; omega
    case e2 => omega
    intro A11 c11 w11 hr11 hg11 hat11
    have q0 := far hT10.out (Below.refl _ _) (.inr (.inr rfl)) hg11
    have q4 : w11.cell? ⟨t, 4, none⟩ = some vc := q0.cell (i := 4) (by omega)
    have q5 := q0.frozen 4
    obtain ⟨col9, pa9, pb9, vr9, vs9, vc9, css9, xs9, xc9, hTw⟩ := addCame hT10.out hds10.out hr11 hg11 hat11
    replace hTw := Lib.hid hTw
    clear q0 hr11 hg11 hat11 hT10 hds10 hO10 z4 v5 hone hstd w10
    go_wp2
    clear q4 q5
    generalize w11.setCell ⟨t, 4, none⟩ (.slice A11 (((cutT x pk)).came.length + L9.length) c11) = W12 at *
    rw [← hS.out] at hX
    generalize hXX : ({ (cutT x pk) with a := S9, came := ((cutT x pk)).came ++ L9 } : Tw) = XX at *
    clear hXX
    obtain ⟨g1, g2⟩ := hG'.out.same
    have hsl := hG'.out.sl
    obtain ⟨A5, k5, e5, hq5⟩ := LQ.of hTw.out.sent.1 hTw.out.sentd (by omega)
    obtain ⟨A6, k6, e6, hq6⟩ := LQ.of hTw.out.came.1 hTw.out.camed (by omega)
    obtain ⟨-, -, -, z3, z4⟩ := hTw.out.cells
    obtain ⟨A5', k5', e5', hk5, hk5'⟩ := own_form hTw.out.sent.1
    rw [e5] at e5'
    cases e5'
    have hq5' : LQ W12 A5 (XX).came.length (XX).came := by
      have := LQ.take hq5 g1
      rwa [← g2] at this
    rw [e5] at z3
    rw [e6] at z4
    have d1 : decide ((((XX).came.length : Nat) : Int) ≤ (((XX).sent.length : Nat) : Int)) = true := by simpa using g1
    have g1' : (((XX).came.length : Nat) : Int) ≤ (((XX).sent.length : Nat) : Int) := by omega
    have d1n : decide ((XX).came.length ≤ (XX).sent.length) = true := by simpa using g1
    have hfin : Hid (∀ nq, Did w0 t x ⟨3, at_, l⟩ n (.returned (.bool true)) (World.drewN W12 nq)) := Lib.hid fun nq => ⟨rfl, by rw [hX.out]; exact ⟨_, _, _, _, _, _, _, _, _, hTw.out.below (lnkI.below_drewN _ nq)⟩, by rw [hX.out]; exact hG'.out⟩
    replace hq5' := Lib.hid hq5'
    replace hq6 := Lib.hid hq6
    clear hTw hG' hX hq5 e5 e6 g2 hsl
    generalize (XX).came = CC at *
    generalize (XX).sent.length = nS at *
    generalize hnC : CC.length = nC at *
    replace hnC := Lib.hid hnC
    have g3 : ((nC : Nat) : Int) ≤ ((k5 : Nat) : Int) := by omega
    have g4 : (0 : Int) ≤ ((nC : Nat) : Int) := by omega
    have g5 : nC ≤ k5 := by omega
    go_wp2
    go_quiet ((go_at_call 16; exact quietN (sames_q _ _ _ _ _ CC _ (lqN hq6.out _) (lqN hq5'.out _))))
    go_wp2
    go_ret
    exact hfin.out nq
end Go.Proofs.Ythiadkpndemeeaa.lnkN
