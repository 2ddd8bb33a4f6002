/- LinkPlays: the law's walk. -/
import Derived.Test.YthiadkpndemeeaaLnkPg
import Derived.Deep.CutBlock
import Derived.Deep.CutRange
namespace Go.Proofs.Ythiadkpndemeeaa.lnkPh
open Go.ChangeShapes Go.WideShapes Go.ChangeAt Go.RowKit Go.Deep
open numM rowA byt numA numB numC lnkA lnkB lnkC lnkD lnkE lnkF lnkG lnkH lnkI lnkL lnkM lnkP lnkQ lnkR lnkS lnkT lnkZ lnkPa lnkPb lnkPc lnkPd lnkPe lnkPf lnkPo lnkPg

/-- every block -/
def TT (_ : Nat) : Prop := True
theorem pl_bel {w W : World} {p q : Nat} {s : St} {d : Dm} (h : PlAt TT w W p q s d) : Below w.heap.size w W := by
  obtain ⟨col, vs, vc, xs, css, h⟩ := h
  exact ⟨h.bel.os, h.bel.tape, h.bel.output, h.bel.size, fun k hk => h.bel.block k hk trivial⟩
theorem pl_new {w w1 : World} {ep : Int} {p : Nat} (hB : Below w.heap.size w w1) (hlo : w.heap.size ≤ p) (hp : p < w1.heap.size) (hc : ∀ col c, (∀ k, w.heap.size ≤ k → k < w1.heap.size → col k = c) → EndAt col c w1 p (St.new ep)) :
    PlAt TT w (w1.alloc (.cells #[.int .i64 ep, .slice none 0 0, .int .i64 0, .slice none 0 0, .int .i64 0] 28)) p w1.heap.size (St.new ep) (Dm.new ep) := by
  have hs := hB.size
  have hal := al0 w1 (.cells #[.int .i64 ep, .slice none 0 0, .int .i64 0, .slice none 0 0, .int .i64 0] 28)
  have hr : (w1.alloc (.cells #[.int .i64 ep, .slice none 0 0, .int .i64 0, .slice none 0 0, .int .i64 0] 28)).rowIs w1.heap.size 28 5 (cD (Dm.new ep) (.slice none 0 0) (.slice none 0 0)) := by
    have h := World.rowIs_alloc w1 #[.int .i64 ep, .slice none 0 0, .int .i64 0, .slice none 0 0, .int .i64 0] 28 (cD (Dm.new ep) (.slice none 0 0) (.slice none 0 0)) (fun i hi => ?_)
    · exact h
    · have : i = 0 ∨ i = 1 ∨ i = 2 ∨ i = 3 ∨ i = 4 := by simp at hi; omega
      rcases this with rfl | rfl | rfl | rfl | rfl <;> rfl
  refine ⟨fun k => if k < w.heap.size then 0 else if k < w1.heap.size then 1 else if k = w1.heap.size then 3 else 0, .slice none 0 0, .slice none 0 0, [], [], ?_, ?_, ?_, ?_, ?_⟩
  · exact (hc _ 1 (fun k h1 h2 => by show (if k < w.heap.size then 0 else if k < w1.heap.size then 1 else if k = w1.heap.size then 3 else 0) = 1; rw [if_neg (by omega), if_pos h2])).below hal
  · exact ⟨hr, by show (if w1.heap.size < w.heap.size then 0 else if w1.heap.size < w1.heap.size then 1 else if w1.heap.size = w1.heap.size then 3 else 0) = 3; rw [if_neg (by omega), if_neg (by omega), if_pos rfl],
      ⟨World.ownsRow_nil _ _ _ 1, fun k e => by cases e⟩, trivial, ⟨World.ownsRow_nil _ _ _ 2, fun k e => by cases e⟩, trivial, Nat.le_refl _, by simp [Dm.new], by simp [Dm.new], by simp [Dm.new], by simp [Dm.new]⟩
  · intro k hk
    have : w1.heap.size + 1 ≤ k := by simpa using hk
    show (if k < w.heap.size then 0 else if k < w1.heap.size then 1 else if k = w1.heap.size then 3 else 0) = 0
    rw [if_neg (by omega), if_neg (by omega), if_neg (by omega)]
  · have hb := trans0 hB hal
    exact ⟨hb.os, hb.tape, hb.output, hb.size, fun k hk _ => hb.block k hk⟩
  · intro i hi _
    show (if i < w.heap.size then 0 else if i < w1.heap.size then 1 else if i = w1.heap.size then 3 else 0) = 0
    rw [if_pos hi]
/-- What the loop keeps of the two. -/
structure Good (ep : Int) (s : St) (d : Dm) (k : Nat) : Prop where
  rel : Rel s d
  ep_ : s.ep = ep
  cnt : s.cnt ≤ 2 * k
  sl : d.sent.length ≤ k
  cl : d.came.length ≤ k
theorem Good.new (ep : Int) : Good ep (St.new ep) (Dm.new ep) 0 := ⟨Rel.new ep, rfl, by simp [St.new], by simp [Dm.new], by simp [Dm.new]⟩
theorem Good.next {ep : Int} {s : St} {d : Dm} {k : Nat} (h : Good ep s d k) : Good ep s d (k + 1) := ⟨h.rel, h.ep_, by have := h.cnt; omega, by have := h.sl; omega, by have := h.cl; omega⟩
theorem Good.send {ep : Int} {s : St} {d : Dm} {k : Nat} (h : Good ep s d k) (l : List Nat) : Good ep (sendS s l) (sendD d l) (k + 1) := by
  have h3 := h.cnt
  have h4 := h.sl
  have h5 := h.cl
  refine ⟨h.rel.send l, ?_, ?_, ?_, ?_⟩
  · unfold sendS; split
    · exact h.ep_
    split
    · exact h.ep_
    · exact h.ep_
  · unfold sendS; split
    · omega
    split
    · omega
    · show s.cnt + 1 ≤ _; omega
  · unfold sendD; split
    · omega
    split
    · omega
    · show (d.sent ++ [l]).length ≤ _; rw [List.length_append]; simp; omega
  · unfold sendD; split
    · omega
    split
    · omega
    · show d.came.length ≤ _; omega
theorem Good.inn {ep : Int} {s : St} {d : Dm} {k n : Nat} {f : Fm} (h : Good ep s d k) (hr : Rel (inS s f) (inD d f n)) : Good ep (inS s f) (inD d f n) (k + 1) := by
  have h2 := h.ep_
  have h3 := h.cnt
  have h4 := h.sl
  have h5 := h.cl
  obtain ⟨-, a2, a3⟩ := ack_got s f.a
  obtain ⟨b1, b2, -⟩ := keep_cnt (ackS s f.a) f.s.toNat f.body
  have d1 : (ackD d f.a).sent = d.sent ∧ (ackD d f.a).came = d.came := by unfold ackD; split <;> exact ⟨rfl, rfl⟩
  have d2 : (keepD (ackD d f.a) f.s.toNat f.body).sent = d.sent ∧ (keepD (ackD d f.a) f.s.toNat f.body).came.length ≤ d.came.length + 1 := by
    unfold keepD
    split
    · rw [d1.1, d1.2]; exact ⟨rfl, by omega⟩
    · refine ⟨d1.1, ?_⟩
      show ((ackD d f.a).came ++ _).length ≤ _
      rw [d1.2, List.length_append]; simp
  refine ⟨hr, ?_, ?_, ?_, ?_⟩
  · unfold inS
    split
    · exact h2
    split
    · exact h2
    split
    · rw [a3]; exact h2
    split
    · rw [a3]; exact h2
    · show (keepS (ackS s f.a) f.s.toNat f.body).ep = ep
      rw [b2, a3]; exact h2
  · unfold inS
    split
    · omega
    split
    · omega
    split
    · rw [a2]; omega
    split
    · rw [a2]; omega
    · show (keepS (ackS s f.a) f.s.toNat f.body).cnt + 1 ≤ _
      omega
  · unfold inD
    split
    · omega
    split
    · omega
    split
    · rw [d1.1]; omega
    split
    · rw [d1.1]; omega
    · show (keepD (ackD d f.a) f.s.toNat f.body).sent.length ≤ _
      rw [d2.1]; omega
  · unfold inD
    split
    · omega
    split
    · omega
    split
    · rw [d1.2]; omega
    split
    · rw [d1.2]; omega
    · show (keepD (ackD d f.a) f.s.toNat f.body).came.length ≤ _
      omega
theorem Good.len {s : St} {d : Dm} {f : Fm} {ls : List (List Nat)} (h17 : ls.length ≤ 17) (hZ : inL s f = inL' d f ls) : (inL s f).length ≤ 100 := by
  rw [hZ]
  unfold inL'
  split
  · simp
  split
  · simp
  split
  · simp
  split
  · simp
  · omega
/-- What the law's last test loads. -/
abbrev SR (q : Nat) (v : Value) (a g : Nat) (w : World) : Prop := w.cell? ⟨q, 1, none⟩ = some v ∧ w.cell? ⟨q, 2, none⟩ = some (.int .i64 a) ∧ w.cell? ⟨q, 4, none⟩ = some (.int .i64 g) ∧ q < w.heap.size
theorem SR.below {q a g : Nat} {v : Value} {w w' : World} (h : SR q v a g w) (hB : Below w.heap.size w w') : SR q v a g w' :=
  ⟨(hB.cell (p := ⟨q, 1, none⟩) h.2.2.2).trans h.1, (hB.cell (p := ⟨q, 2, none⟩) h.2.2.2).trans h.2.1, (hB.cell (p := ⟨q, 4, none⟩) h.2.2.2).trans h.2.2.1, Nat.lt_of_lt_of_le h.2.2.2 hB.size⟩
set_option maxRecDepth 100000 in
set_option maxHeartbeats 4000000 in
theorem plays (ep : Int) (A : Option Addr) (n c : Nat) (ops : List lnkPo.Op) (w : World) (h1 : Rs w QO 6 A n ops) :
    Calls Try.prog 3 #[.int .i64 ep, .slice A n c] w fun e w' => e = .returned (.bool true) ∧ Below w.heap.size w w' := by
  have hn9 := h1.2.1
  replace h1 := Lib.hid h1
  go_enter Try.func3, Try.ntmps3
  go_wp2_with (fail)
  refine (new_any ep w).mono ?_
  rintro e w1 ⟨p, rfl, hB1, hlo, hp, hc1⟩
  have hT := Lib.hid (pl_new hB1 hlo hp hc1)
  clear hB1 hc1
  go_wp2
  generalize w1.heap.size = q at *
  go_loopw [7] (fun i wr => ∃ (k : Nat) (s : St) (d : Dm), k ≤ n ∧ k ≤ 200 ∧ i = .int .i64 k ∧ Hid (PlAt TT w wr p q s d) ∧ Hid (Good ep s d k)) (fun i _ => n - (intOf i).toNat)
  case atStart => exact ⟨0, _, _, by omega, by omega, rfl, hT, Lib.hid (Good.new ep)⟩
  case round =>
    clear hT
    obtain ⟨k, s, d, hk, hk3, rfl, hT, hG⟩ := hrel
    by_cases hlt : k < n ∧ k < 200
    · obtain ⟨hlt, h200⟩ := hlt
      obtain ⟨b, off, rfl, hbl, f0, B, cB, ⟨f1, f2, f3, f4, f5⟩, hbb, hbc, hbm, hs9⟩ : ∃ b off, A = some ⟨b, off, none⟩ ∧ b < w.heap.size ∧ QO w b (off + k * 6) (ops.getD k default) := by
        rcases h1.out.2.2 with h0 | ⟨b, off, e, h3, h4⟩
        · omega
        · exact ⟨b, off, e, h3, h4 k hlt⟩
      generalize ops.getD k default = M at *
      obtain ⟨kind, ⟨fv, fe, fs, fa, l⟩⟩ := M
      simp only at f0 f1 f2 f3 f4 f5 hbb hbc hs9
      have hBw := pl_bel hT.out
      have ge : ∀ o, wr.cell? ⟨b, o, none⟩ = w.cell? ⟨b, o, none⟩ := fun o => hBw.cell (p := ⟨b, o, none⟩) hbl
      rw [← ge] at f0 f1 f2 f3 f4 f5
      have hbT := Lib.hid (hbb.take (min l.length 300) (by omega))
      have hl9 := hbb.2.1
      have hbc' : l.length ≤ cB := hbc
      obtain ⟨L, T, hTL, hL3, hbT', hLe⟩ : ∃ (L : Nat) (T : List Nat), T.length = L ∧ L ≤ 300 ∧ BL w B L T ∧ min l.length 300 = L := ⟨min l.length 300, l.take (min l.length 300), by rw [List.length_take]; omega, by omega, hbT.out, rfl⟩
      subst hTL
      have hlt3 : T.length = 0 ∨ ∀ y, B = some y → y.block < w.heap.size ∧ TT y.block := by
        rcases hbT'.2.2.2 with h0 | ⟨bb, oo, rfl, hlb, _⟩
        · exact .inl h0
        · exact .inr fun y e => by cases e; exact ⟨hlb, trivial⟩
      replace hbT := Lib.hid hbT'
      replace hlt3 := Lib.hid hlt3
      clear ge hBw hbb hbc hbT'
      go_wp2_with (fail)
      refine (short_any B l.length cB _ hbc' (by omega)).mono ?_
      rintro e w5 ⟨rfl, rfl⟩
      rw [hLe]
      have hX := Lib.hid (ox_new hT.out kind ⟨fv, fe, fs, fa, T⟩ B cB)
      clear hT
      simp only at hX
      go_upto_block 2 with fail
      generalize hWe : wr.alloc (.cells #[.int .i64 kind, .int .i64 fv, .int .i64 fe, .int .i64 fs, .int .i64 fa, .slice B T.length cB] 33) = W at *
      clear hWe f0 f1 f2 f3 f4 f5 hbc' hLe hbm
      generalize wr.heap.size = o at *
      go_cut [9, 10, 11, 12, 13] from 42 to 114 (fun u9 u10 u11 u12 u13 wx => Hid (∃ s' d', PlAt TT w wx p q s' d' ∧ Good ep s' d' (k + 1)))
      case first =>
        have hbW := Lib.hid (hbT.out.below (pl_bel hX.out.at_))
        have hrel := Lib.hid hG.out.rel
        have hcn := hG.out.cnt
        have hsl := hG.out.sl
        have hcl := hG.out.cl
        by_cases k0 : kind = 0
        · subst k0
          have hc5 : W.cell? ⟨o, 5, none⟩ = some (.slice B T.length cB) := hX.out.ob.cells.2.2.2.2.2
          have hSd : Hid (W.drew.cell? ⟨o, 5, none⟩ = some (.slice B T.length cB)) := Lib.hid hc5
          have hXd := Lib.hid (hX.out.below (below_drew W))
          have hbWd : Hid (BL W.drew B T.length T) := Lib.hid hbW.out
          have hGn := Lib.hid (hG.out.send T)
          have hE := Lib.hid (hrel.out.sendE_eq T).symm
          clear hG hX hrel
          go_upto_region 11 with fail
          go_region_held3 (fun w' => w'.cell? ⟨o, 5, none⟩ = some (.slice B T.length cB))
            (first | with_reducible exact hSd.out | with_reducible assumption | fail)
            (first
              | (go_at_call 12; ((with_reducible refine (send_o B cB T hXd.out hbWd.out (by omega)).mono ?_); rintro e w3 ⟨rfl, hX3⟩; have hc3 : w3.cell? ⟨o, 5, none⟩ = some (.slice B T.length cB) := hX3.ob.cells.2.2.2.2.2; replace hX3 := Lib.hid hX3))
              | (go_at_call 13; ((with_reducible refine (sendd_o B cB T hX3.out (hbT.out.below (pl_bel hX3.out.at_)) (by omega) hE.out).mono ?_); rintro e w4 ⟨rfl, hX4⟩; have hc4 : w4.cell? ⟨o, 5, none⟩ = some (.slice B T.length cB) := hX4.ob.cells.2.2.2.2.2; replace hX4 := Lib.hid hX4))
              | fail)
          have hr : Hid (∃ s' d', PlAt TT w w4 p q s' d' ∧ Good ep s' d' (k + 1)) := Lib.hid ⟨_, _, hX4.out.at_, hGn.out⟩
          clear hX4 hGn hE hXd hbW hbWd
          go_wp2
          go_meet
          exact hr
        by_cases k1 : kind = 1
        · subst k1
          obtain ⟨ls, h17, hround, hZ, hRn⟩ := rel_in hrel.out ⟨fv, fe, fs, fa, T⟩
          have hL100 := Good.len h17 hZ
          have hGn := Lib.hid (hG.out.inn hRn)
          have hEe := (hrel.out.inE_eq ⟨fv, fe, fs, fa, T⟩).symm
          have hgl : d.got ≤ 900000 := by
            obtain ⟨col, vs, vc, xs, css, hI⟩ := hX.out.at_
            obtain ⟨v, m, ys, n9, D, hE9⟩ := hI.a
            have := hE9.ok.got
            have := hrel.out.got
            omega
          obtain ⟨c0, c1, c2, c3, c4, c5⟩ := hX.out.ob.cells
          simp only at c0 c1 c2 c3 c4 c5
          have hin := Lib.hid (in_o (W := W) B cB ⟨fv, fe, fs, fa, T⟩ hX.out hbT.out hlt3.out (by show T.length ≤ _; omega) (by omega) hs9 hL100)
          have hind := Lib.hid (fun (col : Nat → Nat) vs vc xs css W' (hX3 : OxIs col TT w W' p q (inS s ⟨fv, fe, fs, fa, T⟩) d vs vc xs css o 1 ⟨fv, fe, fs, fa, T⟩ B cB) => ind_o ls ⟨fv, fe, fs, fa, T⟩ B cB hX3 hbT.out hlt3.out (by omega) hgl hs9 (by show T.length ≤ _; omega) h17 hround hZ.symm hEe)
          clear hG hrel hRn hround hZ hEe hgl hL100 h17
          generalize inL s ⟨fv, fe, fs, fa, T⟩ = Z at *
          generalize inE s ⟨fv, fe, fs, fa, T⟩ = E at *
          generalize inS s ⟨fv, fe, fs, fa, T⟩ = s3 at *
          generalize inD d ⟨fv, fe, fs, fa, T⟩ ls.length = d3 at *
          go_wp2_with (fail)
          refine hin.out.mono ?_
          rintro e w3 ⟨A9, c9, col, vs, vc, xs, css, rfl, hX3, hK3⟩
          obtain ⟨y0, y1, y2, y3, y4, y5⟩ := hX3.ob.cells
          simp only at y0 y1 y2 y3 y4 y5
          have hd3 := Lib.hid (hind.out _ _ _ _ _ _ hX3)
          replace hK3 := Lib.hid hK3
          clear hX hX3 hin hind c0 c1 c2 c3 c4 c5
          go_wp2_with (fail)
          refine hd3.out.mono ?_
          rintro e w4 ⟨A8, c8, rfl, hq8, hKp, hX4⟩
          have hq9 := Lib.hid (hK3.out.keep hKp)
          have hr : Hid (∀ m, ∃ s' d', PlAt TT w (w4.drewN m) p q s' d' ∧ Good ep s' d' (k + 1)) := Lib.hid fun m => ⟨_, _, hX4.at_.below (lnkI.below_drewN w4 m), hGn.out⟩
          replace hq8 := Lib.hid hq8
          clear hKp hX4 hK3 hd3 hGn y0 y1 y2 y3 y4 y5
          go_wp2_with (fail)
          refine (sames_q A9 Z.length c9 A8 c8 Z w4 hq9.out hq8.out).mono ?_
          rintro e w5 ⟨rfl, m, rfl⟩
          have hr5 := Lib.hid (hr.out m)
          clear hr hq9 hq8
          go_wp2
          go_meet
          exact hr5
        by_cases k2 : kind = 2
        · subst k2
          have hnote : Hid (Calls Try.prog 17 #[.pointer (some ⟨p, 0, none⟩), .slice B T.length cB] W fun e w' => ∃ A2 c2, e = .returned (.agg #[.int .i64 0, .int .i64 ep, .int .i64 0, .int .i64 d.got, .slice A2 T.length c2]) ∧ BL w' A2 T.length T ∧ Below W.heap.size W w') := by
            obtain ⟨col, vs, vc, xs, css, hI⟩ := hX.out.at_
            refine Lib.hid ((note_any B T.length cB T W hI.a hbW.out (by omega)).mono ?_)
            rintro e w' ⟨A2, c2, rfl, hO2, hB2⟩
            refine ⟨A2, c2, ?_, own_bl hO2, hB2⟩
            have g1 := hG.out.ep_
            have g2 := hrel.out.got
            unfold cf
            simp only
            rw [g1, g2]
          obtain ⟨c0, c1, c2, c3, c4, c5⟩ := hX.out.ob.cells
          simp only at c0 c1 c2 c3 c4 c5
          have hGn := Lib.hid hG.out.next
          have hgc : Hid (∀ w', Below W.heap.size W w' → w'.cell? ⟨q, 4, none⟩ = some (.int .i64 d.got) ∧ q < w'.heap.size ∧ w'.cell? ⟨o, 5, none⟩ = some (.slice B T.length cB) ∧ o < w'.heap.size) := Lib.hid fun w' hB => by
            have hX' := hX.out.below hB
            obtain ⟨col, vs, vc, xs, css, hI⟩ := hX'.at_
            exact ⟨hI.b.cells.2.2.2.2, hI.b.row.lt, hX'.ob.cells.2.2.2.2.2, World.rowIs.lt hX'.ob⟩
          have hP := Lib.hid (fun w' (hB : Below W.heap.size W w') => (hX.out.below hB).at_)
          clear hG hrel hX
          go_wp2_with (fail)
          refine hnote.out.mono ?_
          rintro e w3 ⟨A2, c2', rfl, hb2, hB2⟩
          obtain ⟨y1, y2, y3, y4⟩ := hgc.out w3 hB2
          have hb3 := Lib.hid (hb2.below (al0 w3 (.cells #[.int .i64 0, .int .i64 ep, .int .i64 0, .int .i64 d.got, .slice A2 T.length c2'] 31)))
          have hbw3 := Lib.hid (hbW.out.below (trans0 hB2 (al0 w3 (.cells #[.int .i64 0, .int .i64 ep, .int .i64 0, .int .i64 d.got, .slice A2 T.length c2'] 31))))
          have hr : Hid (∃ s' d', PlAt TT w (w3.alloc (.cells #[.int .i64 0, .int .i64 ep, .int .i64 0, .int .i64 d.got, .slice A2 T.length c2'] 31)) p q s' d' ∧ Good ep s' d' (k + 1)) := Lib.hid ⟨_, _, hP.out _ (trans0 hB2 (al0 _ _)), hGn.out⟩
          clear hgc hP hnote hb2 hB2 c0 c1 c2 c3 c4 c5 hGn
          go_wp2_with (fail)
          refine (same_any A2 T.length c2' T B T.length cB _ hb3.out hbw3.out).mono ?_
          rintro e w5 ⟨rfl, rfl⟩
          clear hb3 hbw3
          go_wp2
          go_meet
          exact hr
        · have hr : Hid (∃ s' d', PlAt TT w W p q s' d' ∧ Good ep s' d' (k + 1)) := Lib.hid ⟨_, _, hX.out.at_, hG.out.next⟩
          obtain ⟨c0, -⟩ := hX.out.ob.cells
          have e0 : (kind == 0) = false := by rw [beq_eq_false_iff_ne]; exact k0
          have e1 : (kind == 1) = false := by rw [beq_eq_false_iff_ne]; exact k1
          have e2 : (kind == 2) = false := by rw [beq_eq_false_iff_ne]; exact k2
          clear hX hG hrel
          go_wp2
          go_meet
          exact hr
      case rest =>
      obtain ⟨s9, d9, hP, hG9⟩ := hcut.out
      clear hcut hX hG hbT hlt3
      obtain ⟨col, vs, vc, xs, css, hI⟩ := id hP
      obtain ⟨-, z1, z2, -, z4⟩ := hI.b.cells
      obtain ⟨A0, c0, rfl, -, -⟩ := own_form hI.b.sent.1
      obtain ⟨k1, k2, k3, k4, k5⟩ := hI.ok
      have hrel := hG9.rel
      have hwl := hrel.wlen
      have hlst := hrel.last
      have hsl9 := hG9.sl
      have hep := hG9.ep_
      have ws := wrap_in ((d9.sent.length : Int) - d9.acked) (by omega) (by omega)
      have hof : outF s9 = outD d9 := funext hrel.out
      have h16 : outN s9 ≤ 16 := by unfold outN; omega
      have hS := Lib.hid (show SR q _ _ _ wc from ⟨z1, z2, z4, hI.b.row.lt⟩)
      have hSd : Hid (SR q (.slice A0 d9.sent.length c0) d9.acked d9.got wc.drew) := Lib.hid hS.out
      have kO : ∀ w' : World, Below wc.heap.size wc w' → Calls Try.prog 20 #[.pointer (some ⟨p, 0, none⟩)] w' fun e w'' => ∃ B, e = .returned (.slice B (outN s9) (outN s9)) ∧ FQ w'' B (outN s9) (outD d9) ∧ Below wc.heap.size wc w'' := fun w' hw' => (out_any w' (hI.below hw').a).mono fun _ _ ⟨v, he, hR, hb⟩ => by
        obtain ⟨B, rfl, hq⟩ := FQ.of hR (by omega)
        exact ⟨B, he, by rw [← hof]; exact hq, trans0 hw' hb⟩
      have kP : ∀ w' : World, Below wc.heap.size wc w' → Calls Try.prog 21 #[.pointer (some ⟨q, 0, none⟩)] w' fun e w'' => ∃ B cB, e = .returned (.slice B (outN s9) cB) ∧ FQ w'' B (outN s9) (outD d9) ∧ Below wc.heap.size wc w'' ∧ Below w'.heap.size w' w'' := fun w' hw' => (outd_any (hI.below hw').b (by omega)).mono fun _ _ ⟨B, cB, N, hN, he, hq, hb⟩ => by
        have : N = outN s9 := by have := hrel.acked; omega
        subst this
        exact ⟨B, cB, he, hq, trans0 hw' hb, hb⟩
      have kL : ∀ (w' : World) B1 B2 c2, Below wc.heap.size wc w' → FQ w' B1 (outN s9) (outD d9) → FQ w' B2 (outN s9) (outD d9) → Calls Try.prog 19 #[.slice B1 (outN s9) (outN s9), .slice B2 (outN s9) c2] w' fun e w'' => e = .returned (.bool true) ∧ Below wc.heap.size wc w'' := fun w' B1 B2 c2 hw' hq1 hq2 => (alike_any B1 _ _ B2 c2 (outD d9) w' hq1 hq2).mono fun _ _ ⟨he, hb⟩ => ⟨he, trans0 hw' hb⟩
      have kW : ∀ w' : World, Below wc.heap.size wc w' → Calls Try.prog 22 #[.pointer (some ⟨p, 0, none⟩)] w' fun e w'' => e = .returned (.int .i64 ((d9.sent.length : Int) - d9.acked)) ∧ Below wc.heap.size wc w'' := fun w' hw' => (waiting_any w' (hI.below hw').a).mono fun _ _ ⟨he, hb⟩ => ⟨by rw [he, show ((s9.wait.length : Nat) : Int) = (d9.sent.length : Int) - d9.acked by omega], by rw [← hb]; exact hw'⟩
      have kG : ∀ w' : World, Below wc.heap.size wc w' → Calls Try.prog 23 #[.pointer (some ⟨p, 0, none⟩)] w' fun e w'' => e = .returned (.int .i64 d9.got) ∧ Below wc.heap.size wc w'' := fun w' hw' => (got_any w' (hI.below hw').a).mono fun _ _ ⟨he, hb⟩ => ⟨by rw [he, hrel.got], by rw [← hb]; exact hw'⟩
      have kE : ∀ w' : World, Below wc.heap.size wc w' → Calls Try.prog 24 #[.pointer (some ⟨p, 0, none⟩)] w' fun e w'' => e = .returned (.int .i64 ep) ∧ Below wc.heap.size wc w'' := fun w' hw' => (epoch_any w' (hI.below hw').a).mono fun _ _ ⟨he, hb⟩ => ⟨by rw [he, hep], by rw [← hb]; exact hw'⟩
      have hfin := Lib.hid (fun w' (hB : Below wc.heap.size wc w') => hP.below hB)
      replace hG9 := Lib.hid hG9
      replace kO := Lib.hid kO
      replace kP := Lib.hid kP
      replace kL := Lib.hid kL
      replace kW := Lib.hid kW
      replace kG := Lib.hid kG
      replace kE := Lib.hid kE
      clear hP hI k1 k2 k3 k4 k5 hrel hwl hlst hsl9 hep hof h16
      generalize outN s9 = N9 at *
      generalize d9.sent.length = n9 at *
      generalize d9.acked = a9 at *
      generalize d9.got = g9 at *
      generalize outD d9 = O9 at *
      go_upto_region 22 with fail
      go_region_held3 (SR q (.slice A0 n9 c0) a9 g9)
        (first | with_reducible exact hSd.out | with_reducible exact hS.out | with_reducible assumption | with_reducible exact SR.below hS.out (by assumption) | fail)
        (first
          | (go_at_call 20; ((with_reducible refine (kO.out _ (by first | assumption | exact (Below.refl _ _).drew)).mono ?_); rintro e w2 ⟨B2, rfl, hF2, hBx2⟩))
          | (go_at_call 21; ((with_reducible refine (kP.out _ (by first | assumption | exact (Below.refl _ _).drew)).mono ?_); rintro e w3 ⟨B3, c3, rfl, hF3, hBx3, hb3⟩))
          | (go_at_call 19; ((with_reducible refine (kL.out _ _ _ _ (by first | assumption | exact (Below.refl _ _).drew) (hF2.below hb3) hF3).mono ?_); rintro e w4 ⟨rfl, hBx4⟩))
          | (go_at_call 22; ((with_reducible refine (kW.out _ (by first | assumption | exact (Below.refl _ _).drew)).mono ?_); rintro e w5 ⟨rfl, hBx5⟩))
          | (go_at_call 23; ((with_reducible refine (kG.out _ (by first | assumption | exact (Below.refl _ _).drew)).mono ?_); rintro e w6 ⟨rfl, hBx6⟩))
          | (go_at_call 24; ((with_reducible refine (kE.out _ (by first | assumption | exact (Below.refl _ _).drew)).mono ?_); rintro e w7 ⟨rfl, hBx7⟩)) | fail)
      all_goals
        have hT7 := Lib.hid (hfin.out _ hBx7)
        clear hfin kO kP kL kW kG kE hS hSd
        go_wp2
        go_roundw
        case rel => exact ⟨k + 1, s9, d9, by omega, by omega, by go_num, hT7, hG9⟩
        case measure => simp [intOf]; omega
    · have hq : k = n ∨ (k = 200 ∧ 200 < n) := by omega
      have hB9 := Lib.hid (pl_bel hT.out)
      clear hT hG hlt
      rcases hq with q1 | ⟨q1, q2⟩
      all_goals
        subst q1
        go_wp2_with (fail)
        refine (awake_any wr).mono ?_
        rintro e w9 ⟨rfl, hB10⟩
        have hB11 := Lib.hid (hB9.out.trans (hB10.mono hB9.out.size))
        clear hB9 hB10
        go_wp2
        go_ret
        exact ⟨rfl, hB11.out⟩
end Go.Proofs.Ythiadkpndemeeaa.lnkPh
