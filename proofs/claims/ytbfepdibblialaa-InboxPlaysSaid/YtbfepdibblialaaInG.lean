/- The program's goOn: applied goes on over all that are, and the hearts that are reached are told. -/
import Derived.Test.YtbfepdibblialaaInPt
import Derived.Maps.RangeWalk
import Derived.LoopTactic
set_option linter.unusedVariables false
set_option linter.unusedSimpArgs false
set_option maxRecDepth 100000
namespace Go.Proofs.Ytbfepdibblialaa.inG
open Go.ChangeShapes Go.WideShapes Go.ChangeAt Go.RowKit Go.Deep
open opV chnM gen chnA chnR chnE ordA ordB ordC inM inW inL inN inP inPt

section
variable {col col' : Nat → Nat} {c d p : Nat} {w w1 : World} {ap g : Int} {Ao Ai : Option Addr} {co ci mb n : Nat} {xo : List Bool} {ms : List MR} {D D' : DM}
/-- the first of those handed out is cut off -/
theorem go1 (h : BoxM col c w p ap Ao co xo Ai ci ms mb n D g) (hc : c ≠ 0) (hm : 0 < xo.length) :
    Chg col c w (w.setCell ⟨p, 1, none⟩ (.slice (tlA Ao co 1) (xo.length - 1) (co - 1))) ∧ BoxM col c (w.setCell ⟨p, 1, none⟩ (.slice (tlA Ao co 1) (xo.length - 1) (co - 1))) p ap (tlA Ao co 1) (co - 1) (xo.drop 1) Ai ci ms mb n D g := by
  have hl : (xo.drop 1).length = xo.length - 1 := by simp
  have ht := h.wo.tail hm
  rw [← bo_drop xo 1] at ht
  rw [← hl] at ht ⊢
  exact h.setO hc ht (fun k e => h.ko k (by rw [← tlA_block Ao xo.length co 1 (xo.drop 1).length (co - 1) h.wo.plain]; exact e))
theorem boxM_out (h : BoxM col c w p ap Ao co xo Ai ci ms mb n D g) {j : Nat} {b : Bool} (hj : xo[j]? = some b) : ∃ bb oo, Ao = some ⟨bb, oo, none⟩ ∧ bb < w.heap.size ∧ w.cell? ⟨bb, oo + j, none⟩ = some (.bool b) ∧ w.frozen? ⟨bb, oo + j, none⟩ = false := by
  obtain ⟨bb, oo, rfl⟩ := h.wo.pos (by have := (List.getElem?_eq_some_iff.1 hj).1; omega)
  exact ⟨bb, oo, rfl, h.wo.lt rfl, h.wo.cell (bo_at hj), h.wo.fz _⟩
/-- what goOn leaves -/
def GoneOn (col : Nat → Nat) (c p : Nat) (ap : Int) (xo : List Bool) (Ai : Option Addr) (ci : Nat) (ms : List MR) (mb n : Nat) (hs : List (Int × Int)) (w w' : World) : Prop :=
  ∃ col' Ao' co' D', Cn c col w col' w' ∧ BoxM col' c w' p (ap + lead xo) Ao' co' (xo.drop (lead xo)) Ai ci ms mb n D' (gotF hs (ap + lead xo)) ∧ MapRel hs (ap + lead xo) (gotF hs (ap + lead xo)) D'
/-- between the rounds of the first loop -/
structure G1 (col : Nat → Nat) (c p : Nat) (ap : Int) (xo : List Bool) (Ai : Option Addr) (ci : Nat) (ms : List MR) (mb n : Nat) (D : DM) (g : Int) (w : World) (j : Nat) (wr : World) (A : Option Addr) (cc : Nat) : Prop where
  chg : Chg col c w wr
  box : BoxM col c wr p (ap + j) A cc (xo.drop j) Ai ci ms mb n D g
theorem G1.next {A : Option Addr} {cc j : Nat} {wr : World} (h : G1 col c p ap xo Ai ci ms mb n D g w j wr A cc) (hc : c ≠ 0) (hj : j < xo.length) :
    G1 col c p ap xo Ai ci ms mb n D g w (j + 1) ((wr.setCell ⟨p, 1, none⟩ (.slice (tlA A cc 1) ((xo.drop j).length - 1) (cc - 1))).setCell ⟨p, 0, none⟩ (.int .i64 (ap + (j + 1 : Nat)))) (tlA A cc 1) (cc - 1) := by
  obtain ⟨g1, b1⟩ := go1 h.box hc (by rw [List.length_drop]; omega)
  obtain ⟨g2, b2⟩ := b1.setA hc (ap + (j + 1 : Nat))
  rw [List.drop_drop] at b2
  exact ⟨(h.chg.tran g1).tran g2, b2⟩
/-- between the steps of the range -/
structure G2 (col : Nat → Nat) (c p : Nat) (ap : Int) (Ao : Option Addr) (co : Nat) (xo : List Bool) (Ai : Option Addr) (ci : Nat) (ms : List MR) (mb n r : Nat) (D0 : DM) (g : Int) (w : World) (D : DM) (gr : Int) (left : Lit → Bool) (cnt : Nat) (wr : World) : Prop where
  chg : Chg col c w wr
  box : BoxM col c wr p ap Ao co xo Ai ci ms mb n D gr
  rg : wr.ranges Try.prog 3 (plainElem Try.prog 27) mb r n D left cnt
  rl : RL D0 ap g D left gr
  rc : col r = c + 1
  rw_ : w.heap.size ≤ r
theorem G2.step {r cnt cnt1 : Nat} {D0 : DM} {gr : Int} {left left' : Lit → Bool} {wr : World} (h : G2 col c p ap Ao co xo Ai ci ms mb n r D0 g w D gr left cnt wr) (hg : wr.grownBy w1 (some r)) (hrg : w1.ranges Try.prog 3 (plainElem Try.prog 27) mb r n D left' cnt1) :
    BoxM col c w1 p ap Ao co xo Ai ci ms mb n D gr ∧ Chg col c w w1 := by
  have hgc : Chg col (c + 1) wr w1 := Chg.grown hg fun k e => by cases e; exact h.rc
  refine ⟨h.box.other hgc (by omega) (by omega) (Ext.refl _ _), ⟨hg.os.trans h.chg.os, hg.tape.trans h.chg.tape, hg.output.trans h.chg.output, Nat.le_trans h.chg.size hg.size, fun k hk hc => ?_⟩⟩
  refine (hg.block k (Nat.lt_of_lt_of_le hk h.chg.size) ?_).trans (h.chg.block k hk hc)
  rintro e
  cases e
  have := h.rw_
  omega
theorem chg_swap {c1 c2 : Nat → Nat} {c : Nat} {w w1 : World} (h : Chg c1 c w w1) (he : Ext w c1 c2) : Chg c2 c w w1 := ⟨h.os, h.tape, h.output, h.size, fun k hk hc => h.block k hk (by rw [← he k hk]; exact hc)⟩
theorem G2.start {w6 w0 : World} {D0 : DM} (hC : Chg col c w w6) (hf : Fresh col w6) (hb : BoxM col c w6 p ap Ao co xo Ai ci ms mb n D0 g) (hrg : w0.ranges Try.prog 3 (plainElem Try.prog 27) mb w6.heap.size n D0 (Maps.has D0) (Maps.size D0)) (hg : w6.grownBy w0 none) :
    G2 (colR col w6.heap.size w6.heap.size (c + 1)) c p ap Ao co xo Ai ci ms mb n w6.heap.size D0 g w D0 g (Maps.has D0) (Maps.size D0) w0 := by
  have hB : Below w6.heap.size w6 w0 := ⟨hg.os, hg.tape, hg.output, hg.size, fun k hk => hg.block k hk (by simp)⟩
  have hE : Ext w6 col (colR col w6.heap.size w6.heap.size (c + 1)) := ext_colR col (Nat.le_refl _) (Nat.le_refl _)
  have hEw : Ext w col (colR col w6.heap.size w6.heap.size (c + 1)) := fun k hk => hE k (by have := hC.size; omega)
  exact ⟨chg_swap (hC.then hB) hEw, hb.other (Chg.of_below _ (c + 1) hB) (by omega) (by omega) hE, hrg, rl_start _ _ _, if_pos (.inl rfl), hC.size⟩
theorem G2.fin {r cnt : Nat} {D0 : DM} {gr ap0 : Int} {left : Lit → Bool} {wr : World} {hs : List (Int × Int)} {cl : Nat → Nat} (h : G2 cl c p ap Ao co xo Ai ci ms mb n r D0 g w D gr left cnt wr) (hE : Ext w col cl) (hF : Fresh cl wr) (hl : ∀ z, left z = false) (hm : MapRel hs ap0 (gotF hs ap0) D0) (hg : g = gotF hs ap0) (hap : ap0 ≤ ap) :
    ∃ D', Cn c col w cl wr ∧ BoxM cl c wr p ap Ao co xo Ai ci ms mb n D' (gotF hs ap) ∧ MapRel hs ap (gotF hs ap) D' := by
  obtain ⟨e, hmr⟩ := h.rl.done hl hm hg hap
  subst e
  exact ⟨D, ⟨hE, hF, chg_swap h.chg (fun k hk => (hE k hk).symm)⟩, h.box, hmr⟩
theorem hm_at {x cv : Int} (hat : ∀ zd, D.atKey (.int .i64 x) zd = .lit (.int .u64 cv)) : hm D x = some cv := hm_of_at hat
/-- how many are out, as it stands in memory -/
def outN (p : Nat) (w : World) : Nat := match w.cell? ⟨p, 1, none⟩ with | some (.slice _ n _) => n | _ => 0
theorem outN_is {n cc : Nat} {A : Option Addr} (h : w.cell? ⟨p, 1, none⟩ = some (.slice A n cc)) : outN p w = n := by unfold outN; rw [h]
set_option maxHeartbeats 4000000 in
theorem goOn_any (w : World) (hs : List (Int × Int)) (h : BoxM col c w p ap Ao co xo Ai ci ms mb n D g) (hc : c ≠ 0) (hf : Fresh col w) (hm : MapRel hs ap g D) (hg : g = gotF hs ap) (h0 : 0 ≤ ap) (h9 : ap ≤ 1152921504606847976) (hl : xo.length ≤ 150) (hn : n ≤ 150) :
    Calls Try.prog 31 #[.pointer (some ⟨p, 0, none⟩)] w fun e w' => e = .returned (.tuple #[]) ∧ GoneOn col c p ap xo Ai ci ms mb n hs w w' := by
  have hG0 : Hid (G1 col c p ap xo Ai ci ms mb n D g w 0 w Ao co) := Lib.hid ⟨Chg.refl _ _ _, by rw [show ap + ((0 : Nat) : Int) = ap by omega, List.drop_zero]; exact h⟩
  obtain ⟨iB, hiB, hzB0, hzB1, hzB2⟩ := info_parts infoBool
  have hll := lead_le xo
  have hmh := Lib.hid hm
  have hgh := Lib.hid hg
  clear h hm hg
  go_enter Try.func31, Try.ntmps31
  go_wp2
  go_loopw [17] (fun _ wr => ∃ (j : Nat) (A : Option Addr) (cc : Nat), j ≤ lead xo ∧ Hid (G1 col c p ap xo Ai ci ms mb n D g w j wr A cc)) (fun _ wr => outN p wr)
  case atStart => exact ⟨0, Ao, co, Nat.zero_le _, hG0⟩
  case round =>
    obtain ⟨j, A, cc, hj, hG⟩ := hrel
    obtain ⟨k0, k1, k2, k3, k4⟩ := hG.out.box.cells
    have f0 := hG.out.box.fz 0
    have f1 := hG.out.box.fz 1
    by_cases hlt : j < lead xo
    · have hx : (xo.drop j)[0]? = some true := by rw [List.getElem?_drop]; exact lead_lt (by simpa using hlt)
      have hjl : j < xo.length := by omega
      have hpos : (0 : Int) < ((xo.drop j).length : Int) := by rw [List.length_drop]; omega
      have hnx := hG.out.next hc hjl
      rw [show (((j + 1 : Nat)) : Int) = (j : Int) + 1 by omega] at hnx
      replace hnx := Lib.hid hnx
      obtain ⟨bb, oo, rfl, hbb, q0, q1⟩ := boxM_out hG.out.box hx
      have hcap := hG.out.box.wo.cap_le
      have hrt := fun W' => run_tail (P := Try.prog) (w := W') (e := 4) (size := 1) Try.underlying46 hiB hzB1 (some ⟨bb, oo, none⟩) (xo.drop j).length cc (by rw [List.length_drop]; omega) hcap.1
      have ew : IntKind.i64.wrap (ap + (j : Int) + 1) = ap + ((j : Int) + 1) := by rw [show ap + (j : Int) + 1 = ap + ((j : Int) + 1) by omega]; exact wrap_in _ (by omega) (by omega)
      rw [Nat.add_zero] at q0
      have hm1 := Lib.hid (outN_is k1)
      have hm2 := Lib.hid (outN_is hnx.out.box.cells.2.1)
      have hlen : Hid ((xo.drop (j + 1)).length < (xo.drop j).length) := Lib.hid (by rw [List.length_drop, List.length_drop]; omega)
      clear hG hx hcap
      generalize (xo.drop j).length = nl at *
      go_wp2
      exact ⟨⟨j + 1, _, _, by omega, hnx⟩, by rw [hm1.out, hm2.out]; exact hlen.out⟩
    · obtain rfl : j = lead xo := by omega
      have hC := hG.out.chg
      have hb := hG.out.box
      have hf6 := hf.up hC.size
      have hend := Lib.hid (fun cl wr' r D' gr left cnt (hG : G2 cl c p (ap + (lead xo : Nat)) A cc (xo.drop (lead xo)) Ai ci ms mb n r D g w D' gr left cnt wr') (hE : Ext w col cl) (hF : Fresh cl wr') (hl : ∀ z, left z = false) => (by
        obtain ⟨D2, z1, z2, z3⟩ := hG.fin hE hF hl (by rw [← hgh.out]; exact hmh.out) hgh.out (by omega)
        exact ⟨cl, A, cc, D2, z1, z2, z3⟩ : GoneOn col c p ap xo Ai ci ms mb n hs w wr'))
      have hst := Lib.hid (fun w0 hrg hg => G2.start (w0 := w0) hC hf6 hb hrg hg)
      have hmp := Lib.hid hb.mp
      have hFF := Lib.hid (fun w2 (hs2 : wr.heap.size + 1 ≤ w2.heap.size) => fresh_colR (w := wr) (w2 := w2) (col := col) (a := wr.heap.size) (b := wr.heap.size) (d := c + 1) hf6 (by omega) (by omega) (by omega))
      have hEE := Lib.hid (show Ext w col (colR col wr.heap.size wr.heap.size (c + 1)) from ext_colR col hC.size hC.size)
      generalize wr = w6 at *
      have hway : ((xo.drop (lead xo)).length = 0) ∨ (0 < (xo.drop (lead xo)).length ∧ ∃ bb oo, A = some ⟨bb, oo, none⟩ ∧ w6.cell? ⟨bb, oo, none⟩ = some (.bool false)) := by
        rcases Nat.eq_zero_or_pos (xo.drop (lead xo)).length with h1 | h1
        · exact .inl h1
        · rw [List.length_drop] at h1
          have hx : (xo.drop (lead xo))[0]? = some false := by rw [List.getElem?_drop]; exact lead_at (by omega)
          obtain ⟨bb, oo, e, _, q0, _⟩ := boxM_out hb hx
          exact .inr ⟨by rw [List.length_drop]; omega, bb, oo, e, q0⟩
      clear hG hC hb hf6 hG0
      generalize (ap + (lead xo : Nat)) = ap' at *
      generalize xo.drop (lead xo) = yo at *
      obtain ⟨cl, hcl⟩ : ∃ cl, colR col w6.heap.size w6.heap.size (c + 1) = cl := ⟨_, rfl⟩
      rw [hcl] at hst hFF hEE
      clear hcl
      rcases hway with hz | ⟨hz, bb, oo, rfl, q0⟩
      all_goals
        first | rw [hz] at k1 | skip
        go_wp2_with (at_range; refine wpList_range_own _ rfl _ 57 rfl 3 27 law3 Try.underlying57 _ mb n D rfl hmp.out ?_; intro w0 hrg0 hg0 hs0)
        have hG0 := Lib.hid (hst.out _ hrg0 hg0)
        have hF0 := Lib.hid (hFF.out w0 (by omega))
        clear hrg0 hg0 hs0 hst hFF hmp k0 k1 k2 k3 k4 f0 f1 hz
        go_frame
        generalize w6.heap.size = r at *
        go_loopw [2, 3] (fun _ _ wr => ∃ (left : Lit → Bool) (cnt : Nat) (D' : DM) (gr : Int), Hid (G2 cl c p ap' _ cc yo Ai ci ms mb n r D g w D' gr left cnt wr) ∧ Hid (Fresh cl wr)) (fun _ _ wr => wr.rangeLeft mb r)
        case atStart => exact ⟨_, _, _, _, hG0, hF0⟩
        case round =>
          obtain ⟨left, cnt, D', gr, hG, hF⟩ := hrel
          go_wp2_with (at_next; refine wpList_next_ranges_ii _ rfl _ rfl 3 27 .i64 .u64 law3 Try.underlying3 Try.underlying27 mb r n _ _ _ rfl hG.out.rg ?_ ?_)
          · intro _ hl0
            have hfin := Lib.hid (hend.out _ _ _ _ _ _ _ hG.out hEE.out hF.out hl0)
            clear hend hG hF hG0 hF0 hl0
            go_wp2
            go_end0
            exact ⟨rfl, hfin.out⟩
          · intro x cv w1 cnt1 hwx hwc hlx hat hrg1 hlt1 hg1 hs1 hen
            obtain ⟨b1, c1⟩ := hG.out.step hg1 hrg1
            have hm1 := hm_at hat
            have hrl := Lib.hid hG.out.rl
            have hrc := hG.out.rc
            have hrw := hG.out.rw_
            have hF1 := Lib.hid (hF.out.up (by omega : wr.heap.size ≤ w1.heap.size))
            have hle := Lib.hid hG.out.rg.left_eq
            obtain ⟨k0, k1, k2, k3, k4⟩ := b1.cells
            have f4 := b1.fz 4
            by_cases hx : x ≤ ap'
            · obtain ⟨g2, b2⟩ := b1.setG hc (max gr cv)
              have rl2 := Lib.hid (hrl.out.go_del hlx hm1 hx)
              have hpm : p ≠ mb := (Ty.of_row b1.row).nmap b1.mp
              have hpr : p ≠ r := fun e => by have h1 := b1.cp; rw [e] at h1; omega
              have hrg2 := Lib.hid (hrg1.kept (w' := w1.setCell ⟨p, 4, none⟩ (.int .u64 (max gr cv))) (row := some p) ⟨rfl, rfl, rfl, by rw [World.size_setCell]; exact Nat.le_refl _, fun k hk hn => Below.heap_setCell _ _ _ _ (fun e => hn (by rw [e]))⟩ (fun e => hpm (Option.some.inj e).symm) (fun e => hpr (Option.some.inj e).symm))
              have hb2 := Lib.hid b2
              have hc2 := Lib.hid (c1.tran g2)
              clear hG hF hG0 hF0 hend b1 c1 g2 b2 hat hm1 hrg1 hrl hg1
              go_wp2_with (at_delete; refine wpList_delete_ranges _ rfl _ _ 57 3 rfl 27 law3 Try.underlying57 _ mb r n _ _ _ rfl hrg2.out _ _ rfl (Maps.keyOf_int_mk Try.underlying3 hwx) ?_; intro w3 cnt3 hrg3 hle3 hturn; go_frame)
              rw [Maps.strike_twice] at hrg3
              obtain ⟨c3, b3⟩ := hb2.out.turned hc hturn.grown hrg3.owns
              have hG3 := Lib.hid (show G2 cl c p ap' _ cc yo Ai ci ms mb n r D g w _ _ _ _ w3 from ⟨hc2.out.tran c3, b3, hrg3, rl2.out, hrc, hrw⟩)
              have hF3 := Lib.hid (hF1.out.up (by have := c3.size; rw [World.size_setCell] at this; omega : w1.heap.size ≤ w3.heap.size))
              have hms := Lib.hid (show w3.rangeLeft mb r < wr.rangeLeft mb r from by rw [hrg3.left_eq, hle.out]; omega)
              clear hrg3 hturn c3 b3
              go_roundw
              case rel => exact ⟨_, _, _, _, hG3, hF3⟩
              case measure => exact hms.out
            · have hx2 : ap' < x := by omega
              have rl2 := hrl.out.go_stay hlx hm1 hx2
              have hG3 := Lib.hid (show G2 cl c p ap' _ cc yo Ai ci ms mb n r D g w D' gr _ _ w1 from ⟨c1, b1, hrg1, rl2, hrc, hrw⟩)
              have hms := Lib.hid (show w1.rangeLeft mb r < wr.rangeLeft mb r from by rw [hrg1.left_eq, hle.out]; omega)
              clear hG hF hG0 hF0 hend b1 c1 hat hm1 hrg1 hrl hg1 rl2
              go_wp2
              go_roundw
              case rel => exact ⟨_, _, _, _, hG3, hF1⟩
              case measure => exact hms.out
end
end Go.Proofs.Ytbfepdibblialaa.inG
