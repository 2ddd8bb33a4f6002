/- The program's Stable. -/
import Derived.Test.YteelndiiennhkaaPtN
import Derived.Maps.RangeWalk
import Derived.LoopTactic
set_option linter.unusedVariables false
set_option linter.unusedSimpArgs false
set_option maxRecDepth 100000
namespace Go.Proofs.Yteelndiiennhkaa.ptG
open Go.ChangeShapes Go.WideShapes Go.ChangeAt Go.RowKit Go.Deep
open opG opO hlcA gen ptM ptL ptN

def colR (col : Nat → Nat) (a d : Nat) (k : Nat) : Nat := if k = a then d else col k
section
variable {col : Nat → Nat} {c p : Nat} {w w1 : World} {ck : Int} {os : List OP} {mb : Nat} {D : DM}
/-- between the steps of the range -/
structure G2 (col : Nat → Nat) (c p : Nat) (ck : Int) (os : List OP) (mb r : Nat) (D : DM) (w : World) (left : Lit → Bool) (cnt : Nat) (s : Int) (wr : World) : Prop where
  chg : Chg col c w wr
  sd : SideM col c wr p ck os mb D
  rg : wr.ranges Try.prog 26 (plainElem Try.prog 26) mb r os.length D left cnt
  rl : RL os ck left s
  rw_ : w.heap.size ≤ r
theorem G2.step {r cnt cnt1 : Nat} {s : Int} {x t : Int} {left : Lit → Bool} {wr : World} (h : G2 col c p ck os mb r D w left cnt s wr) (hg : wr.grownBy w1 (some r)) (hpr : p ≠ r) (hmr : mb ≠ r) (hrg : w1.ranges Try.prog 26 (plainElem Try.prog 26) mb r os.length D (fun z => left z && !z.sameKey (lk x)) cnt1) (hat : ∀ z, D.atKey (lk x) z = .lit (.int .u64 t)) :
    G2 col c p ck os mb r D w (fun z => left z && !z.sameKey (lk x)) cnt1 (min s (t - 1)) w1 where
  chg := ⟨hg.os.trans h.chg.os, hg.tape.trans h.chg.tape, hg.output.trans h.chg.output, Nat.le_trans h.chg.size hg.size, fun k hk hc => (hg.block k (Nat.lt_of_lt_of_le hk h.chg.size) (by
    rintro e
    cases e
    have := h.rw_
    omega)).trans (h.chg.block k hk hc)⟩
  sd := { h.sd with row := h.sd.row.of_block (hg.block p h.sd.row.lt (fun e => hpr (Option.some.inj e))), mp := map_block h.sd.mp (hg.block mb h.sd.mp.lt (fun e => hmr (Option.some.inj e))) }
  rg := hrg
  rl := h.rl.step (cr_was h.sd.cr hat)
  rw_ := h.rw_
theorem G2.start {w6 w0 : World} (hC : Chg col c w w6) (hb : SideM col c w6 p ck os mb D) (hrg : w0.ranges Try.prog 26 (plainElem Try.prog 26) mb w6.heap.size os.length D (Maps.has D) (Maps.size D)) (hg : w6.grownBy w0 none) :
    G2 col c p ck os mb w6.heap.size D w (Maps.has D) (Maps.size D) ck w0 := by
  have hB : Below w6.heap.size w6 w0 := ⟨hg.os, hg.tape, hg.output, hg.size, fun k hk => hg.block k hk (by simp)⟩
  exact ⟨hC.then hB, hb.other (Chg.of_below _ (c + 1) hB) (by omega) (Ext.refl _ _), hrg, rl_start hb.cr _, hC.size⟩
end
section
variable {col : Nat → Nat} {c p : Nat} {S : Pt}
set_option maxHeartbeats 2000000 in
theorem stable_at (w : World) (h : SideAt col c w p S) (hf : Fresh col w) (hok : S.ok) (ms : Int) : Calls Try.prog 12 #[.pointer (some ⟨p, 0, none⟩), .int .i64 ms] w fun e w' =>
    e = .returned (.tuple #[.int .u64 (sbT S ms), .int .i64 (sbE ms)]) ∧ Lv col c p (sbS S ms) w w' := by
  have hst := Lib.hid (lv_stay h hf (Below.refl _ _))
  obtain ⟨mb, D, h⟩ := h
  obtain ⟨k0, k1, f0⟩ := h.cells
  have hra := Lib.hid (raise_any S.ck ms w)
  cases hr : rdB ms with
  | false =>
    have e1 : sbE ms = 1 := by unfold sbE rsE; rw [if_neg (by rw [hr]; simp)]
    have e2 : sbT S ms = 0 := if_neg (by rw [hr]; simp)
    have e3 : sbS S ms = S := if_neg (by rw [hr]; simp)
    have e4 : rsN S.ck ms = 0 := by unfold rsN; rw [if_neg (by rw [hr]; simp)]
    have e5 : rsE ms = 1 := e1
    rw [e4, e5] at hra
    rw [e1, e2, e3]
    clear h hok e1 e2 e3 e4 e5 hr hf
    generalize S.ck = ck at *
    go_enter Try.func12, Try.ntmps12
    go_wp2_with (go_at_call 22; with_reducible refine hra.out.mono ?_; rintro e w' ⟨rfl, rfl⟩)
    go_ret2
    exact ⟨rfl, hst.out⟩
  | true =>
    have e1 : sbE ms = 0 := by unfold sbE rsE; rw [if_pos hr]
    have e2 : sbT S ms = stb S.os (rsN S.ck ms) := if_pos hr
    have e3 : sbS S ms = ⟨rsN S.ck ms, S.os⟩ := if_pos hr
    have e5 : rsE ms = 0 := e1
    rw [e5] at hra
    rw [e1, e2, e3]
    obtain ⟨u1, u2⟩ := rs_up (a := S.ck) hr
    have u2 := u2 hok.c1
    have u0 := hok.c0
    have ho0 := Lib.hid hok.o0
    have ho1 := Lib.hid hok.o1
    have hdf := Lib.hid hok.df
    obtain ⟨g1, h1⟩ := h.setC (rsN S.ck ms)
    generalize rsN S.ck ms = R at *
    obtain ⟨W1, hW1⟩ : ∃ W1, w.setCell ⟨p, 0, none⟩ (.int .u64 R) = W1 := ⟨_, rfl⟩
    rw [hW1] at g1 h1
    obtain ⟨j0, j1, j2⟩ := h1.cells
    replace hW1 := Lib.hid hW1
    have hmp := Lib.hid h1.mp
    have hpr := Lib.hid (fun r (hr : W1.heap.size ≤ r) => (And.intro (by have := h1.row.lt; omega) (by have := h1.mp.lt; omega) : p ≠ r ∧ mb ≠ r))
    have hgo := Lib.hid (fun w0 hrg hg => G2.start (w0 := w0) g1 h1 hrg hg)
    have hfin := Lib.hid (fun wr left cnt s r (hG : G2 col c p R S.os mb r D w left cnt s wr) (hl : ∀ z, left z = false) => (And.intro (hG.rl.done hok.df hl) (lv_of (S := ⟨R, S.os⟩) hf hG.chg hG.sd) : s = stb S.os R ∧ Lv col c p ⟨R, S.os⟩ w wr))
    generalize stb S.os R = T at *
    clear h hst hok e1 e2 e3 e5 g1 h1 hr hf u1
    generalize S.ck = ck at *
    generalize S.os = os at *
    go_enter Try.func12, Try.ntmps12
    go_wp2_with (fail)
    with_reducible refine hra.out.mono ?_
    rintro e w' ⟨rfl, rfl⟩
    go_upto_region 7 with (fail)
    rw [hW1.out]
    clear k0 k1 f0 hW1 hra
    go_wp2_with (at_range; refine wpList_range_own _ rfl _ TM rfl 26 26 law3 Try.underlying43 _ mb os.length D rfl hmp.out ?_; intro w0 hrg0 hg0 hs0)
    have hG0 := Lib.hid (hgo.out _ hrg0 hg0)
    have hp0 := Lib.hid (hpr.out W1.heap.size (Nat.le_refl _))
    clear hrg0 hg0 hs0 hgo hmp j0 j1 j2 hpr
    go_frame
    generalize W1.heap.size = r at *
    go_loopw [8, 10] (fun s _ wr => ∃ (left : Lit → Bool) (cnt : Nat) (sv : Int), s = .int .u64 sv ∧ Hid (G2 col c p R os mb r D w left cnt sv wr)) (fun _ _ wr => wr.rangeLeft mb r)
    case atStart => exact ⟨_, _, _, rfl, hG0⟩
    case round =>
      obtain ⟨left, cnt, sv, rfl, hG⟩ := hrel
      go_wp2_with (at_next; refine wpList_next_ranges_ii _ rfl _ rfl 26 26 .u64 .u64 law3 Try.underlying26 Try.underlying26 mb r os.length _ _ _ rfl hG.out.rg ?_ ?_)
      · intro _ hl0
        obtain ⟨hfe, hfl⟩ := hfin.out _ _ _ _ _ hG.out hl0
        replace hfl := Lib.hid hfl
        subst hfe
        clear hG hG0 hl0 hfin
        go_wp2
        go_ret2
        exact ⟨rfl, hfl.out⟩
      · intro x cv w1 cnt1 hwx hwc hlx hat hrg1 hlt1 hg1 hs1 hen
        have hfx := fnd_mem (cr_was hG.out.sd.cr hat)
        have c1 := ho0.out _ hfx
        have c2 := ho1.out _ hfx
        simp only at c1 c2
        have hG1 := Lib.hid (hG.out.step hg1 hp0.out.1 hp0.out.2 hrg1 hat)
        have hms := Lib.hid (show w1.rangeLeft mb r < wr.rangeLeft mb r from by rw [hrg1.left_eq, hG.out.rg.left_eq]; omega)
        clear hG hG0 hat hrg1 hg1 hfin hfx hlx
        have ew : IntKind.u64.wrap (cv - 1) = cv - 1 := wraps_u64 _ (by omega) (by omega)
        rw [show min sv (cv - 1) = (if cv - 1 < sv then cv - 1 else sv) by split <;> omega] at hG1
        go_wp2
        all_goals
          go_roundw
          case rel => exact ⟨_, _, _, rfl, hG1⟩
          case measure => exact hms.out
end
end Go.Proofs.Yteelndiiennhkaa.ptG
