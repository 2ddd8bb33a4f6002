/- StoreSpans. -/
import Derived.Test.YtlojmojmijklmaaStoZ
import Derived.Test.YtlojmojmijklmaaQuR
import Derived.Deep.CutBlock
import Derived.Deep.CutRange
import Derived.Deep.RegionHeld3
set_option linter.unusedVariables false
set_option maxRecDepth 100000
namespace Go.Proofs.Ytlojmojmijklmaa.stoSp
open Go.ChangeShapes Go.WideShapes Go.ChangeAt Go.RowKit Go.Shelf
open opV chnM gen chnA chnB chnR chnE chnT stoM stoA stoL stoB stoC stoP stoPr stoG stoW stoI stoJ stoLo stoX stoTw stoT stoZ rngR quR
attribute [local go_sem high] bin_slt bin_sle bin_sge bin_sgt bin_seq bin_sne
attribute [local go_sem] Oper.semAt_some

/-- the law's boxes, its row and its store -/
structure SB (w : World) (most : Int) (q S b : Nat) (A : Option Addr) (c : Nat) (R : List Ver) (s : St) (wx : World) : Prop where
  bm : Boxed wx w.heap.size 3 (.int .i64 most)
  br : Boxed wx (w.heap.size + 1) 4 (.bool false)
  bq : Boxed wx q 30 (.slice A R.length c)
  hv : HV wx A c R
  at_ : SAt (own2 S b) wx S b s
  bel : Below w.heap.size w wx
theorem box_below {w w1 : World} {q : Nat} {t : TypeId} {v : Value} (h : Boxed w q t v) (hB : Below w.heap.size w w1) : Boxed w1 q t v := (hB.block q h.lt).trans h
theorem SB.below {w wx wy : World} {most : Int} {q S b : Nat} {A : Option Addr} {c : Nat} {R : List Ver} {s : St} (h : SB w most q S b A c R s wx) (hB : Below wx.heap.size wx wy) : SB w most q S b A c R s wy :=
  ⟨box_below h.bm hB, box_below h.br hB, box_below h.bq hB, h.hv.below hB, h.at_.below hB, h.bel.trans (hB.mono h.bel.size)⟩
/-- what the one box of the result holds -/
def brB (r : Nat) (W : World) : Bool := match W.cell? ⟨r, 0, none⟩ with | some (.bool x) => x | _ => false
/-- nothing but the result's box may have turned -/
structure RX (V : World) (r : Nat) (W : World) : Prop where
  chg : Chg (fun k => k = r) V W
  box : ∃ x, Boxed W r 4 (.bool x)
theorem RX.next {V W W' : World} {r : Nat} (h : RX V r W) (hB : Below W.heap.size W W') : RX V r W' := ⟨h.chg.then hB, let ⟨x, hx⟩ := h.box; ⟨x, box_below hx hB⟩⟩
theorem RX.drew {V W : World} {r : Nat} (h : RX V r W) : RX V r W.drew := h.next (below_drew W)
theorem RX.set {V W : World} {r : Nat} (h : RX V r W) (x : Bool) : RX V r (W.setCell ⟨r, 0, none⟩ (.bool x)) := ⟨h.chg.setCell rfl _, let ⟨_, hy⟩ := h.box; ⟨x, hy.set _⟩⟩
theorem RX.r {V W : World} {r : Nat} (h : RX V r W) : W.cell? ⟨r, 0, none⟩ = some (.bool (brB r W)) := by
  obtain ⟨x, hx⟩ := h.box
  simp [brB, hx.cell]
/-- the cells that the law's last line reads -/
abbrev TC (t m r q : Nat) (n most : Int) (A : Option Addr) (k c : Nat) (W : World) : Prop :=
  W.cell? ⟨t, 0, none⟩ = some (.int .i64 n) ∧ W.cell? ⟨m, 0, none⟩ = some (.int .i64 most) ∧ W.cell? ⟨q, 0, none⟩ = some (.slice A k c) ∧ W.cell? ⟨r, 0, none⟩ = some (.bool (brB r W)) ∧ W.frozen? ⟨r, 0, none⟩ = false
theorem SB.tc {w wx W : World} {most n : Int} {q S b c t : Nat} {A : Option Addr} {R : List Ver} {s : St} (h : SB w most q S b A c R s wx) (ht : Boxed wx t 3 (.int .i64 n)) (h1 : w.heap.size + 2 ≤ t) (h2 : w.heap.size + 2 ≤ q)
    (hx : RX wx (w.heap.size + 1) W) : TC t w.heap.size (w.heap.size + 1) q n most A R.length c W :=
  ⟨hx.chg.cell ht.cell (by show ¬ t = _; omega), hx.chg.cell h.bm.cell (by show ¬ w.heap.size = _; omega), hx.chg.cell h.bq.cell (by show ¬ q = _; omega), hx.r, let ⟨_, hb⟩ := hx.box; hb.frozen⟩
theorem plus {w : World} {S b r : Nat} {s : St} {x : Bool} (h : SAt (own2 S b) w S b s) (hr : Boxed w r 4 (.bool x)) : SAt (fun k => own2 S b k ∨ k = r) w S b s := by
  obtain ⟨D, h⟩ := h
  refine ⟨D, { h with ear := ⟨h.ear.1, fun c hc => ?_⟩, bS := .inl h.bS, bb := .inl h.bb, bd := ?_ }⟩
  · obtain ⟨v, h1, A, cc, e, h2, h3⟩ := h.ear.2 c hc
    refine ⟨v, h1, A, cc, e, h2, ?_⟩
    by_cases h0 : c.l = []
    · exact .inl h0
    · refine .inr fun y ey hb => ?_
      rcases hb with hb | hb
      · exact (h3.resolve_left h0) _ ey hb
      · obtain ⟨b9, off, e2, hlt, hc9⟩ := h2.at (i := 0) (List.length_pos_iff.2 h0)
        rw [ey] at e2
        cases e2
        obtain ⟨c0, -⟩ := hc9
        replace hb : b9 = r := hb
        subst hb
        have hh : w.heap[b9]? = _ := hr
        simp only [World.cell?, hh] at c0
        generalize off + 0 * 6 = z at c0
        rcases z with _ | z <;> simp at c0
  · rintro k (hk | rfl)
    · exact h.bd k hk
    · exact hr.lt
/-- the store of the answer, and the way out -/
theorem fin_any {w V W : World} {D : Nat} (hx : RX V (w.heap.size + 1) W) (hK : V.heap[D]? = some (.deferred (some []))) (hne : D ≠ w.heap.size + 1) (hD : w.heap.size ≤ D) (hB : Below w.heap.size w V) :
    (W.setCell ⟨w.heap.size + 1, 0, none⟩ (.bool true)).heap[D]? = some (.deferred (some [])) ∧ ((W.setCell ⟨w.heap.size + 1, 0, none⟩ (.bool true)).putObj D (.deferred none)).cell? ⟨w.heap.size + 1, 0, none⟩ = some (.bool true) ∧ Below w.heap.size w ((W.setCell ⟨w.heap.size + 1, 0, none⟩ (.bool true)).putObj D (.deferred none)) := by
  have hl := (Array.getElem?_eq_some_iff.1 hK).1
  have hx2 := hx.set true
  have h1 := (hx2.chg.block D hl (show ¬ D = _ from hne)).trans hK
  refine ⟨h1, ?_, ?_⟩
  · obtain ⟨y, hy⟩ := hx.box
    exact ((hy.set (.bool true)).kept (grownBy_putObj' _ D (.deferred none)) (fun e => hne (by cases e; rfl))).cell
  · exact (hB.trans (hx2.chg.below hB.size (fun k hk e => by have e' : k = w.heap.size + 1 := e; omega))).trans (belowK_b (w := w) (Nat.le_refl _) _ D _ _ hD h1 rfl rfl)
theorem one_box (w : World) (v : Value) (t : TypeId) : (w.alloc (.cells #[v] t)).cell? ⟨w.heap.size, 0, none⟩ = some v := (Boxed.new w t v).cell
set_option maxHeartbeats 8000000 in
theorem spans_any (A : Option Addr) (c : Nat) (l : List Ver) (lo hi : ByteArray) (most : Int) (w : World) (hv : HV w A c l) :
    Calls Try.prog 7 #[.slice A l.length c, .string lo, .string hi, .int .i64 most] w fun e w' => e = .returned (.bool true) ∧ Below w.heap.size w w' := by
  have hfew := Lib.hid (few40 A c l)
  have hk40 : (l.take 40).length ≤ 40 := by rw [List.length_take]; omega
  have hvt := hv_take hv 40
  obtain ⟨L, hL⟩ : ∃ L, l.take 40 = L := ⟨_, rfl⟩
  rw [hL] at hfew hk40 hvt
  replace hL := Lib.hid hL
  replace hv := Lib.hid hv
  replace hvt := Lib.hid hvt
  -- the two boxes
  obtain ⟨w0, hw0⟩ : ∃ w0, (w.alloc (.cells #[.int .i64 most] 3)).alloc (.cells #[.bool false] 4) = w0 := ⟨_, rfl⟩
  have hbm : Boxed w0 w.heap.size 3 (.int .i64 most) := by rw [← hw0]; exact (Boxed.new w _ _).alloc _
  have hbr : Boxed w0 (w.heap.size + 1) 4 (.bool false) := by
    have := Boxed.new (w.alloc (.cells #[.int .i64 most] 3)) 4 (.bool false)
    rw [World.size_alloc, hw0] at this
    exact this
  have hB0 : Below w.heap.size w w0 := by rw [← hw0]; exact trans0 (al0 _ _) (al0 _ _)
  have hsz0 : w0.heap.size = w.heap.size + 2 := by rw [← hw0]; simp
  have hn := new_any w0
  replace hw0 := Lib.hid hw0
  replace hbm := Lib.hid hbm
  replace hbr := Lib.hid hbr
  replace hB0 := Lib.hid hB0
  refine (callsIn_wide (n := 6)).1 ?_
  refine callsIn_of_wp_marks Try.func7 rfl trivial ?_ rfl
  simp only [Try.ntmps7, List.size_toArray, List.length_cons, List.length_nil, Nat.reduceAdd, Nat.reduceSub, Array.replicate_succ, Array.replicate_zero, List.push_toArray, List.append_toArray, List.nil_append, List.cons_append]
  refine wpIn_wide.2 ?_
  go_wp2_with (fail)
  rw [hw0.out]
  with_reducible refine hn.mono ?_
  rintro e w1 ⟨S, b, rfl, hB1, hS1, hS2, hb1, hb2, hmk⟩
  have hA1 := hmk (own2 S b) (.inl rfl) (.inr rfl) (fun k e => by rcases e with rfl | rfl <;> assumption)
  have hSw : w.heap.size ≤ S := by omega
  have hbw : w.heap.size ≤ b := by omega
  have hBw1 := Lib.hid (hB0.out.trans (hB1.mono hB0.out.size))
  have hln0 : ln St.new.ch = 0 := rfl
  have hld := Lib.hid (load_any (S := S) (b := b) A c L w1 hA1 (hvt.out.below hBw1.out) (own_not hvt.out hSw hbw) (by omega))
  have hbm1 := Lib.hid ((hB1.block w.heap.size (by omega)).trans hbm.out)
  have hbr1 := Lib.hid ((hB1.block (w.heap.size + 1) (by omega)).trans hbr.out)
  clear hmk hn hbm hbr hB0 hB1 hA1
  go_wp2_with (go_at_call 10; (with_reducible refine (hfew.out w1 (hv.out.below hBw1.out)).mono ?_); rintro e w' ⟨rfl, rfl⟩)
  with_reducible refine hld.out.mono ?_
  rintro e w2 ⟨rfl, hC2, hA2⟩
  obtain ⟨hi2, hln2, -⟩ := Inv.load Inv.new L L.length
  obtain ⟨s2, hs2⟩ : ∃ s2, loS St.new L L.length = s2 := ⟨_, rfl⟩
  rw [hs2] at hA2 hi2 hln2
  replace hs2 := Lib.hid hs2
  have hBw2 := Lib.hid (hBw1.out.trans (hC2.below hBw1.out.size fun k hk e => by rcases e with rfl | rfl <;> omega))
  have hbm2 := Lib.hid ((hC2.block w.heap.size (by have := hBw1.out.size; have := hbm1.out; exact (Array.getElem?_eq_some_iff.1 this).1) (by rintro (e | e) <;> omega)).trans hbm1.out)
  have hbr2 := Lib.hid ((hC2.block (w.heap.size + 1) (by have := hbr1.out; exact (Array.getElem?_eq_some_iff.1 this).1) (by rintro (e | e) <;> omega)).trans hbr1.out)
  have hall := Lib.hid (all_any lo hi w2 hA2)
  have hRin := Lib.hid (al_in hi2 lo hi)
  have hRup := Lib.hid (al_up hi2 lo hi)
  have hRl : (al s2.ch lo hi).length ≤ ln s2.ch := by
    have := ln_filter (fun c => wth c.key lo hi) s2.ch
    unfold al sp
    rw [cc_len]; exact this
  obtain ⟨R, hR⟩ : ∃ R, al s2.ch lo hi = R := ⟨_, rfl⟩
  rw [hR] at hall hRin hRup hRl
  replace hR := Lib.hid hR
  replace hA2 := Lib.hid hA2
  replace hi2 := Lib.hid hi2
  clear hld hC2 hBw1 hbm1 hbr1 hfew
  go_wp2_with (fail)
  with_reducible refine hall.out.mono ?_
  rintro e w3 ⟨A3, c3, rfl, hG3, hB3⟩
  obtain ⟨w4, hw4⟩ : ∃ w4, w3.alloc (.cells #[.slice A3 R.length c3] 30) = w4 := ⟨_, rfl⟩
  have hB4 : Below w2.heap.size w2 w4 := by rw [← hw4]; exact trans0 hB3 (al0 _ _)
  have hSB4 : Hid (SB w most w3.heap.size S b A3 c3 R s2 w4) := Lib.hid
    { bm := box_below hbm2.out hB4, br := box_below hbr2.out hB4, bq := by rw [← hw4]; exact Boxed.new _ _ _
      hv := by rw [← hw4]; exact (hG3.hv (by omega)).below (al0 _ _)
      at_ := hA2.out.below hB4, bel := hBw2.out.trans (hB4.mono hBw2.out.size) }
  have hqw : w.heap.size + 2 ≤ w3.heap.size := by have := hB3.size; have := hBw2.out.size; have := (Array.getElem?_eq_some_iff.1 hbr2.out).1; omega
  replace hw4 := Lib.hid hw4
  clear hall hG3 hB3 hB4 hA2 hbm2 hbr2 hBw2
  go_wp2_with (fail)
  rw [hw4.out]
  generalize w3.heap.size = q at *
  go_loopw [28] (fun t wr => ∃ i : Nat, i ≤ R.length ∧ t = .int .i64 (i : Int) ∧ Hid (SB w most q S b A3 c3 R s2 wr)) (fun t _ => R.length - (intOf t).toNat)
  case atStart => exact ⟨0, Nat.zero_le _, rfl, hSB4⟩
  case round =>
    clear hSB4 hw4
    obtain ⟨i, hi', rfl, hSB⟩ := hrel
    by_cases hlt : i < R.length
    · have hltI : (i : Int) < (R.length : Int) := by omega
      obtain ⟨pb, po, rfl, hpb, hc⟩ := hSB.out.hv.at hlt
      obtain ⟨k1, k2⟩ := hRin.out _ (nt_mem hlt)
      obtain ⟨W1, hW1⟩ : ∃ W1, wr.alloc (.cells #[.string (nt R i).key, .string (nt R i).val, .bool (nt R i).gone, .int .u64 (nt R i).ts, .int .i64 (nt R i).dc, .int .i64 (nt R i).tx] 35) = W1 := ⟨_, rfl⟩
      have hal : Below wr.heap.size wr W1 := by rw [← hW1]; exact al0 _ _
      have hbx : V6 wr.heap.size 0 (nt R i) W1 := by rw [← hW1]; exact V6.new wr _ _
      have hSB1 := hSB.out.below hal
      have hq1 := hSB1.bq.cell
      have hnx : Hid (∀ n, SB w most q S b (some ⟨pb, po, none⟩) c3 R s2 (W1.drewN n)) := Lib.hid fun n => hSB1.below (bdrN n (Below.refl _ _))
      have hmn : ∀ x : Int, (x = x) := fun _ => rfl
      have hRl9 : R.length ≤ 60000 := by omega
      cases i with
      | zero =>
        have hz : ((0 : Nat) : Int) = 0 := rfl
        rw [hz] at hltI ⊢
        simp only [Nat.zero_mul, Nat.add_zero] at hc
        obtain ⟨c0, c1, c2, c3', c4, c5⟩ := hc
        obtain ⟨x0, -, -, -, -, -⟩ := hbx
        replace hW1 := Lib.hid hW1
        replace hSB1 := Lib.hid hSB1
        generalize nt R 0 = x at *
        clear hSB hal hRin hRup
        cases hs : seq hi emp with
        | true =>
          clear k2
          go_wp2
          rw [hW1.out]
          go_quiet (fail)
          go_wp2
          go_roundw
          case rel => exact ⟨1, by omega, by go_num, hnx.out nq |> Lib.hid⟩
          case measure => simp [intOf]; omega
        | false =>
          have k3 := k2 hs
          clear k2
          go_wp2
          rw [hW1.out]
          go_quiet (fail)
          go_wp2
          go_roundw
          case rel => exact ⟨1, by omega, by go_num, hnx.out nq |> Lib.hid⟩
          case measure => simp [intOf]; omega
      | succ j =>
        have hz : ((j + 1 : Nat) : Int) = (j : Int) + 1 := rfl
        rw [hz] at hltI ⊢
        have hup := up_at hRup.out hlt
        have hcj : V6 pb (po + j * 6) (nt R j) W1 := by
          obtain ⟨b9, o9, e9, _, h9⟩ := hSB1.hv.at (i := j) (by omega)
          cases e9
          exact h9
        obtain ⟨y0, -, -, -, -, -⟩ := hcj
        have g0 : (0 : Int) ≤ (j : Int) := by omega
        have g1 : (j : Int) < (R.length : Int) := by omega
        have g2 : ((j : Int) + 1).toNat = j + 1 := by omega
        have g3 : (0 : Int) < (j : Int) + 1 := by omega
        have g4 : (0 : Int) ≤ (j : Int) + 1 := by omega
        have g5 : (j : Int) + 1 - 1 = (j : Int) := by omega
        have g6 : IntKind.i64.wrap (j : Int) = (j : Int) := wrap_in _ (by omega) (by omega)
        obtain ⟨c0, c1, c2, c3', c4, c5⟩ := hc
        obtain ⟨x0, -, -, -, -, -⟩ := hbx
        replace hW1 := Lib.hid hW1
        replace hSB1 := Lib.hid hSB1
        generalize nt R (j + 1) = x at *
        generalize nt R j = y at *
        clear hSB hal hRin hRup
        cases hs : seq hi emp with
        | true =>
          clear k2
          go_wp2
          rw [hW1.out]
          go_quiet (fail)
          go_wp2
          go_roundw
          case rel => exact ⟨j + 1 + 1, by omega, by go_num, hnx.out nq |> Lib.hid⟩
          case measure => simp [intOf]; omega
        | false =>
          have k3 := k2 hs
          clear k2
          go_wp2
          rw [hW1.out]
          go_quiet (fail)
          go_wp2
          go_roundw
          case rel => exact ⟨j + 1 + 1, by omega, by go_num, hnx.out nq |> Lib.hid⟩
          case measure => simp [intOf]; omega
    · obtain rfl : i = R.length := by omega
      clear hRin hRup
      obtain ⟨w5, hw5⟩ : ∃ w5, wr.alloc (.cells #[.int .i64 0] 3) = w5 := ⟨_, rfl⟩
      have hNB : Boxed w5 wr.heap.size 3 (.int .i64 (([] : List Ver).length : Int)) := by rw [← hw5]; exact Boxed.new _ _ _
      have hB5 : Below wr.heap.size wr w5 := by rw [← hw5]; exact al0 _ _
      have hIA := IA.of hSB.out.at_ lo hi rfl (.cells #[.int .i64 0] 3) (by
        rintro k ⟨v, e1, e2⟩
        rw [(Boxed.new wr 3 (.int .i64 0)).cell] at e1
        cases e1; cases e2)
      rw [hw5] at hIA
      have hs5 : w5.heap.size = wr.heap.size + 1 := by rw [← hw5]; simp
      have hac := Lib.hid (all_call (some ⟨S, 0, none⟩) lo hi w5)
      have hB6 := alW_below w5 (.pointer (some ⟨S, 0, none⟩)) lo hi
      obtain ⟨w6, hw6⟩ : ∃ w6, alW w5 (.pointer (some ⟨S, 0, none⟩)) lo hi = w6 := ⟨_, rfl⟩
      rw [hw6] at hIA hac hB6
      have hNI : Hid (NI wr [] w6) := Lib.hid ⟨box_below hNB hB6, trans0 hB5 hB6⟩
      have hwl : wr.heap.size ≤ w6.heap.size := by have := hB6.size; omega
      have hwo : wr.heap.size < w6.heap.size := by have := hB6.size; omega
      have hrd := iter_reads 5 (by omega) hIA
      rw [hR.out] at hrd
      replace hrd := Lib.hid hrd
      replace hw5 := Lib.hid hw5
      clear hNB hB5 hB6 hIA
      go_wp2_with (fail)
      rw [hw5.out]
      with_reducible refine hac.out.mono ?_
      rintro e w7 ⟨rfl, rfl⟩
      unfold alV
      rw [hs5]
      clear hac hw6
      go_wp2
      refine (wpIn_wide (n := 6)).1 ?_
      refine' range_reads rfl (by omega) (gf := 46) (lb := #[.pointer (some ⟨wr.heap.size + 1, 0, none⟩), .pointer (some ⟨wr.heap.size + 2, 0, none⟩), .pointer (some ⟨wr.heap.size + 3, 0, none⟩)]) rfl trivial (enters_of Try.func46 (by kernel_rfl) rfl)
        hrd.out Kb.trans (Kb.book hwo) (fun _ => rfl)
        (NI wr) (NX wr most 2) (NI.from_ hwl) (NX.from_ hwl) (fun pre => R0.from_ R pre _) hNI.out vbox Kb.alloc _ ?assign ?body ?done ?stop
      case assign =>
        intro l x W b K hbe hK
        simp only [encs]
        unfold vbox at hK
        replace hbe := Lib.hid hbe
        gi_wp2
        rw [← hbe.out]
        exact hK
      case body =>
        rintro l pre x b9 V hb0 hb ⟨hbx, hBV⟩ ⟨rest, hre⟩
        have hpl : pre.length < R.length := by rw [hre]; simp
        have hnx : nt R pre.length = x := by rw [nt_at hpl]; simp [hre]
        have hSV := hSB.out.below hBV
        have k0 := hbx.cell
        have kf := hbx.frozen
        have k1 := hSV.bm.cell
        have hrl := hbx.lt
        by_cases hm : (pre.length : Int) = most
        · have hX : Hid (NX wr most 2 (.exit 2) (pre ++ [x]) V) := Lib.hid ⟨⟨rfl, pre, x, rfl, hm, hbx⟩, hBV⟩
          clear hbx hBV hre hpl hnx hSV hSB hrd hNI hb
          subst hm
          gi_wp2
          exact ⟨KeepsOthers.refl _, hX.out⟩
        · have hmb : ((pre.length : Int) == most) = false := beq_eq_false_iff_ne.2 hm
          unfold vbox at hb
          have u := fun (j : Nat) (v : Value) (e : (#[.string x.key, .string x.val, .bool x.gone, .int .u64 x.ts, .int .i64 x.dc, .int .i64 x.tx] : Array Value)[j]? = some v) => (cell_of_row V b9 j _ _ (0, 0) hb).trans e
          have u0 := u 0 _ rfl
          have u1 := u 1 _ rfl
          have u2 := u 2 _ rfl
          have u3 := u 3 _ rfl
          have u4 := u 4 _ rfl
          have u5 := u 5 _ rfl
          have k2 := hSV.bq.cell
          obtain ⟨pb, po, rfl, hpb, hcx⟩ := hSV.hv.at hpl
          rw [hnx] at hcx
          obtain ⟨c0, c1, c2, c3', c4, c5⟩ := hcx
          have hpI : (pre.length : Int) < (R.length : Int) := by omega
          have hpg : ¬ (R.length : Int) ≤ (pre.length : Int) := by omega
          have hdg : decide ((R.length : Int) ≤ (pre.length : Int)) = false := decide_eq_false hpg
          have hpn : ¬ R.length ≤ pre.length := by omega
          have hdn : decide (R.length ≤ pre.length) = false := decide_eq_false hpn
          have hp0 : (0 : Int) ≤ (pre.length : Int) := by omega
          have hRl9 : R.length ≤ 60000 := by omega
          have hq := fun w => neq_ver x x w
          simp only [decide_true, Bool.not_true] at hq
          have hpost : Hid (∀ n, let V' := (V.drewN n).setCell ⟨wr.heap.size, 0, none⟩ (.int .i64 ((pre.length : Int) + 1)); KeepsOthers V V' ∧ Kb wr.heap.size V V' ∧ NI wr (pre ++ [x]) V') := Lib.hid (fun n => by
            have hBn : Below V.heap.size V (V.drewN n) := bdrN n (Below.refl _ _)
            have hbn : Boxed (V.drewN n) wr.heap.size 3 (.int .i64 (pre.length : Int)) := box_below hbx hBn
            have hK1 : KeepsOthers V (V.drewN n) := ⟨Nat.le_refl _, fun k o h1 _ => h1⟩
            have hK2 : Kb wr.heap.size V (V.drewN n) := fun _ => ⟨Nat.le_refl _, fun k o h1 _ _ _ => h1, fun k h1 => .inl h1⟩
            refine ⟨hK1.trans (KeepsOthers.setCell _ _ _), hK2.trans (Kb.set hbn.lt rfl hbn.cell), ?_, ?_⟩
            · have := hbn.set (.int .i64 ((pre.length : Int) + 1))
              rw [List.length_append]
              exact this
            · exact (bdrN n hBV).setCell (p := ⟨wr.heap.size, 0, none⟩) (Nat.le_refl _) _)
          clear hbx hBV hre hpl hnx hSV hSB hrd hNI hb u hm
          gi_wp2
          refine quiet_round rfl (by kernel_rfl) (by kernel_rfl) (by kernel_rfl) ?_
          repeat (gi_big_quiet_step (fail))
          refine wpQuietIn_nil ?_
          rintro _ ⟨nq, rfl⟩
          have hfin := Lib.hid (hpost.out nq)
          clear hpost hq c0 c1 c2 c3' c4 c5 u0 u1 u2 u3 u4 u5
          gi_wp2
          exact hfin.out
      case done =>
        rintro D ys V hD rfl ⟨hbx, hBV⟩ hK
        have hSV := Lib.hid (hSB.out.below hBV)
        have hRd : decide (ys.length ≤ ln s2.ch) = true := decide_eq_true hRl
        have hRi : (ys.length : Int) ≤ (ln s2.ch : Int) := by omega
        have hlen : Hid (∀ W, RX V (w.heap.size + 1) W → Calls Try.prog 27 #[.pointer (some ⟨S, 0, none⟩)] W fun e w' => e = .returned (.int .i64 (ln s2.ch : Nat)) ∧ Below W.heap.size W w') := Lib.hid fun W hx => len_any W ((plus hSV.out.at_ hSV.out.br).go hx.chg (fun k e => .inr e) (by show ¬ S = _; omega) (by show ¬ b = _; omega))
        have hlt0 := hSB.out.br.lt
        have hfin : Hid (∀ W, RX V (w.heap.size + 1) W → _) := Lib.hid fun W hx => fin_any (D := D) hx hK (by omega) (by omega) hSV.out.bel
        have hTC : Hid (∀ W, RX V (w.heap.size + 1) W → _) := Lib.hid fun W hx => hSV.out.tc hbx (by omega) hqw hx
        have hS0 : Hid (RX V (w.heap.size + 1) V.drew) := Lib.hid (RX.drew ⟨Chg.refl _ _, _, hSV.out.br⟩)
        clear hK hSB hrd hNI
        by_cases hm : (ys.length : Int) = most
        · subst hm
          clear hSV hbx hBV
          go_wp2
          refine wp_region_noPanic ?_
          refine wp_region_held_drew (S := (fun w' => TC wr.heap.size w.heap.size (w.heap.size + 1) q (ys.length : Int) (ys.length : Int) A3 ys.length c3 w' ∧ RX V (w.heap.size + 1) w')) (by kernel_rfl) ⟨hTC.out _ hS0.out, hS0.out⟩ (fun hHeld => ?_)
          refine wpAnyH_ready (rs := [0]) (by kernel_rfl) (by simp) ?_
          refine AllReadyH.cons (o := ({ dst := some 85, op := Go.Op.call { callee := Go.Callee.value (Go.Operand.func 28), args := #[], argTypes := #[] }, type := 4, pos := "law.go:191", after := #[], guard := none } : Go.Oper)) rfl (fun K hK => ?_) AllReadyH.nil
          go_simp
          go_at_call 28; ((with_reducible refine (awake_any _).mono ?_); rintro e w' ⟨rfl, hB9⟩)
          have hRx := RX.next hHeld.2 hB9
          refine hK.out _ _ ⟨hTC.out _ hRx, hRx⟩ (fun hHeld => ?_)
          clear hK K hB9 hRx
          try simp only [Act.put, List.setIfInBounds_toArray, List.set_cons_zero, List.set_cons_succ]
          refine wpAnyH_take (i := 1) (oi := ({ dst := some 86, op := Go.Op.move (Go.Operand.tmp 85), type := 4, pos := "law.go:191", after := #[{ on := 0, ground := Go.Ground.data }, { on := 0, ground := Go.Ground.chain }], guard := none } : Go.Oper)) (v := ?_) rfl (by kernel_rfl) (by kernel_rfl) (by kernel_rfl) (fun _ _ _ h => h) (Or.inl ⟨by rfl, ?_⟩) hHeld ?_
          rotate_left
          · intro w hSw; (try dsimp only at hSw); go_simp; (first | done | with_reducible rfl)
          try simp only [Act.put, List.setIfInBounds_toArray, List.set_cons_zero, List.set_cons_succ]
          refine wpAnyH_take (i := 2) (oi := ({ dst := some 87, op := Go.Op.load 3 (Go.Operand.tmp 13), type := 3, pos := "law.go:191", after := #[{ on := 1, ground := Go.Ground.guard }], guard := some (1, true) } : Go.Oper)) (v := ?_) rfl (by kernel_rfl) (by kernel_rfl) (by kernel_rfl) (fun _ _ _ h => h) (Or.inl ⟨by rfl, ?_⟩) hHeld ?_
          rotate_left
          · intro w hSw; (try dsimp only at hSw); go_simp; (first | done | with_reducible rfl)
          try simp only [Act.put, List.setIfInBounds_toArray, List.set_cons_zero, List.set_cons_succ]
          refine wpAnyH_take (i := 3) (oi := ({ dst := some 88, op := Go.Op.load 3 (Go.Operand.tmp 7), type := 3, pos := "law.go:191", after := #[{ on := 1, ground := Go.Ground.guard }], guard := some (1, true) } : Go.Oper)) (v := ?_) rfl (by kernel_rfl) (by kernel_rfl) (by kernel_rfl) (fun _ _ _ h => h) (Or.inl ⟨by rfl, ?_⟩) hHeld ?_
          rotate_left
          · intro w hSw; (try dsimp only at hSw); go_simp; (first | done | with_reducible rfl)
          try simp only [Act.put, List.setIfInBounds_toArray, List.set_cons_zero, List.set_cons_succ]
          refine wpAnyH_take (i := 4) (oi := ({ dst := some 89, op := Go.Op.binOp Go.BinOp.eql 3 (Go.Operand.tmp 87) (Go.Operand.tmp 88) 3, type := 4, pos := "law.go:191", after := #[{ on := 2, ground := Go.Ground.data }, { on := 3, ground := Go.Ground.data }, { on := 1, ground := Go.Ground.guard }], guard := some (1, true) } : Go.Oper)) (v := ?_) rfl (by kernel_rfl) (by kernel_rfl) (by kernel_rfl) (fun _ _ _ h => h) (Or.inl ⟨by rfl, ?_⟩) hHeld ?_
          rotate_left
          · intro w hSw; (try dsimp only at hSw); go_simp; (first | done | with_reducible rfl)
          try simp only [Act.put, List.setIfInBounds_toArray, List.set_cons_zero, List.set_cons_succ]
          refine wpAnyH_take (i := 5) (oi := ({ dst := some 90, op := Go.Op.move (Go.Operand.tmp 89), type := 4, pos := "law.go:191", after := #[{ on := 4, ground := Go.Ground.data }, { on := 1, ground := Go.Ground.chain }, { on := 1, ground := Go.Ground.guard }], guard := some (1, true) } : Go.Oper)) (v := ?_) rfl (by kernel_rfl) (by kernel_rfl) (by kernel_rfl) (fun _ _ _ h => h) (Or.inl ⟨by rfl, ?_⟩) hHeld ?_
          rotate_left
          · intro w hSw; (try dsimp only at hSw); go_simp; (first | done | with_reducible rfl)
          try simp only [Act.put, List.setIfInBounds_toArray, List.set_cons_zero, List.set_cons_succ]
          refine wpAnyH_take (i := 6) (oi := ({ dst := some 91, op := Go.Op.load 3 (Go.Operand.tmp 13), type := 3, pos := "law.go:191", after := #[{ on := 5, ground := Go.Ground.guard }], guard := some (5, false) } : Go.Oper)) (v := undef) rfl (by kernel_rfl) (by kernel_rfl) (by kernel_rfl) (fun _ _ _ h => h) (Or.inr ⟨by rfl, rfl⟩) hHeld ?_
          try simp only [Act.put, List.setIfInBounds_toArray, List.set_cons_zero, List.set_cons_succ]
          refine wpAnyH_take (i := 7) (oi := ({ dst := some 92, op := Go.Op.load 30 (Go.Operand.tmp 10), type := 30, pos := "law.go:191", after := #[{ on := 5, ground := Go.Ground.guard }], guard := some (5, false) } : Go.Oper)) (v := undef) rfl (by kernel_rfl) (by kernel_rfl) (by kernel_rfl) (fun _ _ _ h => h) (Or.inr ⟨by rfl, rfl⟩) hHeld ?_
          try simp only [Act.put, List.setIfInBounds_toArray, List.set_cons_zero, List.set_cons_succ]
          refine wpAnyH_take (i := 8) (oi := ({ dst := some 93, op := Go.Op.call { callee := Go.Callee.builtin Go.Builtin.len, args := #[Go.Operand.tmp 92], argTypes := #[30] }, type := 3, pos := "law.go:191", after := #[{ on := 7, ground := Go.Ground.data }, { on := 5, ground := Go.Ground.guard }], guard := some (5, false) } : Go.Oper)) (v := undef) rfl (by kernel_rfl) (by kernel_rfl) (by kernel_rfl) (fun _ _ _ h => h) (Or.inr ⟨by rfl, rfl⟩) hHeld ?_
          try simp only [Act.put, List.setIfInBounds_toArray, List.set_cons_zero, List.set_cons_succ]
          refine wpAnyH_take (i := 9) (oi := ({ dst := some 94, op := Go.Op.binOp Go.BinOp.eql 3 (Go.Operand.tmp 91) (Go.Operand.tmp 93) 3, type := 4, pos := "law.go:191", after := #[{ on := 6, ground := Go.Ground.data }, { on := 8, ground := Go.Ground.data }, { on := 5, ground := Go.Ground.guard }], guard := some (5, false) } : Go.Oper)) (v := undef) rfl (by kernel_rfl) (by kernel_rfl) (by kernel_rfl) (fun _ _ _ h => h) (Or.inr ⟨by rfl, rfl⟩) hHeld ?_
          try simp only [Act.put, List.setIfInBounds_toArray, List.set_cons_zero, List.set_cons_succ]
          refine wpAnyH_take (i := 10) (oi := ({ dst := some 95, op := Go.Op.pick (Go.Operand.tmp 90) (Go.Operand.const (Go.Value.bool true)) (Go.Operand.tmp 94), type := 4, pos := "law.go:191", after := #[{ on := 5, ground := Go.Ground.data }, { on := 9, ground := Go.Ground.data }, { on := 1, ground := Go.Ground.guard }], guard := some (1, true) } : Go.Oper)) (v := ?_) rfl (by kernel_rfl) (by kernel_rfl) (by kernel_rfl) (fun _ _ _ h => h) (Or.inl ⟨by rfl, ?_⟩) hHeld ?_
          rotate_left
          · intro w hSw; (try dsimp only at hSw); go_simp; (first | done | with_reducible rfl)
          try simp only [Act.put, List.setIfInBounds_toArray, List.set_cons_zero, List.set_cons_succ]
          refine wpAnyH_take (i := 11) (oi := ({ dst := some 96, op := Go.Op.pick (Go.Operand.tmp 86) (Go.Operand.tmp 95) (Go.Operand.const (Go.Value.bool false)), type := 4, pos := "law.go:191", after := #[{ on := 1, ground := Go.Ground.data }, { on := 10, ground := Go.Ground.data }], guard := none } : Go.Oper)) (v := ?_) rfl (by kernel_rfl) (by kernel_rfl) (by kernel_rfl) (fun _ _ _ h => h) (Or.inl ⟨by rfl, ?_⟩) hHeld ?_
          rotate_left
          · intro w hSw; (try dsimp only at hSw); go_simp; (first | done | with_reducible rfl)
          try simp only [Act.put, List.setIfInBounds_toArray, List.set_cons_zero, List.set_cons_succ]
          refine wpAnyH_take (i := 12) (oi := ({ dst := some 97, op := Go.Op.move (Go.Operand.tmp 96), type := 4, pos := "law.go:191", after := #[{ on := 11, ground := Go.Ground.data }, { on := 5, ground := Go.Ground.chain }], guard := none } : Go.Oper)) (v := ?_) rfl (by kernel_rfl) (by kernel_rfl) (by kernel_rfl) (fun _ _ _ h => h) (Or.inl ⟨by rfl, ?_⟩) hHeld ?_
          rotate_left
          · intro w hSw; (try dsimp only at hSw); go_simp; (first | done | with_reducible rfl)
          try simp only [Act.put, List.setIfInBounds_toArray, List.set_cons_zero, List.set_cons_succ]
          refine wpAnyH_take (i := 13) (oi := ({ dst := some 98, op := Go.Op.load 30 (Go.Operand.tmp 10), type := 30, pos := "law.go:191", after := #[{ on := 12, ground := Go.Ground.guard }], guard := some (12, true) } : Go.Oper)) (v := ?_) rfl (by kernel_rfl) (by kernel_rfl) (by kernel_rfl) (fun _ _ _ h => h) (Or.inl ⟨by rfl, ?_⟩) hHeld ?_
          rotate_left
          · intro w hSw; (try dsimp only at hSw); go_simp; (first | done | with_reducible rfl)
          try simp only [Act.put, List.setIfInBounds_toArray, List.set_cons_zero, List.set_cons_succ]
          refine wpAnyH_take (i := 14) (oi := ({ dst := some 99, op := Go.Op.call { callee := Go.Callee.builtin Go.Builtin.len, args := #[Go.Operand.tmp 98], argTypes := #[30] }, type := 3, pos := "law.go:191", after := #[{ on := 13, ground := Go.Ground.data }, { on := 12, ground := Go.Ground.guard }], guard := some (12, true) } : Go.Oper)) (v := ?_) rfl (by kernel_rfl) (by kernel_rfl) (by kernel_rfl) (fun _ _ _ h => h) (Or.inl ⟨by rfl, ?_⟩) hHeld ?_
          rotate_left
          · intro w hSw; (try dsimp only at hSw); go_simp; (first | done | with_reducible rfl)
          try simp only [Act.put, List.setIfInBounds_toArray, List.set_cons_zero, List.set_cons_succ]
          refine wpAnyH_take (i := 15) (oi := ({ dst := some 100, op := Go.Op.move (Go.Operand.tmp 9), type := 23, pos := "law.go:191", after := #[{ on := 12, ground := Go.Ground.guard }], guard := some (12, true) } : Go.Oper)) (v := ?_) rfl (by kernel_rfl) (by kernel_rfl) (by kernel_rfl) (fun _ _ _ h => h) (Or.inl ⟨by rfl, ?_⟩) hHeld ?_
          rotate_left
          · intro w hSw; (try dsimp only at hSw); go_simp; (first | done | with_reducible rfl)
          try simp only [Act.put, List.setIfInBounds_toArray, List.set_cons_zero, List.set_cons_succ]
          refine wpAnyH_ready (rs := [16]) (by kernel_rfl) (by simp) ?_
          refine AllReadyH.cons (o := ({ dst := some 101, op := Go.Op.call { callee := Go.Callee.value (Go.Operand.func 27), args := #[Go.Operand.tmp 100], argTypes := #[23] }, type := 3, pos := "law.go:191", after := #[{ on := 15, ground := Go.Ground.data }, { on := 12, ground := Go.Ground.chain }, { on := 12, ground := Go.Ground.guard }], guard := some (12, true) } : Go.Oper)) rfl (fun K hK => ?_) AllReadyH.nil
          go_simp
          go_at_call 27; ((with_reducible refine (hlen.out _ hHeld.2).mono ?_); rintro e w' ⟨rfl, hB9⟩; have hRw := Lib.hid (RX.next hHeld.2 hB9))
          refine hK.out _ _ ⟨hTC.out _ hRw.out, hRw.out⟩ (fun hHeld => ?_)
          clear hK K hB9
          try simp only [Act.put, List.setIfInBounds_toArray, List.set_cons_zero, List.set_cons_succ]
          refine wpAnyH_take (i := 17) (oi := ({ dst := some 102, op := Go.Op.binOp Go.BinOp.leq 3 (Go.Operand.tmp 99) (Go.Operand.tmp 101) 3, type := 4, pos := "law.go:191", after := #[{ on := 14, ground := Go.Ground.data }, { on := 16, ground := Go.Ground.data }, { on := 12, ground := Go.Ground.guard }], guard := some (12, true) } : Go.Oper)) (v := ?_) rfl (by kernel_rfl) (by kernel_rfl) (by kernel_rfl) (fun _ _ _ h => h) (Or.inl ⟨by rfl, ?_⟩) hHeld ?_
          rotate_left
          · intro w hSw; (try dsimp only at hSw); go_simp; (first | done | with_reducible rfl)
          try simp only [Act.put, List.setIfInBounds_toArray, List.set_cons_zero, List.set_cons_succ]
          refine wpAnyH_take (i := 18) (oi := ({ dst := some 103, op := Go.Op.pick (Go.Operand.tmp 97) (Go.Operand.tmp 102) (Go.Operand.const (Go.Value.bool false)), type := 4, pos := "law.go:191", after := #[{ on := 12, ground := Go.Ground.data }, { on := 17, ground := Go.Ground.data }], guard := none } : Go.Oper)) (v := ?_) rfl (by kernel_rfl) (by kernel_rfl) (by kernel_rfl) (fun _ _ _ h => h) (Or.inl ⟨by rfl, ?_⟩) hHeld ?_
          rotate_left
          · intro w hSw; (try dsimp only at hSw); go_simp; (first | done | with_reducible rfl)
          try simp only [Act.put, List.setIfInBounds_toArray, List.set_cons_zero, List.set_cons_succ]
          refine wpAnyH_ready (rs := [19]) (by kernel_rfl) (by simp) ?_
          refine AllReadyH.cons (o := ({ dst := none, op := Go.Op.store 4 (Go.Operand.tmp 8) (Go.Operand.tmp 103), type := 0, pos := "law.go:191", after := #[{ on := 18, ground := Go.Ground.data }, { on := 16, ground := Go.Ground.chain }, { on := 0, ground := Go.Ground.phase }, { on := 1, ground := Go.Ground.phase }, { on := 2, ground := Go.Ground.phase }, { on := 3, ground := Go.Ground.phase }, { on := 4, ground := Go.Ground.phase }, { on := 5, ground := Go.Ground.phase }, { on := 6, ground := Go.Ground.phase }, { on := 7, ground := Go.Ground.phase }, { on := 8, ground := Go.Ground.phase }, { on := 9, ground := Go.Ground.phase }, { on := 10, ground := Go.Ground.phase }, { on := 11, ground := Go.Ground.phase }, { on := 12, ground := Go.Ground.phase }, { on := 13, ground := Go.Ground.phase }, { on := 14, ground := Go.Ground.phase }, { on := 15, ground := Go.Ground.phase }, { on := 16, ground := Go.Ground.phase }, { on := 17, ground := Go.Ground.phase }, { on := 18, ground := Go.Ground.phase }], guard := none } : Go.Oper)) rfl (fun K hK => ?_) AllReadyH.nil
          go_simp
          refine hK.out _ _ ⟨hTC.out _ (RX.set hHeld.2 _), RX.set hHeld.2 _⟩ (fun hHeld => ?_)
          clear hK K
          try simp only [Act.put, List.setIfInBounds_toArray, List.set_cons_zero, List.set_cons_succ]
          refine wpAnyH_done (by kernel_rfl) ?_ _
          refine NoPanic.normal ?_
          all_goals
            rename_i hHeld
            have hF := Lib.hid (hfin.out _ hRw.out)
            clear hlen hfin
            go_wp2
            refine ⟨by simp, .inl ⟨_, _, rfl, run_takeDeferred hF.out.1, ?_⟩⟩
            refine ⟨.bool true, ?_, rfl, hF.out.2.2⟩
            have hz := hF.out.2.1
            simp [results, Try.f7, go_sem, hz]
        · have hmb : ((ys.length : Int) == most) = false := beq_eq_false_iff_ne.2 hm
          clear hSV hbx hBV
          go_wp2
          first
            | (go_region_held3 (fun w' => TC wr.heap.size w.heap.size (w.heap.size + 1) q (ys.length : Int) most A3 ys.length c3 w' ∧ RX V (w.heap.size + 1) w')
              (first | with_reducible exact ⟨hTC.out _ hS0.out, hS0.out⟩ | with_reducible assumption | with_reducible exact ⟨hTC.out _ (RX.next (And.right (by assumption)) (by assumption)), RX.next (And.right (by assumption)) (by assumption)⟩ | with_reducible exact ⟨hTC.out _ (RX.set (And.right (by assumption)) _), RX.set (And.right (by assumption)) _⟩ | fail)
              (first
                | (go_at_call 28; ((with_reducible refine (awake_any _).mono ?_); rintro e w' ⟨rfl, hB9⟩))
                | (go_at_call 27; ((with_reducible refine (hlen.out _ (And.right (by assumption))).mono ?_); rintro e w' ⟨rfl, hB9⟩; have hRw := Lib.hid (RX.next (And.right (by assumption)) hB9))) | fail))
            | fail
          all_goals
            rename_i hHeld
            have hF := Lib.hid (hfin.out _ hRw.out)
            clear hlen hfin
            go_wp2
            refine ⟨by simp, .inl ⟨_, _, rfl, run_takeDeferred hF.out.1, ?_⟩⟩
            refine ⟨.bool true, ?_, rfl, hF.out.2.2⟩
            have hz := hF.out.2.1
            simp [results, Try.f7, go_sem, hz]
      case stop =>
        rintro D c pre V hD _ ⟨⟨rfl, ps, x, rfl, hps, hbx⟩, hBV⟩ hK
        have hSV := Lib.hid (hSB.out.below hBV)
        have hRd : decide (R.length ≤ ln s2.ch) = true := decide_eq_true hRl
        have hRi : (R.length : Int) ≤ (ln s2.ch : Int) := by omega
        have hlen : Hid (∀ W, RX V (w.heap.size + 1) W → Calls Try.prog 27 #[.pointer (some ⟨S, 0, none⟩)] W fun e w' => e = .returned (.int .i64 (ln s2.ch : Nat)) ∧ Below W.heap.size W w') := Lib.hid fun W hx => len_any W ((plus hSV.out.at_ hSV.out.br).go hx.chg (fun k e => .inr e) (by show ¬ S = _; omega) (by show ¬ b = _; omega))
        have hlt0 := hSB.out.br.lt
        have hfin : Hid (∀ W, RX V (w.heap.size + 1) W → _) := Lib.hid fun W hx => fin_any (D := D) hx hK (by omega) (by omega) hSV.out.bel
        have hTC : Hid (∀ W, RX V (w.heap.size + 1) W → _) := Lib.hid fun W hx => hSV.out.tc hbx (by omega) hqw hx
        have hS0 : Hid (RX V (w.heap.size + 1) V.drew) := Lib.hid (RX.drew ⟨Chg.refl _ _, _, hSV.out.br⟩)
        clear hK hSB hrd hNI
        refine wpIn_wide.2 ?_
        subst hps
        have _ := ()
        clear hSV hbx hBV
        go_wp2
        refine wp_region_noPanic ?_
        refine wp_region_held_drew (S := (fun w' => TC wr.heap.size w.heap.size (w.heap.size + 1) q (ps.length : Int) (ps.length : Int) A3 R.length c3 w' ∧ RX V (w.heap.size + 1) w')) (by kernel_rfl) ⟨hTC.out _ hS0.out, hS0.out⟩ (fun hHeld => ?_)
        refine wpAnyH_ready (rs := [0]) (by kernel_rfl) (by simp) ?_
        refine AllReadyH.cons (o := ({ dst := some 85, op := Go.Op.call { callee := Go.Callee.value (Go.Operand.func 28), args := #[], argTypes := #[] }, type := 4, pos := "law.go:191", after := #[], guard := none } : Go.Oper)) rfl (fun K hK => ?_) AllReadyH.nil
        go_simp
        go_at_call 28; ((with_reducible refine (awake_any _).mono ?_); rintro e w' ⟨rfl, hB9⟩)
        have hRx := RX.next hHeld.2 hB9
        refine hK.out _ _ ⟨hTC.out _ hRx, hRx⟩ (fun hHeld => ?_)
        clear hK K hB9 hRx
        try simp only [Act.put, List.setIfInBounds_toArray, List.set_cons_zero, List.set_cons_succ]
        refine wpAnyH_take (i := 1) (oi := ({ dst := some 86, op := Go.Op.move (Go.Operand.tmp 85), type := 4, pos := "law.go:191", after := #[{ on := 0, ground := Go.Ground.data }, { on := 0, ground := Go.Ground.chain }], guard := none } : Go.Oper)) (v := ?_) rfl (by kernel_rfl) (by kernel_rfl) (by kernel_rfl) (fun _ _ _ h => h) (Or.inl ⟨by rfl, ?_⟩) hHeld ?_
        rotate_left
        · intro w hSw; (try dsimp only at hSw); go_simp; (first | done | with_reducible rfl)
        try simp only [Act.put, List.setIfInBounds_toArray, List.set_cons_zero, List.set_cons_succ]
        refine wpAnyH_take (i := 2) (oi := ({ dst := some 87, op := Go.Op.load 3 (Go.Operand.tmp 13), type := 3, pos := "law.go:191", after := #[{ on := 1, ground := Go.Ground.guard }], guard := some (1, true) } : Go.Oper)) (v := ?_) rfl (by kernel_rfl) (by kernel_rfl) (by kernel_rfl) (fun _ _ _ h => h) (Or.inl ⟨by rfl, ?_⟩) hHeld ?_
        rotate_left
        · intro w hSw; (try dsimp only at hSw); go_simp; (first | done | with_reducible rfl)
        try simp only [Act.put, List.setIfInBounds_toArray, List.set_cons_zero, List.set_cons_succ]
        refine wpAnyH_take (i := 3) (oi := ({ dst := some 88, op := Go.Op.load 3 (Go.Operand.tmp 7), type := 3, pos := "law.go:191", after := #[{ on := 1, ground := Go.Ground.guard }], guard := some (1, true) } : Go.Oper)) (v := ?_) rfl (by kernel_rfl) (by kernel_rfl) (by kernel_rfl) (fun _ _ _ h => h) (Or.inl ⟨by rfl, ?_⟩) hHeld ?_
        rotate_left
        · intro w hSw; (try dsimp only at hSw); go_simp; (first | done | with_reducible rfl)
        try simp only [Act.put, List.setIfInBounds_toArray, List.set_cons_zero, List.set_cons_succ]
        refine wpAnyH_take (i := 4) (oi := ({ dst := some 89, op := Go.Op.binOp Go.BinOp.eql 3 (Go.Operand.tmp 87) (Go.Operand.tmp 88) 3, type := 4, pos := "law.go:191", after := #[{ on := 2, ground := Go.Ground.data }, { on := 3, ground := Go.Ground.data }, { on := 1, ground := Go.Ground.guard }], guard := some (1, true) } : Go.Oper)) (v := ?_) rfl (by kernel_rfl) (by kernel_rfl) (by kernel_rfl) (fun _ _ _ h => h) (Or.inl ⟨by rfl, ?_⟩) hHeld ?_
        rotate_left
        · intro w hSw; (try dsimp only at hSw); go_simp; (first | done | with_reducible rfl)
        try simp only [Act.put, List.setIfInBounds_toArray, List.set_cons_zero, List.set_cons_succ]
        refine wpAnyH_take (i := 5) (oi := ({ dst := some 90, op := Go.Op.move (Go.Operand.tmp 89), type := 4, pos := "law.go:191", after := #[{ on := 4, ground := Go.Ground.data }, { on := 1, ground := Go.Ground.chain }, { on := 1, ground := Go.Ground.guard }], guard := some (1, true) } : Go.Oper)) (v := ?_) rfl (by kernel_rfl) (by kernel_rfl) (by kernel_rfl) (fun _ _ _ h => h) (Or.inl ⟨by rfl, ?_⟩) hHeld ?_
        rotate_left
        · intro w hSw; (try dsimp only at hSw); go_simp; (first | done | with_reducible rfl)
        try simp only [Act.put, List.setIfInBounds_toArray, List.set_cons_zero, List.set_cons_succ]
        refine wpAnyH_take (i := 6) (oi := ({ dst := some 91, op := Go.Op.load 3 (Go.Operand.tmp 13), type := 3, pos := "law.go:191", after := #[{ on := 5, ground := Go.Ground.guard }], guard := some (5, false) } : Go.Oper)) (v := undef) rfl (by kernel_rfl) (by kernel_rfl) (by kernel_rfl) (fun _ _ _ h => h) (Or.inr ⟨by rfl, rfl⟩) hHeld ?_
        try simp only [Act.put, List.setIfInBounds_toArray, List.set_cons_zero, List.set_cons_succ]
        refine wpAnyH_take (i := 7) (oi := ({ dst := some 92, op := Go.Op.load 30 (Go.Operand.tmp 10), type := 30, pos := "law.go:191", after := #[{ on := 5, ground := Go.Ground.guard }], guard := some (5, false) } : Go.Oper)) (v := undef) rfl (by kernel_rfl) (by kernel_rfl) (by kernel_rfl) (fun _ _ _ h => h) (Or.inr ⟨by rfl, rfl⟩) hHeld ?_
        try simp only [Act.put, List.setIfInBounds_toArray, List.set_cons_zero, List.set_cons_succ]
        refine wpAnyH_take (i := 8) (oi := ({ dst := some 93, op := Go.Op.call { callee := Go.Callee.builtin Go.Builtin.len, args := #[Go.Operand.tmp 92], argTypes := #[30] }, type := 3, pos := "law.go:191", after := #[{ on := 7, ground := Go.Ground.data }, { on := 5, ground := Go.Ground.guard }], guard := some (5, false) } : Go.Oper)) (v := undef) rfl (by kernel_rfl) (by kernel_rfl) (by kernel_rfl) (fun _ _ _ h => h) (Or.inr ⟨by rfl, rfl⟩) hHeld ?_
        try simp only [Act.put, List.setIfInBounds_toArray, List.set_cons_zero, List.set_cons_succ]
        refine wpAnyH_take (i := 9) (oi := ({ dst := some 94, op := Go.Op.binOp Go.BinOp.eql 3 (Go.Operand.tmp 91) (Go.Operand.tmp 93) 3, type := 4, pos := "law.go:191", after := #[{ on := 6, ground := Go.Ground.data }, { on := 8, ground := Go.Ground.data }, { on := 5, ground := Go.Ground.guard }], guard := some (5, false) } : Go.Oper)) (v := undef) rfl (by kernel_rfl) (by kernel_rfl) (by kernel_rfl) (fun _ _ _ h => h) (Or.inr ⟨by rfl, rfl⟩) hHeld ?_
        try simp only [Act.put, List.setIfInBounds_toArray, List.set_cons_zero, List.set_cons_succ]
        refine wpAnyH_take (i := 10) (oi := ({ dst := some 95, op := Go.Op.pick (Go.Operand.tmp 90) (Go.Operand.const (Go.Value.bool true)) (Go.Operand.tmp 94), type := 4, pos := "law.go:191", after := #[{ on := 5, ground := Go.Ground.data }, { on := 9, ground := Go.Ground.data }, { on := 1, ground := Go.Ground.guard }], guard := some (1, true) } : Go.Oper)) (v := ?_) rfl (by kernel_rfl) (by kernel_rfl) (by kernel_rfl) (fun _ _ _ h => h) (Or.inl ⟨by rfl, ?_⟩) hHeld ?_
        rotate_left
        · intro w hSw; (try dsimp only at hSw); go_simp; (first | done | with_reducible rfl)
        try simp only [Act.put, List.setIfInBounds_toArray, List.set_cons_zero, List.set_cons_succ]
        refine wpAnyH_take (i := 11) (oi := ({ dst := some 96, op := Go.Op.pick (Go.Operand.tmp 86) (Go.Operand.tmp 95) (Go.Operand.const (Go.Value.bool false)), type := 4, pos := "law.go:191", after := #[{ on := 1, ground := Go.Ground.data }, { on := 10, ground := Go.Ground.data }], guard := none } : Go.Oper)) (v := ?_) rfl (by kernel_rfl) (by kernel_rfl) (by kernel_rfl) (fun _ _ _ h => h) (Or.inl ⟨by rfl, ?_⟩) hHeld ?_
        rotate_left
        · intro w hSw; (try dsimp only at hSw); go_simp; (first | done | with_reducible rfl)
        try simp only [Act.put, List.setIfInBounds_toArray, List.set_cons_zero, List.set_cons_succ]
        refine wpAnyH_take (i := 12) (oi := ({ dst := some 97, op := Go.Op.move (Go.Operand.tmp 96), type := 4, pos := "law.go:191", after := #[{ on := 11, ground := Go.Ground.data }, { on := 5, ground := Go.Ground.chain }], guard := none } : Go.Oper)) (v := ?_) rfl (by kernel_rfl) (by kernel_rfl) (by kernel_rfl) (fun _ _ _ h => h) (Or.inl ⟨by rfl, ?_⟩) hHeld ?_
        rotate_left
        · intro w hSw; (try dsimp only at hSw); go_simp; (first | done | with_reducible rfl)
        try simp only [Act.put, List.setIfInBounds_toArray, List.set_cons_zero, List.set_cons_succ]
        refine wpAnyH_take (i := 13) (oi := ({ dst := some 98, op := Go.Op.load 30 (Go.Operand.tmp 10), type := 30, pos := "law.go:191", after := #[{ on := 12, ground := Go.Ground.guard }], guard := some (12, true) } : Go.Oper)) (v := ?_) rfl (by kernel_rfl) (by kernel_rfl) (by kernel_rfl) (fun _ _ _ h => h) (Or.inl ⟨by rfl, ?_⟩) hHeld ?_
        rotate_left
        · intro w hSw; (try dsimp only at hSw); go_simp; (first | done | with_reducible rfl)
        try simp only [Act.put, List.setIfInBounds_toArray, List.set_cons_zero, List.set_cons_succ]
        refine wpAnyH_take (i := 14) (oi := ({ dst := some 99, op := Go.Op.call { callee := Go.Callee.builtin Go.Builtin.len, args := #[Go.Operand.tmp 98], argTypes := #[30] }, type := 3, pos := "law.go:191", after := #[{ on := 13, ground := Go.Ground.data }, { on := 12, ground := Go.Ground.guard }], guard := some (12, true) } : Go.Oper)) (v := ?_) rfl (by kernel_rfl) (by kernel_rfl) (by kernel_rfl) (fun _ _ _ h => h) (Or.inl ⟨by rfl, ?_⟩) hHeld ?_
        rotate_left
        · intro w hSw; (try dsimp only at hSw); go_simp; (first | done | with_reducible rfl)
        try simp only [Act.put, List.setIfInBounds_toArray, List.set_cons_zero, List.set_cons_succ]
        refine wpAnyH_take (i := 15) (oi := ({ dst := some 100, op := Go.Op.move (Go.Operand.tmp 9), type := 23, pos := "law.go:191", after := #[{ on := 12, ground := Go.Ground.guard }], guard := some (12, true) } : Go.Oper)) (v := ?_) rfl (by kernel_rfl) (by kernel_rfl) (by kernel_rfl) (fun _ _ _ h => h) (Or.inl ⟨by rfl, ?_⟩) hHeld ?_
        rotate_left
        · intro w hSw; (try dsimp only at hSw); go_simp; (first | done | with_reducible rfl)
        try simp only [Act.put, List.setIfInBounds_toArray, List.set_cons_zero, List.set_cons_succ]
        refine wpAnyH_ready (rs := [16]) (by kernel_rfl) (by simp) ?_
        refine AllReadyH.cons (o := ({ dst := some 101, op := Go.Op.call { callee := Go.Callee.value (Go.Operand.func 27), args := #[Go.Operand.tmp 100], argTypes := #[23] }, type := 3, pos := "law.go:191", after := #[{ on := 15, ground := Go.Ground.data }, { on := 12, ground := Go.Ground.chain }, { on := 12, ground := Go.Ground.guard }], guard := some (12, true) } : Go.Oper)) rfl (fun K hK => ?_) AllReadyH.nil
        go_simp
        go_at_call 27; ((with_reducible refine (hlen.out _ hHeld.2).mono ?_); rintro e w' ⟨rfl, hB9⟩; have hRw := Lib.hid (RX.next hHeld.2 hB9))
        refine hK.out _ _ ⟨hTC.out _ hRw.out, hRw.out⟩ (fun hHeld => ?_)
        clear hK K hB9
        try simp only [Act.put, List.setIfInBounds_toArray, List.set_cons_zero, List.set_cons_succ]
        refine wpAnyH_take (i := 17) (oi := ({ dst := some 102, op := Go.Op.binOp Go.BinOp.leq 3 (Go.Operand.tmp 99) (Go.Operand.tmp 101) 3, type := 4, pos := "law.go:191", after := #[{ on := 14, ground := Go.Ground.data }, { on := 16, ground := Go.Ground.data }, { on := 12, ground := Go.Ground.guard }], guard := some (12, true) } : Go.Oper)) (v := ?_) rfl (by kernel_rfl) (by kernel_rfl) (by kernel_rfl) (fun _ _ _ h => h) (Or.inl ⟨by rfl, ?_⟩) hHeld ?_
        rotate_left
        · intro w hSw; (try dsimp only at hSw); go_simp; (first | done | with_reducible rfl)
        try simp only [Act.put, List.setIfInBounds_toArray, List.set_cons_zero, List.set_cons_succ]
        refine wpAnyH_take (i := 18) (oi := ({ dst := some 103, op := Go.Op.pick (Go.Operand.tmp 97) (Go.Operand.tmp 102) (Go.Operand.const (Go.Value.bool false)), type := 4, pos := "law.go:191", after := #[{ on := 12, ground := Go.Ground.data }, { on := 17, ground := Go.Ground.data }], guard := none } : Go.Oper)) (v := ?_) rfl (by kernel_rfl) (by kernel_rfl) (by kernel_rfl) (fun _ _ _ h => h) (Or.inl ⟨by rfl, ?_⟩) hHeld ?_
        rotate_left
        · intro w hSw; (try dsimp only at hSw); go_simp; (first | done | with_reducible rfl)
        try simp only [Act.put, List.setIfInBounds_toArray, List.set_cons_zero, List.set_cons_succ]
        refine wpAnyH_ready (rs := [19]) (by kernel_rfl) (by simp) ?_
        refine AllReadyH.cons (o := ({ dst := none, op := Go.Op.store 4 (Go.Operand.tmp 8) (Go.Operand.tmp 103), type := 0, pos := "law.go:191", after := #[{ on := 18, ground := Go.Ground.data }, { on := 16, ground := Go.Ground.chain }, { on := 0, ground := Go.Ground.phase }, { on := 1, ground := Go.Ground.phase }, { on := 2, ground := Go.Ground.phase }, { on := 3, ground := Go.Ground.phase }, { on := 4, ground := Go.Ground.phase }, { on := 5, ground := Go.Ground.phase }, { on := 6, ground := Go.Ground.phase }, { on := 7, ground := Go.Ground.phase }, { on := 8, ground := Go.Ground.phase }, { on := 9, ground := Go.Ground.phase }, { on := 10, ground := Go.Ground.phase }, { on := 11, ground := Go.Ground.phase }, { on := 12, ground := Go.Ground.phase }, { on := 13, ground := Go.Ground.phase }, { on := 14, ground := Go.Ground.phase }, { on := 15, ground := Go.Ground.phase }, { on := 16, ground := Go.Ground.phase }, { on := 17, ground := Go.Ground.phase }, { on := 18, ground := Go.Ground.phase }], guard := none } : Go.Oper)) rfl (fun K hK => ?_) AllReadyH.nil
        go_simp
        refine hK.out _ _ ⟨hTC.out _ (RX.set hHeld.2 _), RX.set hHeld.2 _⟩ (fun hHeld => ?_)
        clear hK K
        try simp only [Act.put, List.setIfInBounds_toArray, List.set_cons_zero, List.set_cons_succ]
        refine wpAnyH_done (by kernel_rfl) ?_ _
        refine NoPanic.normal ?_
        all_goals
          rename_i hHeld
          have hF := Lib.hid (hfin.out _ hRw.out)
          clear hlen hfin
          go_wp2
          refine ⟨by simp, .inl ⟨_, _, rfl, run_takeDeferred hF.out.1, ?_⟩⟩
          refine ⟨.bool true, ?_, rfl, hF.out.2.2⟩
          have hz := hF.out.2.1
          simp [results, Try.f7, go_sem, hz]
end Go.Proofs.Ytlojmojmijklmaa.stoSp
