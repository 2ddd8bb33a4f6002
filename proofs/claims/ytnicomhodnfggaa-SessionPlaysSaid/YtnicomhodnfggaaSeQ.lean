/- The document's has and put. -/
import Derived.Test.YtnicomhodnfggaaSeW
import Derived.LoopTactic
set_option linter.unusedVariables false
set_option linter.unusedSimpArgs false
set_option maxRecDepth 100000
namespace Go.Proofs.Ytnicomhodnfggaa.seQ
open Go.ChangeShapes Go.WideShapes Go.ChangeAt Go.RowKit Go.Deep
open opV chnM gen chnA chnR chnE seM seI ordC seL seN seB seK seV seW
attribute [local go_sem high] bin_slt bin_sle bin_sge bin_sgt bin_seq bin_sne

theorem fnd_at {l : List Ver} {k : ByteArray} {j : Nat} (hj : j < l.length) (h0 : ∀ i, i < j → seq (nt l i).key k = false) (h1 : seq (nt l j).key k = true) : fnd l k = some (nt l j) := by
  unfold fnd
  rw [List.find?_eq_some_iff_getElem]
  refine ⟨h1, j, hj, (nt_at hj).symm, fun i hi => ?_⟩
  have := h0 i hi
  rw [nt_at (by omega)] at this
  rw [this]; rfl
theorem fnd_no {l : List Ver} {k : ByteArray} (h0 : ∀ i, i < l.length → seq (nt l i).key k = false) : fnd l k = none := by
  refine fnd_none fun x hx e => ?_
  obtain ⟨i, hi, rfl⟩ := mem_nt hx
  have := h0 i hi
  rw [e, seq_self] at this; cases this
set_option maxHeartbeats 1000000 in
theorem has_any (A : Option Addr) (c : Nat) (l : List Ver) (k : ByteArray) (w : World) (h : HV w A c l) : Calls Try.prog 30 #[.slice A l.length c, .string k] w fun e w' =>
    e = .returned (.tuple #[vv ((fnd l k).getD default), .bool (is l k)]) ∧ Below w.heap.size w w' := by
  obtain ⟨W, hW⟩ : ∃ W, w.alloc (.cells #[.string { data := #[] }, .string { data := #[] }, .bool false, .int .u64 0, .int .i64 0, .int .i64 0] 41) = W := ⟨_, rfl⟩
  have hP : R6 w.heap.size v0 W := by rw [← hW]; exact R6.new w v0
  have hB : Below w.heap.size w W := by rw [← hW]; exact al0 _ _
  have hn9 : l.length ≤ 9223372036854775807 := Nat.le_trans h.le h.top
  have hL := Lib.hid (show R6 w.heap.size v0 W ∧ Below w.heap.size w W from ⟨hP, hB⟩)
  have hat := Lib.hid (fun (j : Nat) (hj : j < l.length) (V : World) (hB : Below w.heap.size w V) => (h.below hB).at hj)
  have hye := Lib.hid (fun (j : Nat) hj h0 h1 => fnd_at (l := l) (k := k) (j := j) hj h0 h1)
  have hno := Lib.hid (fun h0 => fnd_no (l := l) (k := k) h0)
  obtain ⟨rv, hrv⟩ : ∃ v, (fnd l k).getD default = v := ⟨_, rfl⟩
  obtain ⟨rb, hrb⟩ : ∃ b, is l k = b := ⟨_, rfl⟩
  rw [hrv, hrb]
  replace hrv := Lib.hid hrv
  replace hrb := Lib.hid hrb
  replace hW := Lib.hid hW
  clear h hP hB
  go_enter Try.func30, Try.ntmps30
  go_upto_region 1 with (fail)
  rw [hW.out]
  clear hW
  go_wp2
  go_loopw [6] (fun i wr => ∃ j : Nat, i = .int .i64 j ∧ j ≤ l.length ∧ Hid (∀ i, i < j → seq (nt l i).key k = false) ∧ Hid (R6 w.heap.size v0 wr ∧ Below w.heap.size w wr)) (fun i _ => l.length - (intOf i).toNat)
  case atStart => exact ⟨0, rfl, by omega, Lib.hid (fun i hi => by omega), hL⟩
  case round =>
    clear hL
    obtain ⟨j, rfl, hj, hs, hL⟩ := hrel
    by_cases hjl : j < l.length
    · have hjI : (j : Int) < (l.length : Int) := by omega
      obtain ⟨pb, po, rfl, hpb, hx⟩ := hat.out j hjl _ hL.out.2
      cases hq : seq (nt l j).key k with
      | true =>
        have hf := hye.out j hjl hs.out hq
        have e1 : rv = nt l j := by rw [← hrv.out, hf]; rfl
        have e2 : rb = true := by rw [← hrb.out]; unfold is; rw [hf]; rfl
        subst e2
        obtain ⟨f0, f1, f2, f3, f4, f5⟩ := hL.out.1.fz
        obtain ⟨b0, b1, b2, b3, b4, b5⟩ := hL.out.1.v6
        have hlt := hL.out.1.lt
        have hfin := Lib.hid (put6_below (b := w.heap.size) hL.out.2 (Nat.le_refl _) rv)
        clear hs hye hno hrv hrb hf hat hL
        rw [← e1] at hx hq
        clear e1
        obtain ⟨c0, c1, c2, c3, c4, c5⟩ := hx
        go_wp2
        exact bodyPost_ret (v := .tuple #[vv rv, .bool true]) (by simp [results, Try.results30, go_sem, b0, b1, b2, b3, b4, b5, hlt]) rfl ⟨rfl, hfin.out⟩
      | false =>
        have hs' := Lib.hid (show ∀ i, i < j + 1 → seq (nt l i).key k = false from fun i hi => by
          by_cases e : i = j
          · rw [e]; exact hq
          · exact hs.out i (by omega))
        clear hs hye hno hrv hrb
        generalize nt l j = x at *
        obtain ⟨c0, c1, c2, c3, c4, c5⟩ := hx
        go_wp2
        go_roundw
        case rel => exact ⟨j + 1, by go_num, by omega, hs', hL⟩
        case measure => simp [intOf]; omega
    · obtain rfl : j = l.length := by omega
      have hf := hno.out hs.out
      have e1 : rv = v0 := by rw [← hrv.out, hf]; rfl
      have e2 : rb = false := by rw [← hrb.out]; unfold is; rw [hf]; rfl
      subst e1 e2
      obtain ⟨f0, f1, f2, f3, f4, f5⟩ := hL.out.1.fz
      obtain ⟨b0, b1, b2, b3, b4, b5⟩ := hL.out.1.v6
      have hlt := hL.out.1.lt
      have hfin := Lib.hid (put6_below (b := w.heap.size) hL.out.2 (Nat.le_refl _) v0)
      clear hs hye hno hrv hrb hf hat hL
      go_wp2
      exact bodyPost_ret (v := .tuple #[vv v0, .bool false]) (by simp [results, Try.results30, go_sem, b0, b1, b2, b3, b4, b5, hlt]) rfl ⟨rfl, hfin.out⟩
/-- between the rounds of put -/
structure PQ (w : World) (l : List Ver) (v : Ver) (out : List Ver) (A0 : Option Addr) (c0 : Nat) (A : Option Addr) (c : Nat) (V : World) : Prop where
  bel : Below w.heap.size w V
  bx : V6 w.heap.size 0 v V
  hv : HV V A0 c0 l
  own : GV V (w.heap.size + 1) A c out
section
variable {w V V' : World} {l out : List Ver} {v : Ver} {A0 A A' : Option Addr} {c0 c c' : Nat}
theorem PQ.below (h : PQ w l v out A0 c0 A c V) (hB : Below V.heap.size V V') : PQ w l v out A0 c0 A c V' :=
  ⟨trans0 h.bel hB, h.bx.below hB, h.hv.below hB, h.own.below hB⟩
theorem PQ.app (h : PQ w l v out A0 c0 A c V) (x : Ver) (hl : HV w A0 c0 l) (hg : V.grownBy V' (Value.slice A out.length c).ownBlock) (hr : V'.ownsRow (w.heap.size + 1) 41 6 (.slice A' (out.length + 1) c') (out.length + 1) (fl out ++ cL x)) : PQ w l v (out ++ [x]) A0 c0 A' c' V' := by
  have hlen : (out ++ [x]).length = out.length + 1 := by simp
  have hB : Below w.heap.size w V' := ⟨hg.os.trans h.bel.os, hg.tape.trans h.bel.tape, hg.output.trans h.bel.output, Nat.le_trans h.bel.size hg.size, fun k hk => (hg.block k (by have := h.bel.size; omega) (fun e => by have := (h.own.lt k e.symm).1; omega)).trans (h.bel.block k hk)⟩
  refine ⟨hB, h.bx.of_block (hg.block _ h.bx.lt (fun e => by have := (h.own.lt _ e.symm).1; omega)), hl.below hB, ?_⟩
  unfold GV
  rw [hlen, fl_app, fl_one]
  exact hr
end
set_option maxHeartbeats 4000000 in
theorem put_any (A : Option Addr) (c : Nat) (l : List Ver) (v : Ver) (w : World) (h : HV w A c l) (hn : l.length ≤ 20000) : Calls Try.prog 31 #[.slice A l.length c, vv v] w (RV (pK l v) w) := by
  obtain ⟨iV, hiV, hzV0, hzV1, hzV2⟩ := info_parts infoV
  obtain ⟨W, hW⟩ : ∃ W, w.alloc (.cells #[.string v.key, .string v.val, .bool v.gone, .int .u64 v.ts, .int .i64 v.dc, .int .i64 v.tx] 41) = W := ⟨_, rfl⟩
  have hB : Below w.heap.size w W := by rw [← hW]; exact al0 _ _
  have hQ0 := Lib.hid (show PQ w l v (ouK l v 0) A c none 0 W from ⟨hB, by rw [← hW]; exact V6.new w v _, h.below hB, by rw [ouK_0]; exact GV.nil_ _ _⟩)
  have hl0 : (ouK l v 0).length = 0 := by rw [ouK_0]; rfl
  have happ := Lib.hid (fun V V' out x A2 c2 A9 c9 (hQ : PQ w l v out A c A2 c2 V) hg hr => hQ.app (V' := V') (A' := A9) (c' := c9) x h hg hr)
  have hlt1 := Lib.hid (fun i hi => ouK_lt (l := l) (v := v) (i := i) hi)
  have hat1 := Lib.hid (fun i hi hj => ouK_at (l := l) (v := v) (i := i) hi hj)
  have hgt1 := Lib.hid (fun i hi hj => ouK_gt (l := l) (v := v) (i := i) hi hj)
  have hlen := Lib.hid (fun i => ouK_len (l := l) (v := v) (i := i))
  have hend := Lib.hid (ouK_end (l := l) (v := v))
  have hin : ∀ i, isIn l v.key i = decide (pos l v.key < i) := fun i => rfl
  replace hin := Lib.hid hin
  have hret := Lib.hid (fun V r A9 c9 (e : r = pK l v) (hQ : PQ w l v r A c A9 c9 V) => (⟨A9, c9, by rw [← e], by rw [← e]; exact hQ.own.more (by omega), hQ.bel⟩ : RV (pK l v) w (.returned (.slice A9 r.length c9)) V))
  obtain ⟨Q, hQp⟩ : ∃ Q, pos l v.key = Q := ⟨_, rfl⟩
  have hQl : Q ≤ l.length := by rw [← hQp]; exact pos_le _ _
  rw [hQp] at hlt1 hat1 hgt1 hin
  generalize pK l v = R at *
  replace hW := Lib.hid hW
  have hone := Lib.hid cL_one
  clear h hB hQp
  go_enter Try.func31, Try.ntmps31
  go_upto_region 1 with (fail)
  rw [hW.out]
  clear hW
  go_wp2
  go_loopw [5, 6, 7] (fun u b i wr => ∃ (j : Nat) (A2 : Option Addr) (c2 : Nat), u = .slice A2 (ouK l v j).length c2 ∧ b = .bool (decide (Q < j)) ∧ i = .int .i64 j ∧ j ≤ l.length ∧ Hid (PQ w l v (ouK l v j) A c A2 c2 wr)) (fun _ _ i _ => l.length - (intOf i).toNat)
  case atStart => exact ⟨0, none, 0, by rw [hl0], by simp, rfl, by omega, hQ0⟩
  case round =>
    clear hQ0 hl0
    obtain ⟨j, A2, c2, rfl, rfl, rfl, hj, hQ⟩ := hrel
    by_cases hjl : j < l.length
    · have hjI : (j : Int) < (l.length : Int) := by omega
      obtain ⟨pb, po, rfl, hpb, hx⟩ := hQ.out.hv.at hjl
      have hrd := Lib.hid (fun V out A2 c2 (hQ : PQ w l v out (some ⟨pb, po, none⟩) c A2 c2 V) => (by
        obtain ⟨pb', po', e, _, hx⟩ := hQ.hv.at hjl
        cases e
        exact ⟨hx, hQ.bx⟩ : V6 pb (po + j * 6) (nt l j) V ∧ V6 w.heap.size 0 v V))
      have hol := hlen.out j
      obtain ⟨k, hk⟩ : ∃ k, ouK l v (j + 1) = k := ⟨_, rfl⟩
      have hdw := Lib.hid (fun V out A2 c2 (hQ : PQ w l v out (some ⟨pb, po, none⟩) c A2 c2 V) n => hQ.below (bdrN n (Below.refl _ _)))
      clear hx
      rcases Nat.lt_trichotomy j Q with hc | hc | hc
      · obtain ⟨z1, z2, z3⟩ := hlt1.out j hc
        have hcc : ¬ Q < j := by omega
        have hcd : ¬ Q < j + 1 := by omega
        rw [decide_eq_false hcc]
        clear hk hc hlt1 hat1 hgt1 hlen hend hin hret hcc
        generalize nt l j = x at *
        generalize hoe : ouK l v j = out at *
        replace hoe := Lib.hid hoe
        replace z3 := Lib.hid z3
        obtain ⟨⟨c0, c1, c2', c3, c4, c5⟩, ⟨b0, b1, b2, b3, b4, b5⟩⟩ := hrd.out wr _ _ _ hQ.out
        go_upto_region 6 with (fail)
        go_quiet (fail)
        have hQ1 := Lib.hid (hdw.out _ _ _ _ hQ.out nq)
        clear hQ
        clear c0 c1 c2' c3 c4 c5 b0 b1 b2 b3 b4 b5
        generalize wr.drewN nq = W1 at *
        obtain ⟨⟨c0, c1, c2', c3, c4, c5⟩, ⟨b0, b1, b2, b3, b4, b5⟩⟩ := hrd.out W1 _ _ _ hQ1.out
        go_upto_region 8 with (fail)
        go_quiet (fail)
        have hQ2 := Lib.hid (hdw.out _ _ _ _ hQ1.out nq)
        clear hQ1
        clear c0 c1 c2' c3 c4 c5 b0 b1 b2 b3 b4 b5
        generalize W1.drewN nq = W2 at *
        obtain ⟨⟨c0, c1, c2', c3, c4, c5⟩, ⟨b0, b1, b2, b3, b4, b5⟩⟩ := hrd.out W2 _ _ _ hQ2.out
        have hstw3 := Lib.hid (stand_new W2 (cL x) 41 1)
        have hqaw3 := hQ2.out.below (al0 W2 (.cells #[.string x.key, .string x.val, .bool x.gone, .int .u64 x.ts, .int .i64 x.dc, .int .i64 x.tx] 41))
        have hownw3 := Lib.hid hqaw3.own
        have hapw3 := Lib.hid (fun V' A9 c9 hg hr => happ.out _ V' _ x _ _ A9 c9 hqaw3 hg hr)
        have hszw3 : w.heap.size + 1 ≤ W2.heap.size + 1 := by have := hQ2.out.bel.size; omega
        clear hqaw3
        go_wp2_with (at_builtin; refine wpList_gen rfl (.tmp 38) (.tmp 43) 27 rfl (w.heap.size + 1) 41 iV _ 6 64 Try.underlying27 hiV hzV0 hzV1 hzV2 rfl (by decide) _ (out).length (fl (out)) (by rfl) hownw3.out (some ⟨W2.heap.size, 0, none⟩) 1 1 (cL x) (by rfl) rfl hstw3.out (hone.out _) (by unfold maxLen; omega) (by omega) (by simp only [World.size_alloc]; exact hszw3) ?_; intro A9 Ac9 w3 hr9 hg9 hat9; have hQ3 := Lib.hid (hapw3.out w3 A9 Ac9 hg9 hr9); clear hr9 hg9 hat9 hstw3 hownw3 hapw3 hszw3)
        go_roundw
        case rel => exact ⟨j + 1, A9, Ac9, by rw [z3.out]; simp, (by rw [decide_eq_false hcd]), by go_num, by omega, by rw [z3.out]; exact hQ3⟩
        case measure => simp [intOf]; omega
      · obtain ⟨z1, z3⟩ := hat1.out j hc hjl
        have hcc : ¬ Q < j := by omega
        have hcd : Q < j + 1 := by omega
        rw [decide_eq_false hcc]
        clear hk hc hlt1 hat1 hgt1 hlen hend hin hret hcc
        generalize nt l j = x at *
        generalize hoe : ouK l v j = out at *
        replace hoe := Lib.hid hoe
        obtain ⟨⟨c0, c1, c2', c3, c4, c5⟩, ⟨b0, b1, b2, b3, b4, b5⟩⟩ := hrd.out wr _ _ _ hQ.out
        go_upto_region 6 with (fail)
        go_quiet (fail)
        have hQ1 := Lib.hid (hdw.out _ _ _ _ hQ.out nq)
        clear hQ
        clear c0 c1 c2' c3 c4 c5 b0 b1 b2 b3 b4 b5
        generalize wr.drewN nq = W1 at *
        obtain ⟨⟨c0, c1, c2', c3, c4, c5⟩, ⟨b0, b1, b2, b3, b4, b5⟩⟩ := hrd.out W1 _ _ _ hQ1.out
        replace z3 := Lib.hid z3
        clear z1
        have hlo1 : (out ++ [v]).length = out.length + 1 := by simp
        have hstw3 := Lib.hid (stand_new W1 (cL v) 41 1)
        have hqaw3 := hQ1.out.below (al0 W1 (.cells #[.string v.key, .string v.val, .bool v.gone, .int .u64 v.ts, .int .i64 v.dc, .int .i64 v.tx] 41))
        have hownw3 := Lib.hid hqaw3.own
        have hapw3 := Lib.hid (fun V' A9 c9 hg hr => happ.out _ V' _ v _ _ A9 c9 hqaw3 hg hr)
        have hszw3 : w.heap.size + 1 ≤ W1.heap.size + 1 := by have := hQ1.out.bel.size; omega
        clear hqaw3
        go_upto_region 8 with (at_builtin; refine wpList_gen rfl (.tmp 26) (.tmp 28) 27 rfl (w.heap.size + 1) 41 iV _ 6 64 Try.underlying27 hiV hzV0 hzV1 hzV2 rfl (by decide) _ (out).length (fl (out)) (by rfl) hownw3.out (some ⟨W1.heap.size, 0, none⟩) 1 1 (cL v) (by rfl) rfl hstw3.out (hone.out _) (by unfold maxLen; omega) (by omega) (by simp only [World.size_alloc]; exact hszw3) ?_; intro B9 Bc9 w3 hr9 hg9 hat9; have hQ3 := Lib.hid (hapw3.out w3 B9 Bc9 hg9 hr9); clear c0 c1 c2' c3 c4 c5 b0 b1 b2 b3 b4 b5; obtain ⟨⟨c0, c1, c2', c3, c4, c5⟩, ⟨b0, b1, b2, b3, b4, b5⟩⟩ := hrd.out w3 _ _ _ hQ3.out; clear hr9 hg9 hat9 hstw3 hownw3 hapw3 hszw3)
        cases hs : seq x.key v.key with
        | true =>
          have z4 := z3.out
          rw [hs, if_pos rfl, List.append_nil] at z4
          replace z4 := Lib.hid z4
          go_quiet (fail)
          have hQ4 := Lib.hid (hdw.out _ _ _ _ hQ3.out nq)
          clear hQ3 z3
          clear c0 c1 c2' c3 c4 c5 b0 b1 b2 b3 b4 b5
          go_wp2
          go_roundw
          case rel => exact ⟨j + 1, B9, Bc9, by rw [z4.out, hlo1], (by rw [decide_eq_true hcd]), by go_num, by omega, by rw [z4.out]; exact hQ4⟩
          case measure => simp [intOf]; omega
        | false =>
          have z4 := z3.out
          rw [hs, if_neg (by simp)] at z4
          replace z4 := Lib.hid z4
          go_quiet (fail)
          have hQ4 := Lib.hid (hdw.out _ _ _ _ hQ3.out nq)
          clear hQ3 z3
          clear c0 c1 c2' c3 c4 c5 b0 b1 b2 b3 b4 b5
          generalize w3.drewN nq = W4 at *
          obtain ⟨⟨c0, c1, c2', c3, c4, c5⟩, ⟨b0, b1, b2, b3, b4, b5⟩⟩ := hrd.out W4 _ _ _ hQ4.out
          obtain ⟨o2, ho2⟩ : ∃ o2, out ++ [v] = o2 := ⟨_, rfl⟩
          rw [ho2] at z4 hQ4 hlo1
          rw [← hlo1]
          clear ho2
          have hstw5 := Lib.hid (stand_new W4 (cL x) 41 1)
          have hqaw5 := hQ4.out.below (al0 W4 (.cells #[.string x.key, .string x.val, .bool x.gone, .int .u64 x.ts, .int .i64 x.dc, .int .i64 x.tx] 41))
          have hownw5 := Lib.hid hqaw5.own
          have hapw5 := Lib.hid (fun V' A9 c9 hg hr => happ.out _ V' _ x _ _ A9 c9 hqaw5 hg hr)
          have hszw5 : w.heap.size + 1 ≤ W4.heap.size + 1 := by have := hQ4.out.bel.size; omega
          clear hqaw5
          go_wp2_with (at_builtin; refine wpList_gen rfl (.tmp 38) (.tmp 43) 27 rfl (w.heap.size + 1) 41 iV _ 6 64 Try.underlying27 hiV hzV0 hzV1 hzV2 rfl (by decide) _ (o2).length (fl (o2)) (by rfl) hownw5.out (some ⟨W4.heap.size, 0, none⟩) 1 1 (cL x) (by rfl) rfl hstw5.out (hone.out _) (by unfold maxLen; omega) (by omega) (by simp only [World.size_alloc]; exact hszw5) ?_; intro C9 Cc9 w5 hr9 hg9 hat9; have hQ5 := Lib.hid (hapw5.out w5 C9 Cc9 hg9 hr9); clear hr9 hg9 hat9 hstw5 hownw5 hapw5 hszw5)
          go_roundw
          case rel => exact ⟨j + 1, C9, Cc9, by rw [z4.out]; simp [hlo1], (by rw [decide_eq_true hcd]), by go_num, by omega, by rw [z4.out]; exact hQ5⟩
          case measure => simp [intOf]; omega
      · have z3 := hgt1.out j hc hjl
        have hcd : Q < j + 1 := by omega
        rw [decide_eq_true hc]
        clear hk hc hlt1 hat1 hgt1 hlen hend hin hret
        generalize nt l j = x at *
        generalize hoe : ouK l v j = out at *
        replace hoe := Lib.hid hoe
        obtain ⟨⟨c0, c1, c2', c3, c4, c5⟩, ⟨b0, b1, b2, b3, b4, b5⟩⟩ := hrd.out wr _ _ _ hQ.out
        go_upto_region 6 with (fail)
        go_quiet (fail)
        have hQ1 := Lib.hid (hdw.out _ _ _ _ hQ.out nq)
        clear hQ
        clear c0 c1 c2' c3 c4 c5 b0 b1 b2 b3 b4 b5
        generalize wr.drewN nq = W1 at *
        obtain ⟨⟨c0, c1, c2', c3, c4, c5⟩, ⟨b0, b1, b2, b3, b4, b5⟩⟩ := hrd.out W1 _ _ _ hQ1.out
        cases hs : seq x.key v.key with
        | true =>
          rw [hs, if_pos rfl, List.append_nil] at z3
          replace z3 := Lib.hid z3
          go_upto_region 8 with (fail)
          go_quiet (fail)
          have hQ4 := Lib.hid (hdw.out _ _ _ _ hQ1.out nq)
          clear hQ1
          clear c0 c1 c2' c3 c4 c5 b0 b1 b2 b3 b4 b5
          go_wp2
          go_roundw
          case rel => exact ⟨j + 1, A2, c2, by rw [z3.out], (by rw [decide_eq_true hcd]), by go_num, by omega, by rw [z3.out]; exact hQ4⟩
          case measure => simp [intOf]; omega
        | false =>
          rw [hs, if_neg (by simp)] at z3
          replace z3 := Lib.hid z3
          go_upto_region 8 with (fail)
          go_quiet (fail)
          have hQ4 := Lib.hid (hdw.out _ _ _ _ hQ1.out nq)
          clear hQ1
          clear c0 c1 c2' c3 c4 c5 b0 b1 b2 b3 b4 b5
          generalize W1.drewN nq = W4 at *
          obtain ⟨⟨c0, c1, c2', c3, c4, c5⟩, ⟨b0, b1, b2, b3, b4, b5⟩⟩ := hrd.out W4 _ _ _ hQ4.out
          have hstw5 := Lib.hid (stand_new W4 (cL x) 41 1)
          have hqaw5 := hQ4.out.below (al0 W4 (.cells #[.string x.key, .string x.val, .bool x.gone, .int .u64 x.ts, .int .i64 x.dc, .int .i64 x.tx] 41))
          have hownw5 := Lib.hid hqaw5.own
          have hapw5 := Lib.hid (fun V' A9 c9 hg hr => happ.out _ V' _ x _ _ A9 c9 hqaw5 hg hr)
          have hszw5 : w.heap.size + 1 ≤ W4.heap.size + 1 := by have := hQ4.out.bel.size; omega
          clear hqaw5
          go_wp2_with (at_builtin; refine wpList_gen rfl (.tmp 38) (.tmp 43) 27 rfl (w.heap.size + 1) 41 iV _ 6 64 Try.underlying27 hiV hzV0 hzV1 hzV2 rfl (by decide) _ (out).length (fl (out)) (by rfl) hownw5.out (some ⟨W4.heap.size, 0, none⟩) 1 1 (cL x) (by rfl) rfl hstw5.out (hone.out _) (by unfold maxLen; omega) (by omega) (by simp only [World.size_alloc]; exact hszw5) ?_; intro C9 Cc9 w5 hr9 hg9 hat9; have hQ5 := Lib.hid (hapw5.out w5 C9 Cc9 hg9 hr9); clear hr9 hg9 hat9 hstw5 hownw5 hapw5 hszw5)
          go_roundw
          case rel => exact ⟨j + 1, C9, Cc9, by rw [z3.out]; simp, (by rw [decide_eq_true hcd]), by go_num, by omega, by rw [z3.out]; exact hQ5⟩
          case measure => simp [intOf]; omega
    · obtain rfl : j = l.length := by omega
      have he := hend.out
      rw [hin.out] at he
      have hol := hlen.out l.length
      clear hlt1 hat1 hgt1 hlen hend hin hQl
      obtain ⟨r, hr⟩ : ∃ r, ouK l v l.length = r := ⟨_, rfl⟩
      rw [hr] at he hQ hol ⊢
      clear hr
      by_cases hin2 : Q < l.length
      · rw [decide_eq_true hin2, if_pos rfl] at he
        rw [decide_eq_true hin2]
        have hfin := Lib.hid (hret.out _ r _ _ he.symm hQ.out)
        clear hret happ he hQ
        go_wp2
        go_ret
        exact hfin.out
      · rw [decide_eq_false hin2, if_neg (by simp)] at he
        rw [decide_eq_false hin2]
        obtain ⟨b0, b1, b2, b3, b4, b5⟩ := hQ.out.bx
        have hfin := Lib.hid (fun V A9 c9 hQ9 => hret.out V (r ++ [v]) A9 c9 he.symm hQ9)
        have hl2 : (r ++ [v]).length = r.length + 1 := by simp
        rw [hl2] at hfin
        clear hret he hl2
        have hstw3 := Lib.hid (stand_new wr (cL v) 41 1)
        have hqaw3 := hQ.out.below (al0 wr (.cells #[.string v.key, .string v.val, .bool v.gone, .int .u64 v.ts, .int .i64 v.dc, .int .i64 v.tx] 41))
        have hownw3 := Lib.hid hqaw3.own
        have hapw3 := Lib.hid (fun V' A9 c9 hg hr => happ.out _ V' _ v _ _ A9 c9 hqaw3 hg hr)
        have hszw3 : w.heap.size + 1 ≤ wr.heap.size + 1 := by have := hQ.out.bel.size; omega
        clear hqaw3
        go_wp2_with (at_builtin; refine wpList_gen rfl (.tmp 47) (.tmp 49) 27 rfl (w.heap.size + 1) 41 iV _ 6 64 Try.underlying27 hiV hzV0 hzV1 hzV2 rfl (by decide) _ (r).length (fl (r)) (by rfl) hownw3.out (some ⟨wr.heap.size, 0, none⟩) 1 1 (cL v) (by rfl) rfl hstw3.out (hone.out _) (by unfold maxLen; omega) (by omega) (by simp only [World.size_alloc]; exact hszw3) ?_; intro B9 Bc9 w3 hr9 hg9 hat9; have hQ9 := Lib.hid (hapw3.out w3 B9 Bc9 hg9 hr9); clear hr9 hg9 hat9 hstw3 hownw3 hapw3 hszw3)
        go_wp2
        go_ret
        exact hfin.out _ _ _ hQ9.out
end Go.Proofs.Ytnicomhodnfggaa.seQ
