/- The document's Begin, Commit. -/
import Derived.Test.YtnicomhodnfggaaSeU
set_option linter.unusedVariables false
set_option linter.unusedSimpArgs false
set_option maxRecDepth 100000
namespace Go.Proofs.Ytnicomhodnfggaa.seX
open Go.ChangeShapes Go.WideShapes Go.ChangeAt Go.RowKit Go.Deep
open opV chnM gen chnA chnR chnE seM seI ordC seL seN seB seK seV seW seG seC seQ seR seU
attribute [local go_sem high] bin_slt bin_sle bin_sge bin_sgt bin_seq bin_sne

section
variable {col : Nat → Nat} {c q : Nat} {S : Ss}
theorem dbegin_open (w : World) (h : DocAt col c w q S) (hf : Fresh col w) (hop : S.op = true) (t : Int) : Calls Try.prog 10 #[.pointer (some ⟨q, 0, none⟩), .int .u64 t] w fun e w' =>
    e = .returned (.tuple #[.int .u64 0, .int .i64 17]) ∧ DLv col c q S w w' := by
  have hfin := Lib.hid (dlv_stay h hf (Below.refl _ _))
  obtain ⟨Aw, cw, Ac, cc, h⟩ := h
  obtain ⟨k0, k1, k2, k3, k4⟩ := h.cells
  rw [hop] at k2
  clear h
  go_enter Try.func10, Try.ntmps10
  go_wp2
  go_ret2
  exact ⟨rfl, hfin.out⟩
/-- between the rounds: what stays -/
structure DB (w : World) (out : List Ver) (A : Option Addr) (cA : Nat) (V : World) : Prop where
  bel : Below w.heap.size w V
  own : GV V w.heap.size A cA out
theorem DB.below {w V V' : World} {out : List Ver} {A : Option Addr} {cA : Nat} (h : DB w out A cA V) (hB : Below V.heap.size V V') : DB w out A cA V' := ⟨trans0 h.bel hB, h.own.below hB⟩
theorem DB.app {w V V' : World} {out : List Ver} {A A' : Option Addr} {cA c' : Nat} (h : DB w out A cA V) (x : Ver) (hg : V.grownBy V' (Value.slice A out.length cA).ownBlock) (hr : V'.ownsRow w.heap.size 41 6 (.slice A' (out.length + 1) c') (out.length + 1) (fl out ++ cL x)) : DB w (out ++ [x]) A' c' V' := by
  have hlen : (out ++ [x]).length = out.length + 1 := by simp
  have hB : Below w.heap.size w V' := ⟨hg.os.trans h.bel.os, hg.tape.trans h.bel.tape, hg.output.trans h.bel.output, Nat.le_trans h.bel.size hg.size, fun k hk => (hg.block k (by have := h.bel.size; omega) (fun e => by have := (h.own.lt k e.symm).1; omega)).trans (h.bel.block k hk)⟩
  refine ⟨hB, ?_⟩
  unfold GV
  rw [hlen, fl_app, fl_one]
  exact hr
set_option maxHeartbeats 4000000 in
theorem dbegin_shut (w : World) (h : DocAt col c w q S) (hc : c ≠ 0) (hf : Fresh col w) (hok : S.ok) (hop : S.op = false) (hcn : S.cnt ≤ 10000) (t : Int) : Calls Try.prog 10 #[.pointer (some ⟨q, 0, none⟩), .int .u64 t] w fun e w' =>
    e = .returned (.tuple #[.int .u64 (max S.snap t), .int .i64 0]) ∧ DLv col c q { S with op := true, snap := max S.snap t, ca := S.ca.filter (newer (max S.snap t)) } w w' := by
  obtain ⟨iV, hiV, hzV0, hzV1, hzV2⟩ := info_parts infoV
  have hws := hok.cl hop
  have hcl := hok.cn
  obtain ⟨Aw, cw, Ac, cc, h⟩ := h
  obtain ⟨k0, k1, k2, k3, k4⟩ := h.cells
  have f0 := h.fz 0
  have f2 := h.fz 2
  have f3 := h.fz 3
  rw [hop] at k2
  obtain ⟨g1, h1⟩ := h.setOp hc true
  obtain ⟨g2, h2⟩ := h1.setW hc (DV.nil_ col _)
  have hg := g1.tran g2
  simp only [List.length_nil] at h2 hg
  obtain ⟨W5, hW5⟩ : ∃ W5, (w.setCell ⟨q, 2, none⟩ (.bool true)).setCell ⟨q, 3, none⟩ (.slice none 0 0) = W5 := ⟨_, rfl⟩
  rw [hW5] at h2 hg
  obtain ⟨sn, hsn⟩ : ∃ x, max S.snap t = x := ⟨_, rfl⟩
  rw [hsn]
  have hway : ∃ W6, Chg col c w W6 ∧ DocM col c W6 q sn S.last true none 0 [] Ac cc S.ca ∧ ((S.snap < t ∧ W5.setCell ⟨q, 0, none⟩ (.int .u64 t) = W6) ∨ (¬ S.snap < t ∧ W5 = W6)) := by
    by_cases hlt : S.snap < t
    · obtain ⟨g3, h3⟩ := h2.setSn hc t
      have e : sn = t := by omega
      exact ⟨_, hg.tran g3, by rw [e]; exact h3, .inl ⟨hlt, rfl⟩⟩
    · have e : sn = S.snap := by omega
      exact ⟨_, hg, by rw [e]; exact h2, .inr ⟨hlt, rfl⟩⟩
  obtain ⟨W6, g6, h6, hway⟩ := hway
  have hend := Lib.hid (fun V A9 c9 r (e : r = S.ca.filter (newer sn)) (hD : DB W6 r A9 c9 V) => (by
    have hl : r.length ≤ S.ca.length := by rw [e]; exact List.length_filter_le _ _
    obtain ⟨g7, h7⟩ := (h6.below hD.bel).setC hc (DV.of_gv hD.own (by omega) (hf.up g6.size))
    refine ⟨(h6.below hD.bel).cells, (h6.below hD.bel).fz 4, col, ⟨Ext.refl _ _, ((hf.up g6.size).up hD.bel.size).up g7.size, (g6.then hD.bel).tran g7⟩, none, 0, A9, c9, ?_⟩
    rw [← e, hws]
    exact h7 : (V.cell? ⟨q, 0, none⟩ = some (.int .u64 sn) ∧ V.cell? ⟨q, 1, none⟩ = some (.int .u64 S.last) ∧ V.cell? ⟨q, 2, none⟩ = some (.bool true) ∧ V.cell? ⟨q, 3, none⟩ = some (.slice none 0 0) ∧ V.cell? ⟨q, 4, none⟩ = some (.slice Ac S.ca.length cc)) ∧ V.frozen? ⟨q, 4, none⟩ = false ∧ DLv col c q { S with op := true, snap := sn, ca := S.ca.filter (newer sn) } w (V.setCell ⟨q, 4, none⟩ (.slice A9 r.length c9))))
  have hrd := Lib.hid (fun V r A9 c9 (hD : DB W6 r A9 c9 V) (j : Nat) (hj : j < S.ca.length) => And.intro (h6.below hD.bel).cells ((h6.below hD.bel).cd.hv.at hj))
  have hD0 : Hid (DB W6 ((S.ca.take 0).filter (newer sn)) none 0 W6) := Lib.hid ⟨Below.refl _ _, GV.nil_ _ _⟩
  have hl0 : ((S.ca.take 0).filter (newer sn)).length = 0 := rfl
  have happ := Lib.hid (fun V V' out x A2 c2 A9 c9 (hQ : DB W6 out A2 c2 V) hg hr => hQ.app (V' := V') (A' := A9) (c' := c9) x hg hr)
  have hnx := Lib.hid (fun j hj => filt_take (p := newer sn) (l := S.ca) (j := j) hj)
  have hfl := Lib.hid (fun j => filt_len (p := newer sn) (l := S.ca) (j := j))
  have hft := Lib.hid (show (S.ca.take S.ca.length).filter (newer sn) = S.ca.filter (newer sn) from by rw [List.take_length])
  have hca : S.ca.length ≤ 10000 := by omega
  have hc6 := Lib.hid h6.cells
  have hone := Lib.hid cL_one
  replace hsn := Lib.hid hsn
  replace hW5 := Lib.hid hW5
  obtain ⟨R, hR⟩ : ∃ R, S.ca.filter (newer sn) = R := ⟨_, rfl⟩
  rw [hR] at hend hft ⊢
  clear hR h h1 h2 h6 g1 g2 g6 hg hok hcl hws
  rcases hway with ⟨hlt, hw6⟩ | ⟨hlt, hw6⟩
  all_goals
    replace hw6 := Lib.hid hw6
    go_enter Try.func10, Try.ntmps10
    go_upto_region 6 with (fail)
    rw [hW5.out]
    rw [hw6.out]
    clear k0 k1 k2 k3 k4 f0 f2 f3 hW5 hlt
    obtain ⟨k0, k1, k2, k3, k4⟩ := hc6.out
    clear hw6
    go_wp2
    clear k0 k1 k2 k3 k4
    go_loopw [6, 7] (fun u i wr => ∃ (j : Nat) (A2 : Option Addr) (c2 : Nat), u = .slice A2 ((S.ca.take j).filter (newer sn)).length c2 ∧ i = .int .i64 j ∧ j ≤ S.ca.length ∧ Hid (DB W6 ((S.ca.take j).filter (newer sn)) A2 c2 wr)) (fun _ i _ => S.ca.length - (intOf i).toNat)
    case atStart => exact ⟨0, none, 0, by rw [hl0], rfl, by omega, hD0⟩
    case round =>
      clear hD0 hl0
      obtain ⟨j, A2, c2, rfl, rfl, hj, hD⟩ := hrel
      by_cases hjl : j < S.ca.length
      · have hjI : (j : Int) < (S.ca.length : Int) := by omega
        have hn1 := hnx.out j hjl
        have hol := hfl.out j
        obtain ⟨⟨k0, k1, k2, k3, k4⟩, pb, po, hA, hpb, hx⟩ := hrd.out _ _ _ _ hD.out j hjl
        obtain ⟨x, hxe⟩ : ∃ x, nt S.ca j = x := ⟨_, rfl⟩
        rw [hxe] at hx hn1
        rw [hA] at k4
        obtain ⟨c0, c1, c2', c3, c4, c5⟩ := hx
        obtain ⟨r, hr⟩ : ∃ r, (S.ca.take j).filter (newer sn) = r := ⟨_, rfl⟩
        rw [hr] at hn1 hol hD
        rw [hr]
        have hall := Lib.hid (fun n => hD.out.below (bdrN n (Below.refl _ _)))
        by_cases hx : x.ts ≤ sn
        · have hnw : newer sn x = false := by unfold newer; exact decide_eq_false (by omega)
          have hxI : ¬ sn < x.ts := by omega
          rw [hnw, if_neg (by simp), List.append_nil] at hn1
          replace hn1 := Lib.hid hn1
          clear hnw hx hr hD happ hend hrd hft hnx hfl hxe
          go_upto_region 10 with (fail)
          go_quiet (fail)
          have hD1 := Lib.hid (hall.out nq)
          clear hall k0 k1 k2 k3 k4 c0 c1 c2' c3 c4 c5
          generalize wr.drewN nq = W7 at *
          go_wp2
          go_roundw
          case rel => exact ⟨j + 1, A2, c2, by rw [hn1.out], by go_num, by omega, by rw [hn1.out]; exact hD1⟩
          case measure => simp [intOf]; omega
        · have hnw : newer sn x = true := by unfold newer; exact decide_eq_true (by omega)
          have hxI : sn < x.ts := by omega
          rw [hnw, if_pos rfl] at hn1
          replace hn1 := Lib.hid hn1
          have hx6 := Lib.hid (fun V (hD : DB W6 r A2 c2 V) => (by
            obtain ⟨⟨q0, q1, q2, q3, q4⟩, pb', po', e, _, hx⟩ := hrd.out V _ _ _ hD j hjl
            rw [hxe] at hx
            rw [hA] at e q4
            cases e
            exact ⟨q4, hx⟩ : V.cell? ⟨q, 4, none⟩ = some (.slice (some ⟨pb, po, none⟩) S.ca.length cc) ∧ V6 pb (po + j * 6) x V))
          clear hnw hx hr hD hend hrd hft hnx hfl hxe
          go_upto_region 10 with (fail)
          go_quiet (fail)
          have hD1 := Lib.hid (hall.out nq)
          clear hall k0 k1 k2 k3 k4 c0 c1 c2' c3 c4 c5
          generalize wr.drewN nq = W7 at *
          obtain ⟨k4, c0, c1, c2', c3, c4, c5⟩ := hx6.out _ hD1.out
          have hst := Lib.hid (stand_new W7 (cL x) 41 1)
          have hqa := hD1.out.below (al0 W7 (.cells #[.string x.key, .string x.val, .bool x.gone, .int .u64 x.ts, .int .i64 x.dc, .int .i64 x.tx] 41))
          have hown := Lib.hid hqa.own
          have hap := Lib.hid (fun V' A9 c9 hg hr => happ.out _ V' _ x _ _ A9 c9 hqa hg hr)
          have hsz : W6.heap.size ≤ W7.heap.size + 1 := by have := hD1.out.bel.size; omega
          clear hqa happ hx6 hD1
          go_wp2_with (at_builtin; refine wpList_gen rfl (.tmp 50) (.tmp 58) 27 rfl W6.heap.size 41 iV _ 6 64 Try.underlying27 hiV hzV0 hzV1 hzV2 rfl (by decide) _ r.length (fl r) (by rfl) hown.out (some ⟨W7.heap.size, 0, none⟩) 1 1 (cL x) (by rfl) rfl hst.out (hone.out _) (by unfold maxLen; omega) (by omega) (by simp only [World.size_alloc]; exact hsz) ?_; intro A9 c9 w9 hr9 hg9 hat9; have hD9 := Lib.hid (hap.out w9 A9 c9 hg9 hr9); clear hr9 hg9 hat9 hst hown hap hsz k4 c0 c1 c2' c3 c4 c5)
          go_roundw
          case rel => exact ⟨j + 1, A9, c9, by rw [hn1.out]; simp, by go_num, by omega, by rw [hn1.out]; exact hD9⟩
          case measure => simp [intOf]; omega
      · obtain rfl : j = S.ca.length := by omega
        rw [hft.out] at hD ⊢
        obtain ⟨⟨k0, k1, k2, k3, k4⟩, f4, hfi⟩ := hend.out _ _ _ _ rfl hD.out
        replace hfi := Lib.hid hfi
        clear hD happ hend hrd hft hnx hfl
        go_wp2
        go_ret2
        exact ⟨rfl, hfi.out⟩
theorem dbegin_at (w : World) (h : DocAt col c w q S) (hc : c ≠ 0) (hf : Fresh col w) (hok : S.ok) (hcn : S.cnt ≤ 10000) (t : Int) : Calls Try.prog 10 #[.pointer (some ⟨q, 0, none⟩), .int .u64 t] w fun e w' =>
    e = .returned (.tuple #[.int .u64 (beT S t), .int .i64 (beE S)]) ∧ DLv col c q (beS S t) w w' := by
  cases hop : S.op with
  | true =>
    have e1 : beT S t = 0 := by unfold beT; rw [hop]; rfl
    have e2 : beE S = 17 := by unfold beE; rw [hop]; rfl
    have e3 : beS S t = S := by unfold beS; rw [hop]; rfl
    rw [e1, e2, e3]
    exact dbegin_open w h hf hop t
  | false =>
    have e1 : beT S t = max S.snap t := by unfold beT; rw [hop]; rfl
    have e2 : beE S = 0 := by unfold beE; rw [hop]; rfl
    have e3 : beS S t = { S with op := true, snap := max S.snap t, ca := S.ca.filter (newer (max S.snap t)) } := by unfold beS; rw [hop]; rfl
    rw [e1, e2, e3]
    exact dbegin_shut w h hc hf hok hop hcn t
end
end Go.Proofs.Ytnicomhodnfggaa.seX
