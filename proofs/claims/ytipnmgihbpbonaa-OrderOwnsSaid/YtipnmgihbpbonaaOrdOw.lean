/- OrderOwns: the walk. -/
import Derived.Test.YtipnmgihbpbonaaOrdOwA
import Derived.Test.YtipnmgihbpbonaaRngS
import Derived.Test.YtipnmgihbpbonaaOrdOwR
set_option linter.unusedVariables false
set_option linter.unusedSimpArgs false
set_option maxRecDepth 100000
namespace Go.Proofs.Ytipnmgihbpbonaa.ordOw
open Go.ChangeShapes Go.WideShapes Go.ChangeAt Go.RowKit Go.Deep Go.Shelf
open opG opV opR chnM gen chnA chnR chnE ordA ordB ordC ordM ordL ordD ordH ordI ordK ordRl ordW ordS ordE2 ordE3 ordRi ordF rngR rngS ordPb ordOwA ordOwR
attribute [local go_sem] Oper.semAt_some

set_option maxHeartbeats 8000000 in
theorem owns_any (m0 : MR) (a1 : Int) (w : World) (hk : kRec w m0) : Calls Try.prog 6 #[rv m0, .int .i64 a1] w fun e w' => e = .returned (.bool true) ∧ Below w.heap.size w w' := by
  obtain ⟨⟨kt0, kt1⟩, -, -, kv, ks⟩ := hk
  have hP1 := P4.new w m0
  have hB1 := al0 w (.cells #[.int .u64 m0.ts, .int .i64 m0.dc, .int .i64 m0.tx, .slice m0.A m0.vs.length m0.c] 32)
  obtain ⟨Wa, hWa⟩ : ∃ W, w.alloc (.cells #[.int .u64 m0.ts, .int .i64 m0.dc, .int .i64 m0.tx, .slice m0.A m0.vs.length m0.c] 32) = W := ⟨_, rfl⟩
  have hsa : Wa.heap.size = w.heap.size + 1 := by rw [← hWa]; simp
  rw [hWa] at hP1 hB1
  have hB2 := al0 Wa (.cells #[.int .i64 a1] 3)
  have hmo : (Wa.alloc (.cells #[.int .i64 a1] 3)).cell? ⟨Wa.heap.size, 0, none⟩ = some (.int .i64 a1) := cell_of_row _ _ 0 #[.int .i64 a1] 3 (0, 0) (heap_alloc_new Wa _)
  obtain ⟨Wb, hWb⟩ : ∃ W, Wa.alloc (.cells #[.int .i64 a1] 3) = W := ⟨_, rfl⟩
  have hsb : Wb.heap.size = w.heap.size + 1 + 1 := by rw [← hWb]; simp [hsa]
  rw [hWb, hsa] at hmo
  rw [hWb] at hB2
  have hnew := Lib.hid (new_any Wb)
  have hP2 := hP1.below hB2
  have hBb := trans0 hB1 hB2
  have hB3 := al0 Wb (.cells #[.slice none 0 0, .slice none 0 0, .int .u64 0] T1)
  obtain ⟨hlog, hfr, -⟩ := at_new (T := T1) (col := colB w.heap.size) (c := 1) Wb (by decide) (colB_fresh (by omega))
  obtain ⟨Wc, hWc⟩ : ∃ W, Wb.alloc (.cells #[.slice none 0 0, .slice none 0 0, .int .u64 0] T1) = W := ⟨_, rfl⟩
  have hsc : Wc.heap.size = w.heap.size + 1 + 1 + 1 := by rw [← hWc]; simp [hsb]
  rw [hWc, hsb] at hlog hfr
  rw [hWc] at hB3
  have hP3 := Lib.hid (hP2.below hB3)
  have hBc := Lib.hid (trans0 hBb hB3)
  have hmo3 := Lib.hid (keep_cell hB3 hmo)
  replace hlog := Lib.hid hlog
  replace hfr := Lib.hid hfr
  have hfew := Lib.hid (few_any m0 Wc kv.le kv.top)
  replace hWa := Lib.hid hWa
  replace hWb := Lib.hid hWb
  replace hWc := Lib.hid hWc
  replace hsa := Lib.hid hsa
  replace hsb := Lib.hid hsb
  replace hsc := Lib.hid hsc
  replace kv := Lib.hid kv
  replace ks := Lib.hid ks
  clear hP1 hB1 hB2 hmo hP2 hBb hB3
  obtain ⟨b0, b1, b2, b3⟩ := hP3.out.r4
  refine (callsIn_wide (n := 6)).1 ?_
  refine callsIn_of_wp_marks Try.func6 rfl trivial ?_ rfl
  simp only [Try.ntmps6, List.size_toArray, List.length_cons, List.length_nil, Nat.reduceAdd, Nat.reduceSub, Array.replicate_succ, Array.replicate_zero, List.push_toArray, List.append_toArray, List.nil_append, List.cons_append]
  refine wpIn_wide.2 ?_
  go_wp2_with (fail)
  rw [hWa.out, hWb.out]
  with_reducible refine hnew.out.mono ?_
  rintro e w1 ⟨rfl, rfl⟩
  rw [hWc.out, hsb.out]
  go_wp2_with (fail)
  with_reducible refine hfew.out.mono ?_
  rintro e w2 ⟨rfl, hB2⟩
  obtain ⟨t, ht⟩ : ∃ t, max m0.ts 1 = t := ⟨_, rfl⟩
  have ht2 : max (fw m0).ts 1 = t := ht
  have ht1 : 1 ≤ t := by omega
  have ht9 : t < 18446744073709551616 := by omega
  have hP4 := hP3.out.below hB2
  obtain ⟨z0, z1, z2, z3⟩ := hP4.fz
  obtain ⟨c0, c1, c2, c3⟩ := hP4.r4
  have hP5 := Lib.hid (hP4.put (fw m0))
  obtain ⟨d0, d1, d2, d3⟩ := hP5.out.r4
  obtain ⟨y0, y1, y2, y3⟩ := hP5.out.fz
  unfold put4 at d0 d1 d2 d3 y0 y1 y2 y3
  have hOB := Lib.hid (ob_start hP3.out hBc.out hmo3.out hlog.out hsc.out kv.out ks.out hB2 t)
  have hfr6 : Hid (Fresh (colP (colB w.heap.size) (w.heap.size + 1 + 1) 1) ((put4 w2 w.heap.size (fw m0)).setCell ⟨w.heap.size, 0, none⟩ (.int .u64 t))) := Lib.hid (hfr.out.up (by simp only [World.size_setCell]; exact hB2.size))
  have hv12 : (mT m0 t).vs.length * 64 ≤ 140737488355328 := by
    show (m0.vs.take 12).length * 64 ≤ _
    rw [List.length_take]; omega
  have hmt : (mT m0 t).ts = t := rfl
  have hcpy := Lib.hid (copy_any (mT m0 t) _ hOB.out.dv.hv hOB.out.dv.sm)
  replace ht := Lib.hid ht
  replace ht2 := Lib.hid ht2
  clear b0 b1 b2 b3 hnew hfew hP4 hP3 hBc hmo3 hlog hfr kv ks hB2
  go_wp2_with (fail)
  rw [ht2.out]
  obtain ⟨m, hm⟩ : ∃ m, mT m0 t = m := ⟨_, rfl⟩
  rw [hm] at hOB hcpy hv12 hmt
  have e1 : (fw m0).dc = m.dc := by rw [← hm]; rfl
  have e2 : (fw m0).tx = m.tx := by rw [← hm]; rfl
  have e3 : (fw m0).A = m.A := by rw [← hm]; rfl
  have e4 : (fw m0).vs = m.vs := by rw [← hm]; rfl
  have e5 : (fw m0).c = m.c := by rw [← hm]; rfl
  have ew : (put4 w2 w.heap.size (fw m0)).setCell ⟨w.heap.size, 0, none⟩ (.int .u64 t) = (((((w2.setCell ⟨w.heap.size, 0, none⟩ (.int .u64 (fw m0).ts)).setCell ⟨w.heap.size, 1, none⟩ (.int .i64 (fw m0).dc)).setCell ⟨w.heap.size, 2, none⟩ (.int .i64 (fw m0).tx)).setCell ⟨w.heap.size, 3, none⟩ (.slice (fw m0).A (fw m0).vs.length (fw m0).c)).setCell ⟨w.heap.size, 0, none⟩ (.int .u64 t)) := rfl
  rw [← ew]
  generalize (put4 w2 w.heap.size (fw m0)).setCell ⟨w.heap.size, 0, none⟩ (.int .u64 t) = W6 at *
  rw [e1, e2, e3, e4, e5, ← hmt]
  have hm1 : 1 ≤ m.ts := by omega
  have hm9 : m.ts < 18446744073709551616 := by omega
  replace hmt := Lib.hid hmt
  replace hm := Lib.hid hm
  clear ht1 ht9 ht ht2
  with_reducible refine hcpy.out.mono ?_
  rintro e w7 ⟨A, c, rfl, hG, hB7⟩
  have hJ := oj_start hOB.out hfr6.out hG hB7
  have hPm := P4.new w7 { m with A := A, c := c }
  simp only at hPm
  have hrb := (hOB.out.below (trans0 hB7 (al0 w7 (.cells #[.int .u64 m.ts, .int .i64 m.dc, .int .i64 m.tx, .slice A m.vs.length c] 32))))
  have hmv := Lib.hid ((hG.below (al0 w7 (.cells #[.int .u64 m.ts, .int .i64 m.dc, .int .i64 m.tx, .slice A m.vs.length c] 32))).hv hv12)
  obtain ⟨W8, hW8⟩ : ∃ W8, w7.alloc (.cells #[.int .u64 m.ts, .int .i64 m.dc, .int .i64 m.tx, .slice A m.vs.length c] 32) = W8 := ⟨_, rfl⟩
  rw [hW8] at hJ hPm hrb hmv
  replace hW8 := Lib.hid hW8
  have hsm8 := Lib.hid (rsame_any { m with A := A, c := c } m W8 hmv.out hrb.dv.hv)
  have e9 : sameR { m with A := A, c := c } m = true := decide_eq_true rfl
  rw [e9] at hsm8
  obtain ⟨b0, b1, b2, b3⟩ := hrb.rb.r4
  obtain ⟨f0, f1, f2, f3⟩ := hPm.r4
  replace hJ := Lib.hid hJ
  replace hPm := Lib.hid hPm
  rw [← hW8.out] at b0 b1 b2 b3 f0 f1 f2 f3
  generalize hmbe : w7.heap.size = mb at *
  clear hcpy hOB hfr6 hG hB7 hrb hmt hm hmv c0 c1 c2 c3 d0 d1 d2 d3 y0 y1 y2 y3 z0 z1 z2 z3 e1 e2 e3 e4 e5 e9 ew hP5
  go_wp2_with (fail)
  rw [hW8.out]
  with_reducible refine hsm8.out.mono ?_
  rintro e w9 ⟨rfl, hB9⟩
  have hJ9 := hJ.out.below hB9
  have hd9 := Lib.hid (oj_dec hJ9 hm1 hv12)
  obtain ⟨g0, g1, g2, g3⟩ := (hPm.out.below hB9).r4
  clear b0 b1 b2 b3 f0 f1 f2 f3 hB9 hJ9 hsm8 hJ hPm
  go_wp2_with (fail)
  with_reducible refine hd9.out.mono ?_
  rintro e w10 ⟨rfl, hJ10⟩
  have hr10 := Lib.hid (oj_rel hJ10 hm1 hm9)
  clear g0 g1 g2 g3 hd9 hJ10
  go_wp2_with (fail)
  with_reducible refine hr10.out.mono ?_
  rintro e w11 ⟨rfl, col, hO, hM, hF⟩
  have hMI := Lib.hid (mi_new hM hv12)
  have x3 := hM.mx
  replace hO := Lib.hid hO
  have hn9 : m.vs.length ≤ 9223372036854775807 := by omega
  obtain ⟨n, hn⟩ : ∃ n, m.vs.length = n := ⟨_, rfl⟩
  rw [hn] at hMI x3 hn9
  replace hn := Lib.hid hn
  clear hr10 hM hF
  go_wp2
  clear x3
  go_loopw [41] (fun t wr => ∃ j : Nat, j ≤ n ∧ t = .int .i64 j ∧ Hid (MI col w11 mb n c A wr)) (fun t _ => n - (intOf t).toNat)
  case atStart => exact ⟨0, Nat.zero_le _, rfl, hMI⟩
  case round =>
    clear hMI
    obtain ⟨j, hj, rfl, hX⟩ := hrel
    by_cases hjl : j < n
    · have hx3 := hX.out.cell
      rcases hX.out.kb with h0 | ⟨g, hg, hbg, hcs⟩
      · omega
      · obtain ⟨⟨u, hcy⟩, hfy⟩ := hcs j hjl
        have hcg : col g = 3 := by
          rcases hX.out.co with h0 | h0
          · omega
          · exact h0 _ hg
        have hst := Lib.hid (hX.out.set (t' := !u) hcy hcg)
        have hy0 : (0 : Int) ≤ (j : Int) := by omega
        have hy1 : (j : Int) < (n : Int) := by omega
        rw [hg] at hx3
        clear hcs hX hcg
        go_wp2
        go_region
        go_wp2
        go_roundw
        case rel => exact ⟨j + 1, by omega, by go_num, by first | exact hst | exact Lib.hid hst.out.drew⟩
        case measure => simp [intOf]; omega
    · obtain rfl : j = n := by omega
      have hO2 := Lib.hid (hX.out.ob hO.out)
      have hF := Lib.hid (from_call (some ⟨w.heap.size + 1 + 1, 0, none⟩) 0 wr)
      have hrd := Lib.hid (ob_reads hO2.out)
      have hB0 := fW_below wr (some ⟨w.heap.size + 1 + 1, 0, none⟩) 0
      have hO3 := Lib.hid (hO2.out.below hB0)
      have hs0 := fW_size wr (some ⟨w.heap.size + 1 + 1, 0, none⟩) 0
      clear hO hX hB0 hO2
      go_wp2_with (fail)
      with_reducible refine hF.out.mono ?_
      rintro e w2 ⟨rfl, rfl⟩
      unfold fV
      obtain ⟨W0, hW0⟩ : ∃ W0, fW wr (some ⟨w.heap.size + 1 + 1, 0, none⟩) 0 = W0 := ⟨_, rfl⟩
      rw [hW0] at hrd hO3 hs0 ⊢
      replace hrd := hrd.out
      generalize wr.heap.size = q at *
      rw [← hs0] at hrd
      clear hF hW0
      go_wp2
      refine (wpIn_wide (n := 6)).1 ?_
      refine' range_reads rfl (by omega) (gf := 30) (lb := #[.pointer (some ⟨q + 1, 0, none⟩), .pointer (some ⟨q, 0, none⟩)]) rfl trivial (enters_of Try.func30 (by kernel_rfl) rfl)
        hrd KS.trans (KS.book (Nat.le_refl _)) (fun _ => rfl)
        (fun _ V => Below W0.heap.size W0 V) (fun _ _ _ => False) (bel_from (Nat.le_refl _)) (fun _ => fun _ _ _ _ h _ _ => h) (fun pre => RF.from_ [m.r] 0 _ pre _) (Below.refl _ _) rbox (KS.alloc _ _) _ ?assign ?body ?done ?stop
      case assign =>
        intro l x W b K hbe hK
        simp only [encs]
        unfold rbox at hK
        replace hbe := Lib.hid hbe
        gi_wp2
        rw [← hbe.out]
        exact hK
      case stop =>
        rintro D c pre V _ _ h _
        exact h.elim
      case body =>
        rintro l pre ⟨xi, x⟩ b V hb0 hb hI ⟨⟨hx1, hx2, hx3, hx4, hx5⟩, hx6⟩
        unfold rbox at hb
        simp only at hb hx4 hx6
        have u3 := (cell_of_row V b 3 _ _ (0, 0) hb).trans (show (#[.int .u64 x.ts, .int .i64 x.dc, .int .i64 x.tx, .slice x.A x.vs.length x.c] : Array Value)[3]? = some (.slice x.A x.vs.length x.c) from rfl)
        have hJ0 : Hid (XJ W0.heap.size b x.vs.length x.c x.A V V) := Lib.hid ⟨Below.refl _ _, KeepsOthers.refl _, u3, kb_own hx6 hx4⟩
        have hn9 : x.vs.length ≤ 9223372036854775807 := by omega
        generalize x.vs.length = n at *
        generalize x.A = A at *
        generalize x.c = c at *
        replace hI := Lib.hid hI
        clear hb hx1 hx2 hx3 hx4 hx5 hx6 hrd hO3
        gi_wp2
        clear u3
        gi_loopw [64] (fun t wi => ∃ j : Nat, j ≤ n ∧ t = .int .i64 j ∧ Hid (XJ W0.heap.size b n c A V wi)) (fun t _ => n - (intOf t).toNat)
        case atStart => exact ⟨0, Nat.zero_le _, rfl, hJ0⟩
        case round =>
          clear hJ0
          obtain ⟨j, hj, rfl, hX⟩ := hrel
          by_cases hjl : j < n
          · have hx3 := hX.out.cell
            rcases hX.out.kb with h0 | ⟨g, hg, hbg, hcs⟩
            · omega
            · obtain ⟨⟨u, hcy⟩, hfy⟩ := hcs j hjl
              have hst := Lib.hid (hX.out.set (t' := !u) hcy hbg)
              have hy0 : (0 : Int) ≤ (j : Int) := by omega
              have hy1 : (j : Int) < (n : Int) := by omega
              rw [hg] at hx3
              clear hcs hX hg
              gi_wp2
              refine wpIn_region_any (by kernel_rfl) ?_
              refine flip_puts (w0 := wr.drew) (by simp) rfl rfl hx3 hcy hfy hy0 hy1 ?_
              simp +decide only [puts, val, Act.put, if_true, if_false, Array.setIfInBounds, List.size_toArray, List.length_cons, List.length_nil, Nat.reduceAdd, Nat.reduceLT, dif_pos, Array.set, List.set_toArray, List.set]
              gi_wp2
              go_roundw
              case rel => exact ⟨j + 1, by omega, by go_num, by first | exact hst | exact Lib.hid hst.out.drew⟩
              case measure => simp [intOf]; omega
          · obtain rfl : j = n := by omega
            gi_wp2
            exact ⟨hX.out.kp, hX.out.ks, hI.out.trans hX.out.bel⟩
      case done =>
        rintro D ys V hD hys hI hK
        clear hys hrd
        have hO4 := hO3.out.below hI
        have hwD : w.heap.size ≤ D := Nat.le_trans hO3.out.bel.size hD
        obtain ⟨col2, hc3, hPV, hA0, hrd2⟩ := ob_range hO4
        have hF2 := Lib.hid (from_call (some ⟨w.heap.size + 1 + 1, 0, none⟩) 0 (V.alloc (.cells #[.int .i64 0] 3)))
        have hDl : D < V.heap.size := (Array.getElem?_eq_some_iff.1 hK).1
        obtain ⟨Wn, hWn⟩ : ∃ Wn, V.alloc (.cells #[.int .i64 0] 3) = Wn := ⟨_, rfl⟩
        have hsn : Wn.heap.size = V.heap.size + 1 := by rw [← hWn]; simp
        have hKn : Wn.heap[D]? = some (.deferred (some [])) := by rw [← hWn]; exact ((al0 V _).block D hDl).trans hK
        rw [hWn] at hPV hA0 hrd2 hF2
        have hs2 := fW_size Wn (some ⟨w.heap.size + 1 + 1, 0, none⟩) 0
        have hK2 : (fW Wn (some ⟨w.heap.size + 1 + 1, 0, none⟩) 0).heap[D]? = some (.deferred (some [])) := ((fW_below Wn (some ⟨w.heap.size + 1 + 1, 0, none⟩) 0).block D (by omega)).trans hKn
        replace hWn := Lib.hid hWn
        replace hsn := Lib.hid hsn
        replace hPV := Lib.hid hPV
        replace hA0 := Lib.hid hA0
        replace hc3 := Lib.hid hc3
        replace hK2 := Lib.hid hK2
        replace hrd2 := Lib.hid hrd2
        replace hD := Lib.hid hD
        clear hI hO3 hO4 hK hKn hs0
        go_wp2_with (fail)
        rw [hWn.out]
        with_reducible refine hF2.out.mono ?_
        rintro e w2 ⟨rfl, rfl⟩
        unfold fV
        rw [hsn.out]
        obtain ⟨W2, hW2⟩ : ∃ W2, fW Wn (some ⟨w.heap.size + 1 + 1, 0, none⟩) 0 = W2 := ⟨_, rfl⟩
        rw [hW2] at hPV hA0 hrd2 hs2 hK2 ⊢
        generalize V.heap.size = nb at *
        rw [hsn.out] at hs2
        rw [← hs2] at hrd2
        have hI20 : I2 col2 nb D W2 0 W2 := ⟨hA0.out, hK2.out, by omega⟩
        clear hF2 hW2 hA0 hK2
        go_wp2
        refine (wpIn_wide (n := 6)).1 ?_
        refine' range_reads0 rfl (by omega) (gf := 30) (lb := #[.pointer (some ⟨nb + 1 + 1, 0, none⟩), .pointer (some ⟨nb + 1, 0, none⟩)]) rfl trivial (enters_of Try.func30 (by kernel_rfl) rfl)
          hrd2.out KS.trans (KS.book (Nat.le_refl _)) (fun _ => rfl)
          (fun pre => I2 col2 nb D W2 pre.length) (fun c _ V' => c = .exit 6 ∧ a1 = 0 ∧ I2 col2 nb D W2 0 V') (I2.from_ (Nat.le_refl _)) (fun c => I2.ix (Nat.le_refl _) c) (fun pre => RF.from_ [m.r] 0 _ pre _) hI20 _ ?assign2 ?body2 ?done2 ?stop2
        case assign2 =>
          intro l x W K hK
          simp only [encs]
          gi_wp2
          exact hK
        case body2 =>
          rintro l pre ⟨xi, x⟩ V' hV0 hA ⟨⟨hx1, hx2, hx3, hx4, hx5⟩, hx6⟩
          have hp0 : pre.length = 0 := by simp only [List.length_cons, List.length_nil] at hx2; simp only at hx1; omega
          have hA' : I2 col2 nb D W2 0 V' := by rw [← hp0]; exact hA
          have q1 : V'.cell? ⟨nb, 0, none⟩ = some (.int .i64 0) := hA'.ai.cell
          have q2 := hA'.ai.fz
          have q3 := (hPV.out V' _ hA'.ai).mo
          have hnx := Lib.hid (fun x hx => hA'.next hc3.out x hx)
          replace hA' := Lib.hid hA'
          replace hp0 := Lib.hid hp0
          clear hA hx1 hx2 hx3 hx4 hx5 hx6 hrd2 hI20
          by_cases h1 : a1 = 0
          · subst h1
            gi_wp2
            exact ⟨KeepsOthers.refl _, rfl, hA'.out⟩
          · have hb : ((0 : Int) == a1) = false := by rw [beq_eq_false_iff_ne]; exact fun e => h1 e.symm
            gi_wp2
            refine ⟨KeepsOthers.setCell _ _ _, AI.ks _ _, ?_⟩
            show I2 _ _ _ _ (pre ++ [_]).length _
            rw [List.length_append, hp0.out]
            exact hnx.out _ rfl
        case done2 =>
          rintro D2 ys V2 hD2 hys hA hK2
          have hyl : ys.length = 1 := by simpa using congrArg List.length hys
          have hA' : I2 col2 nb D W2 1 V2 := by rw [← hyl]; exact hA
          have q1 : V2.cell? ⟨nb, 0, none⟩ = some (.int .i64 1) := hA'.ai.cell
          have hO := hPV.out V2 _ hA'.ai
          have hR := hA'.rec_
          clear hA hys hyl hrd2 hI20 hPV hA'
          have s0 : SO w m nb 1 a1 V2.drew := SO.below ⟨hO.rb.r4, q1, hO.mo⟩ (below_drew _)
          have hst5 := Lib.hid (fun V' (hB : Below V2.heap.size V2 V') => ob_stab (hO.below hB) (-5) (by decide) (by simp))
          have hst1 := Lib.hid (fun V' (hB : Below V2.heap.size V2 V') => ob_stab (hO.below hB) 1 (by decide) (by simp))
          have hvV := Lib.hid (fun V' (hB : Below V2.heap.size V2 V') => hO.dv.hv.below hB)
          have hB0 := Lib.hid (below_drew V2)
          have hbw := Lib.hid hO.bel
          replace hK2 := Lib.hid hK2
          replace hR := Lib.hid hR
          replace hD2 := Lib.hid hD2
          clear hO q1
          go_wp2
          refine wp_region_noPanic ?_
          refine wp_region_held_drew (S := (fun w' => R4 w.heap.size 0 m w' ∧ w'.cell? ⟨nb, 0, none⟩ = some (.int .i64 1) ∧ w'.cell? ⟨w.heap.size + 1, 0, none⟩ = some (.int .i64 a1))) (by kernel_rfl) s0 (fun hHeld => ?_)
          refine wpAnyH_ready (rs := [0]) (by kernel_rfl) (by simp) ?_
          refine AllReadyH.cons (o := ({ dst := some 89, op := Op.call { callee := Callee.value (Operand.func 17), args := #[], argTypes := #[] }, type := 4, pos := "law.go:166", after := #[], guard := none } : Oper)) rfl (fun K hK => ?_) AllReadyH.nil
          go_simp
          go_at_call 17; ((with_reducible refine (awake_any _).mono ?_); rintro e w1 ⟨rfl, hB1⟩; have s1 := SO.below hHeld hB1; replace hB1 := Lib.hid (trans0 hB0.out hB1))
          refine hK.out _ _ s1 (fun hHeld => ?_)
          clear hK K
          try simp only [Act.put, List.setIfInBounds_toArray, List.set_cons_zero, List.set_cons_succ]
          refine wpAnyH_take (i := 1) (oi := ({ dst := some 90, op := Op.move (Operand.tmp 89), type := 4, pos := "law.go:166", after := #[{ on := 0, ground := Ground.data }, { on := 0, ground := Ground.chain }], guard := none } : Oper)) (v := ?_) rfl (by kernel_rfl) (by kernel_rfl) (by kernel_rfl) (fun _ _ _ h => h) (Or.inl ⟨by rfl, ?_⟩) hHeld ?_
          rotate_left
          · intro w hSw; (try dsimp only at hSw); go_simp; (first | done | with_reducible rfl)
          try simp only [Act.put, List.setIfInBounds_toArray, List.set_cons_zero, List.set_cons_succ]
          refine wpAnyH_take (i := 2) (oi := ({ dst := some 91, op := Op.move (Operand.tmp 5), type := 23, pos := "law.go:166", after := #[{ on := 1, ground := Ground.guard }], guard := some (1, true) } : Oper)) (v := ?_) rfl (by kernel_rfl) (by kernel_rfl) (by kernel_rfl) (fun _ _ _ h => h) (Or.inl ⟨by rfl, ?_⟩) hHeld ?_
          rotate_left
          · intro w hSw; (try dsimp only at hSw); go_simp; (first | done | with_reducible rfl)
          try simp only [Act.put, List.setIfInBounds_toArray, List.set_cons_zero, List.set_cons_succ]
          refine wpAnyH_take (i := 4) (oi := ({ dst := some 93, op := Op.load 32 (Operand.tmp 2), type := 32, pos := "law.go:166", after := #[{ on := 1, ground := Ground.guard }], guard := some (1, true) } : Oper)) (v := ?_) rfl (by kernel_rfl) (by kernel_rfl) (by kernel_rfl) (fun _ _ _ h => h) (Or.inl ⟨by rfl, ?_⟩) hHeld ?_
          rotate_left
          · intro w hSw; (try dsimp only at hSw); go_simp; (first | done | with_reducible rfl)
          try simp only [Act.put, List.setIfInBounds_toArray, List.set_cons_zero, List.set_cons_succ]
          refine wpAnyH_ready (rs := [3, 5]) (by kernel_rfl) (by simp) ?_
          refine AllReadyH.cons (o := ({ dst := some 92, op := Op.call { callee := Callee.value (Operand.func 19), args := #[Operand.tmp 91, Operand.const (Value.int IntKind.i64 (-5))], argTypes := #[23, 3] }, type := 26, pos := "law.go:166", after := #[{ on := 2, ground := Ground.data }, { on := 1, ground := Ground.chain }, { on := 1, ground := Ground.guard }], guard := some (1, true) } : Oper)) rfl (fun K hK => ?_) (AllReadyH.cons (o := ({ dst := some 94, op := Op.buildSlice 26 1 #[(0, Operand.tmp 93)], type := 26, pos := "law.go:166", after := #[{ on := 4, ground := Ground.data }, { on := 1, ground := Ground.guard }], guard := some (1, true) } : Oper)) rfl (fun K hK => ?_) AllReadyH.nil)
          · go_simp
            go_at_call 19; ((with_reducible refine (hst5.out _ hB1.out).mono ?_); rintro e w2 ⟨A2, c2, l2, rfl, hm2, hR2, hB2⟩; have s2 := SO.below hHeld hB2; replace hm2 := Lib.hid hm2)
            refine hK.out _ _ s2 (fun hHeld => ?_)
            clear hK K
            try simp only [Act.put, List.setIfInBounds_toArray, List.set_cons_zero, List.set_cons_succ]
            refine wpAnyH_ready (rs := [5]) (by kernel_rfl) (by simp) ?_
            refine AllReadyH.cons (o := ({ dst := some 94, op := Op.buildSlice 26 1 #[(0, Operand.tmp 93)], type := 26, pos := "law.go:166", after := #[{ on := 4, ground := Ground.data }, { on := 1, ground := Ground.guard }], guard := some (1, true) } : Oper)) rfl (fun K hK => ?_) AllReadyH.nil
            go_simp
            have hR2' := hR2.below (al0 w2 (rowO m))
            have hB2' := trans0 hB1.out hB2
            have hRo := Lib.hid (rr2_one (hvV.out _ hB2') (Below.refl _ _))
            have hBS := Lib.hid (trans0 hB2' (al0 w2 (rowO m)))
            have s2a := SO.below hHeld (al0 w2 (rowO m))
            replace hR2 := Lib.hid hR2'
            clear hR2' hB2 hB2'
            refine hK.out _ _ s2a (fun hHeld => ?_)
            clear hK K
            try simp only [Act.put, List.setIfInBounds_toArray, List.set_cons_zero, List.set_cons_succ]
            refine wpAnyH_ready (rs := [6]) (by kernel_rfl) (by simp) ?_
            refine AllReadyH.cons (o := ({ dst := some 95, op := Op.call { callee := Callee.value (Operand.func 18), args := #[Operand.tmp 92, Operand.tmp 94], argTypes := #[26, 26] }, type := 4, pos := "law.go:166", after := #[{ on := 3, ground := Ground.data }, { on := 5, ground := Ground.data }, { on := 3, ground := Ground.chain }, { on := 1, ground := Ground.guard }], guard := some (1, true) } : Oper)) rfl (fun K hK => ?_) AllReadyH.nil
            go_simp
            go_at_call 18; ((with_reducible refine (same_one _ _ l2 _ m _ hR2.out hRo.out).mono ?_); rintro e w3 ⟨he, hB3⟩; (rw [show decide (l2.map MR.r = [m.r]) = true from decide_eq_true hm2.out] at he); subst he; have s3 := SO.below hHeld hB3; replace hB3 := Lib.hid (trans0 hBS.out hB3))
            refine hK.out _ _ s3 (fun hHeld => ?_)
            clear hK K
            try simp only [Act.put, List.setIfInBounds_toArray, List.set_cons_zero, List.set_cons_succ]
            refine wpAnyH_take (i := 7) (oi := ({ dst := some 96, op := Op.pick (Operand.tmp 90) (Operand.tmp 95) (Operand.const (Value.bool false)), type := 4, pos := "law.go:166", after := #[{ on := 1, ground := Ground.data }, { on := 6, ground := Ground.data }], guard := none } : Oper)) (v := ?_) rfl (by kernel_rfl) (by kernel_rfl) (by kernel_rfl) (fun _ _ _ h => h) (Or.inl ⟨by rfl, ?_⟩) hHeld ?_
            rotate_left
            · intro w hSw; (try dsimp only at hSw); go_simp; (first | done | with_reducible rfl)
            try simp only [Act.put, List.setIfInBounds_toArray, List.set_cons_zero, List.set_cons_succ]
            refine wpAnyH_take (i := 8) (oi := ({ dst := some 97, op := Op.move (Operand.tmp 96), type := 4, pos := "law.go:166", after := #[{ on := 7, ground := Ground.data }, { on := 6, ground := Ground.chain }], guard := none } : Oper)) (v := ?_) rfl (by kernel_rfl) (by kernel_rfl) (by kernel_rfl) (fun _ _ _ h => h) (Or.inl ⟨by rfl, ?_⟩) hHeld ?_
            rotate_left
            · intro w hSw; (try dsimp only at hSw); go_simp; (first | done | with_reducible rfl)
            try simp only [Act.put, List.setIfInBounds_toArray, List.set_cons_zero, List.set_cons_succ]
            refine wpAnyH_take (i := 9) (oi := ({ dst := some 98, op := Op.move (Operand.tmp 5), type := 23, pos := "law.go:166", after := #[{ on := 8, ground := Ground.guard }], guard := some (8, true) } : Oper)) (v := ?_) rfl (by kernel_rfl) (by kernel_rfl) (by kernel_rfl) (fun _ _ _ h => h) (Or.inl ⟨by rfl, ?_⟩) hHeld ?_
            rotate_left
            · intro w hSw; (try dsimp only at hSw); go_simp; (first | done | with_reducible rfl)
            try simp only [Act.put, List.setIfInBounds_toArray, List.set_cons_zero, List.set_cons_succ]
            refine wpAnyH_ready (rs := [10]) (by kernel_rfl) (by simp) ?_
            refine AllReadyH.cons (o := ({ dst := some 99, op := Op.call { callee := Callee.value (Operand.func 19), args := #[Operand.tmp 98, Operand.const (Value.int IntKind.i64 1)], argTypes := #[23, 3] }, type := 26, pos := "law.go:166", after := #[{ on := 9, ground := Ground.data }, { on := 8, ground := Ground.chain }, { on := 8, ground := Ground.guard }], guard := some (8, true) } : Oper)) rfl (fun K hK => ?_) AllReadyH.nil
            go_simp
            go_at_call 19; ((with_reducible refine (hst1.out _ hB3.out).mono ?_); rintro e w4 ⟨A4, c4, l4, rfl, hm4, -, hB4⟩; obtain rfl : l4 = [] := (by simpa [ordF.sAt] using hm4); have s4 := SO.below hHeld hB4; replace hB4 := Lib.hid (trans0 hB3.out hB4))
            refine hK.out _ _ s4 (fun hHeld => ?_)
            clear hK K
            try simp only [Act.put, List.setIfInBounds_toArray, List.set_cons_zero, List.set_cons_succ]
            refine wpAnyH_take (i := 11) (oi := ({ dst := some 100, op := Op.call { callee := Callee.builtin Builtin.len, args := #[Operand.tmp 99], argTypes := #[26] }, type := 3, pos := "law.go:166", after := #[{ on := 10, ground := Ground.data }, { on := 8, ground := Ground.guard }], guard := some (8, true) } : Oper)) (v := ?_) rfl (by kernel_rfl) (by kernel_rfl) (by kernel_rfl) (fun _ _ _ h => h) (Or.inl ⟨by rfl, ?_⟩) hHeld ?_
            rotate_left
            · intro w hSw; (try dsimp only at hSw); go_simp; (first | done | with_reducible rfl)
            try simp only [Act.put, List.setIfInBounds_toArray, List.set_cons_zero, List.set_cons_succ]
            refine wpAnyH_take (i := 12) (oi := ({ dst := some 101, op := Op.binOp BinOp.eql 3 (Operand.tmp 100) (Operand.const (Value.int IntKind.i64 0)) 3, type := 4, pos := "law.go:166", after := #[{ on := 11, ground := Ground.data }, { on := 8, ground := Ground.guard }], guard := some (8, true) } : Oper)) (v := ?_) rfl (by kernel_rfl) (by kernel_rfl) (by kernel_rfl) (fun _ _ _ h => h) (Or.inl ⟨by rfl, ?_⟩) hHeld ?_
            rotate_left
            · intro w hSw; (try dsimp only at hSw); go_simp; (first | done | with_reducible rfl)
            try simp only [Act.put, List.setIfInBounds_toArray, List.set_cons_zero, List.set_cons_succ]
            refine wpAnyH_take (i := 13) (oi := ({ dst := some 102, op := Op.pick (Operand.tmp 97) (Operand.tmp 101) (Operand.const (Value.bool false)), type := 4, pos := "law.go:166", after := #[{ on := 8, ground := Ground.data }, { on := 12, ground := Ground.data }], guard := none } : Oper)) (v := ?_) rfl (by kernel_rfl) (by kernel_rfl) (by kernel_rfl) (fun _ _ _ h => h) (Or.inl ⟨by rfl, ?_⟩) hHeld ?_
            rotate_left
            · intro w hSw; (try dsimp only at hSw); go_simp; (first | done | with_reducible rfl)
            try simp only [Act.put, List.setIfInBounds_toArray, List.set_cons_zero, List.set_cons_succ]
            refine wpAnyH_take (i := 14) (oi := ({ dst := some 103, op := Op.move (Operand.tmp 102), type := 4, pos := "law.go:166", after := #[{ on := 13, ground := Ground.data }, { on := 10, ground := Ground.chain }], guard := none } : Oper)) (v := ?_) rfl (by kernel_rfl) (by kernel_rfl) (by kernel_rfl) (fun _ _ _ h => h) (Or.inl ⟨by rfl, ?_⟩) hHeld ?_
            rotate_left
            · intro w hSw; (try dsimp only at hSw); go_simp; (first | done | with_reducible rfl)
            try simp only [Act.put, List.setIfInBounds_toArray, List.set_cons_zero, List.set_cons_succ]
            refine wpAnyH_take (i := 15) (oi := ({ dst := some 104, op := Op.load 3 (Operand.tmp 11), type := 3, pos := "law.go:166", after := #[{ on := 14, ground := Ground.guard }], guard := some (14, true) } : Oper)) (v := ?_) rfl (by kernel_rfl) (by kernel_rfl) (by kernel_rfl) (fun _ _ _ h => h) (Or.inl ⟨by rfl, ?_⟩) hHeld ?_
            rotate_left
            · intro w hSw; (try dsimp only at hSw); go_simp; (first | done | with_reducible rfl)
            try simp only [Act.put, List.setIfInBounds_toArray, List.set_cons_zero, List.set_cons_succ]
            refine wpAnyH_take (i := 16) (oi := ({ dst := some 105, op := Op.binOp BinOp.eql 3 (Operand.tmp 104) (Operand.const (Value.int IntKind.i64 1)) 3, type := 4, pos := "law.go:166", after := #[{ on := 15, ground := Ground.data }, { on := 14, ground := Ground.guard }], guard := some (14, true) } : Oper)) (v := ?_) rfl (by kernel_rfl) (by kernel_rfl) (by kernel_rfl) (fun _ _ _ h => h) (Or.inl ⟨by rfl, ?_⟩) hHeld ?_
            rotate_left
            · intro w hSw; (try dsimp only at hSw); go_simp; (first | done | with_reducible rfl)
            try simp only [Act.put, List.setIfInBounds_toArray, List.set_cons_zero, List.set_cons_succ]
            refine wpAnyH_take (i := 17) (oi := ({ dst := some 106, op := Op.move (Operand.tmp 105), type := 4, pos := "law.go:166", after := #[{ on := 16, ground := Ground.data }, { on := 14, ground := Ground.chain }, { on := 14, ground := Ground.guard }], guard := some (14, true) } : Oper)) (v := ?_) rfl (by kernel_rfl) (by kernel_rfl) (by kernel_rfl) (fun _ _ _ h => h) (Or.inl ⟨by rfl, ?_⟩) hHeld ?_
            rotate_left
            · intro w hSw; (try dsimp only at hSw); go_simp; (first | done | with_reducible rfl)
            try simp only [Act.put, List.setIfInBounds_toArray, List.set_cons_zero, List.set_cons_succ]
            refine wpAnyH_take (i := 18) (oi := ({ dst := some 107, op := Op.load 3 (Operand.tmp 3), type := 3, pos := "law.go:166", after := #[{ on := 17, ground := Ground.guard }], guard := some (17, false) } : Oper)) (v := undef) rfl (by kernel_rfl) (by kernel_rfl) (by kernel_rfl) (fun _ _ _ h => h) (Or.inr ⟨by rfl, rfl⟩) hHeld ?_
            try simp only [Act.put, List.setIfInBounds_toArray, List.set_cons_zero, List.set_cons_succ]
            refine wpAnyH_take (i := 19) (oi := ({ dst := some 108, op := Op.binOp BinOp.eql 3 (Operand.tmp 107) (Operand.const (Value.int IntKind.i64 0)) 3, type := 4, pos := "law.go:166", after := #[{ on := 18, ground := Ground.data }, { on := 17, ground := Ground.guard }], guard := some (17, false) } : Oper)) (v := undef) rfl (by kernel_rfl) (by kernel_rfl) (by kernel_rfl) (fun _ _ _ h => h) (Or.inr ⟨by rfl, rfl⟩) hHeld ?_
            try simp only [Act.put, List.setIfInBounds_toArray, List.set_cons_zero, List.set_cons_succ]
            refine wpAnyH_take (i := 20) (oi := ({ dst := some 109, op := Op.move (Operand.tmp 108), type := 4, pos := "law.go:166", after := #[{ on := 19, ground := Ground.data }, { on := 17, ground := Ground.chain }, { on := 17, ground := Ground.guard }], guard := some (17, false) } : Oper)) (v := undef) rfl (by kernel_rfl) (by kernel_rfl) (by kernel_rfl) (fun _ _ _ h => h) (Or.inr ⟨by rfl, rfl⟩) hHeld ?_
            try simp only [Act.put, List.setIfInBounds_toArray, List.set_cons_zero, List.set_cons_succ]
            refine wpAnyH_take (i := 21) (oi := ({ dst := some 110, op := Op.load 3 (Operand.tmp 11), type := 3, pos := "law.go:166", after := #[{ on := 20, ground := Ground.guard }], guard := some (20, true) } : Oper)) (v := undef) rfl (by kernel_rfl) (by kernel_rfl) (by kernel_rfl) (fun _ _ _ h => h) (Or.inr ⟨by rfl, rfl⟩) hHeld ?_
            try simp only [Act.put, List.setIfInBounds_toArray, List.set_cons_zero, List.set_cons_succ]
            refine wpAnyH_take (i := 22) (oi := ({ dst := some 111, op := Op.binOp BinOp.eql 3 (Operand.tmp 110) (Operand.const (Value.int IntKind.i64 0)) 3, type := 4, pos := "law.go:166", after := #[{ on := 21, ground := Ground.data }, { on := 20, ground := Ground.guard }], guard := some (20, true) } : Oper)) (v := undef) rfl (by kernel_rfl) (by kernel_rfl) (by kernel_rfl) (fun _ _ _ h => h) (Or.inr ⟨by rfl, rfl⟩) hHeld ?_
            try simp only [Act.put, List.setIfInBounds_toArray, List.set_cons_zero, List.set_cons_succ]
            refine wpAnyH_take (i := 23) (oi := ({ dst := some 112, op := Op.pick (Operand.tmp 109) (Operand.tmp 111) (Operand.const (Value.bool false)), type := 4, pos := "law.go:166", after := #[{ on := 20, ground := Ground.data }, { on := 22, ground := Ground.data }, { on := 17, ground := Ground.guard }], guard := some (17, false) } : Oper)) (v := undef) rfl (by kernel_rfl) (by kernel_rfl) (by kernel_rfl) (fun _ _ _ h => h) (Or.inr ⟨by rfl, rfl⟩) hHeld ?_
            try simp only [Act.put, List.setIfInBounds_toArray, List.set_cons_zero, List.set_cons_succ]
            refine wpAnyH_take (i := 24) (oi := ({ dst := some 113, op := Op.pick (Operand.tmp 106) (Operand.const (Value.bool true)) (Operand.tmp 112), type := 4, pos := "law.go:166", after := #[{ on := 17, ground := Ground.data }, { on := 23, ground := Ground.data }, { on := 14, ground := Ground.guard }], guard := some (14, true) } : Oper)) (v := ?_) rfl (by kernel_rfl) (by kernel_rfl) (by kernel_rfl) (fun _ _ _ h => h) (Or.inl ⟨by rfl, ?_⟩) hHeld ?_
            rotate_left
            · intro w hSw; (try dsimp only at hSw); go_simp; (first | done | with_reducible rfl)
            try simp only [Act.put, List.setIfInBounds_toArray, List.set_cons_zero, List.set_cons_succ]
            refine wpAnyH_take (i := 25) (oi := ({ dst := some 114, op := Op.pick (Operand.tmp 103) (Operand.tmp 113) (Operand.const (Value.bool false)), type := 4, pos := "law.go:166", after := #[{ on := 14, ground := Ground.data }, { on := 24, ground := Ground.data }], guard := none } : Oper)) (v := ?_) rfl (by kernel_rfl) (by kernel_rfl) (by kernel_rfl) (fun _ _ _ h => h) (Or.inl ⟨by rfl, ?_⟩) hHeld ?_
            rotate_left
            · intro w hSw; (try dsimp only at hSw); go_simp; (first | done | with_reducible rfl)
            try simp only [Act.put, List.setIfInBounds_toArray, List.set_cons_zero, List.set_cons_succ]
            refine wpAnyH_take (i := 26) (oi := ({ dst := some 4, op := Op.assign (Operand.tmp 114), type := 4, pos := "law.go:166", after := _, guard := none } : Oper)) (v := ?_) rfl (by kernel_rfl) (by kernel_rfl) (by kernel_rfl) (fun _ _ _ h => h) (Or.inl ⟨by rfl, ?_⟩) hHeld ?_
            rotate_left
            · intro w hSw; (try dsimp only at hSw); go_simp; (first | done | with_reducible rfl)
            try simp only [Act.put, List.setIfInBounds_toArray, List.set_cons_zero, List.set_cons_succ]
            refine wpAnyH_done (by kernel_rfl) ?_ _
            refine NoPanic.normal ?_
            clear hst5 hst1 hvV hm2 hR2 hRo hBS hB3 hHeld s3
            go_wp2
            have hKa := (hB4.out.block D2 (Array.getElem?_eq_some_iff.1 hK2.out).1).trans hK2.out
            have hKb := (hB4.out.block D (Array.getElem?_eq_some_iff.1 hR.out).1).trans hR.out
            have hDD : D ≠ D2 := by have := hD2.out; omega
            have hKb' : (w4.putObj D2 (.deferred none)).heap[D]? = some (.deferred (some [])) := (World.putObj_heap_other hDD).trans hKb
            refine ⟨by simp, .inl ⟨_, _, rfl, run_takeDeferred hKa, ?_⟩⟩
            refine ⟨by simp, .inl ⟨_, _, rfl, run_takeDeferred hKb', ?_⟩⟩
            refine ⟨.bool true, ?_, rfl, ((hbw.out.trans (hB4.out.mono hbw.out.size)).trans (belowK_b (w := w) (Nat.le_refl _) w4 D2 _ (.deferred none) (by have := hD2.out; omega) hKa rfl rfl)).trans (belowK_b (w := w) (Nat.le_refl _) _ D _ (.deferred none) hwD hKb' rfl rfl)⟩
            simp [results, Try.f6, go_sem]
          · go_simp
            have s1a := SO.below hHeld (al0 w1 (rowO m))
            have hB1a := Lib.hid (trans0 hB1.out (al0 w1 (rowO m)))
            refine hK.out _ _ s1a (fun hHeld => ?_)
            clear hK K
            try simp only [Act.put, List.setIfInBounds_toArray, List.set_cons_zero, List.set_cons_succ]
            refine wpAnyH_ready (rs := [3]) (by kernel_rfl) (by simp) ?_
            refine AllReadyH.cons (o := ({ dst := some 92, op := Op.call { callee := Callee.value (Operand.func 19), args := #[Operand.tmp 91, Operand.const (Value.int IntKind.i64 (-5))], argTypes := #[23, 3] }, type := 26, pos := "law.go:166", after := #[{ on := 2, ground := Ground.data }, { on := 1, ground := Ground.chain }, { on := 1, ground := Ground.guard }], guard := some (1, true) } : Oper)) rfl (fun K hK => ?_) AllReadyH.nil
            go_simp
            go_at_call 19; ((with_reducible refine (hst5.out _ hB1a.out).mono ?_); rintro e w2 ⟨A2, c2, l2, rfl, hm2, hR2, hB2⟩; have s2 := SO.below hHeld hB2; replace hm2 := Lib.hid hm2)
            have hRo := Lib.hid (rr2_one (hvV.out _ hB1.out) hB2)
            have hBS := Lib.hid (trans0 hB1a.out hB2)
            replace hR2 := Lib.hid hR2
            clear hB2
            refine hK.out _ _ s2 (fun hHeld => ?_)
            clear hK K
            try simp only [Act.put, List.setIfInBounds_toArray, List.set_cons_zero, List.set_cons_succ]
            refine wpAnyH_ready (rs := [6]) (by kernel_rfl) (by simp) ?_
            refine AllReadyH.cons (o := ({ dst := some 95, op := Op.call { callee := Callee.value (Operand.func 18), args := #[Operand.tmp 92, Operand.tmp 94], argTypes := #[26, 26] }, type := 4, pos := "law.go:166", after := #[{ on := 3, ground := Ground.data }, { on := 5, ground := Ground.data }, { on := 3, ground := Ground.chain }, { on := 1, ground := Ground.guard }], guard := some (1, true) } : Oper)) rfl (fun K hK => ?_) AllReadyH.nil
            go_simp
            go_at_call 18; ((with_reducible refine (same_one _ _ l2 _ m _ hR2.out hRo.out).mono ?_); rintro e w3 ⟨he, hB3⟩; (rw [show decide (l2.map MR.r = [m.r]) = true from decide_eq_true hm2.out] at he); subst he; have s3 := SO.below hHeld hB3; replace hB3 := Lib.hid (trans0 hBS.out hB3))
            refine hK.out _ _ s3 (fun hHeld => ?_)
            clear hK K
            try simp only [Act.put, List.setIfInBounds_toArray, List.set_cons_zero, List.set_cons_succ]
            refine wpAnyH_take (i := 7) (oi := ({ dst := some 96, op := Op.pick (Operand.tmp 90) (Operand.tmp 95) (Operand.const (Value.bool false)), type := 4, pos := "law.go:166", after := #[{ on := 1, ground := Ground.data }, { on := 6, ground := Ground.data }], guard := none } : Oper)) (v := ?_) rfl (by kernel_rfl) (by kernel_rfl) (by kernel_rfl) (fun _ _ _ h => h) (Or.inl ⟨by rfl, ?_⟩) hHeld ?_
            rotate_left
            · intro w hSw; (try dsimp only at hSw); go_simp; (first | done | with_reducible rfl)
            try simp only [Act.put, List.setIfInBounds_toArray, List.set_cons_zero, List.set_cons_succ]
            refine wpAnyH_take (i := 8) (oi := ({ dst := some 97, op := Op.move (Operand.tmp 96), type := 4, pos := "law.go:166", after := #[{ on := 7, ground := Ground.data }, { on := 6, ground := Ground.chain }], guard := none } : Oper)) (v := ?_) rfl (by kernel_rfl) (by kernel_rfl) (by kernel_rfl) (fun _ _ _ h => h) (Or.inl ⟨by rfl, ?_⟩) hHeld ?_
            rotate_left
            · intro w hSw; (try dsimp only at hSw); go_simp; (first | done | with_reducible rfl)
            try simp only [Act.put, List.setIfInBounds_toArray, List.set_cons_zero, List.set_cons_succ]
            refine wpAnyH_take (i := 9) (oi := ({ dst := some 98, op := Op.move (Operand.tmp 5), type := 23, pos := "law.go:166", after := #[{ on := 8, ground := Ground.guard }], guard := some (8, true) } : Oper)) (v := ?_) rfl (by kernel_rfl) (by kernel_rfl) (by kernel_rfl) (fun _ _ _ h => h) (Or.inl ⟨by rfl, ?_⟩) hHeld ?_
            rotate_left
            · intro w hSw; (try dsimp only at hSw); go_simp; (first | done | with_reducible rfl)
            try simp only [Act.put, List.setIfInBounds_toArray, List.set_cons_zero, List.set_cons_succ]
            refine wpAnyH_ready (rs := [10]) (by kernel_rfl) (by simp) ?_
            refine AllReadyH.cons (o := ({ dst := some 99, op := Op.call { callee := Callee.value (Operand.func 19), args := #[Operand.tmp 98, Operand.const (Value.int IntKind.i64 1)], argTypes := #[23, 3] }, type := 26, pos := "law.go:166", after := #[{ on := 9, ground := Ground.data }, { on := 8, ground := Ground.chain }, { on := 8, ground := Ground.guard }], guard := some (8, true) } : Oper)) rfl (fun K hK => ?_) AllReadyH.nil
            go_simp
            go_at_call 19; ((with_reducible refine (hst1.out _ hB3.out).mono ?_); rintro e w4 ⟨A4, c4, l4, rfl, hm4, -, hB4⟩; obtain rfl : l4 = [] := (by simpa [ordF.sAt] using hm4); have s4 := SO.below hHeld hB4; replace hB4 := Lib.hid (trans0 hB3.out hB4))
            refine hK.out _ _ s4 (fun hHeld => ?_)
            clear hK K
            try simp only [Act.put, List.setIfInBounds_toArray, List.set_cons_zero, List.set_cons_succ]
            refine wpAnyH_take (i := 11) (oi := ({ dst := some 100, op := Op.call { callee := Callee.builtin Builtin.len, args := #[Operand.tmp 99], argTypes := #[26] }, type := 3, pos := "law.go:166", after := #[{ on := 10, ground := Ground.data }, { on := 8, ground := Ground.guard }], guard := some (8, true) } : Oper)) (v := ?_) rfl (by kernel_rfl) (by kernel_rfl) (by kernel_rfl) (fun _ _ _ h => h) (Or.inl ⟨by rfl, ?_⟩) hHeld ?_
            rotate_left
            · intro w hSw; (try dsimp only at hSw); go_simp; (first | done | with_reducible rfl)
            try simp only [Act.put, List.setIfInBounds_toArray, List.set_cons_zero, List.set_cons_succ]
            refine wpAnyH_take (i := 12) (oi := ({ dst := some 101, op := Op.binOp BinOp.eql 3 (Operand.tmp 100) (Operand.const (Value.int IntKind.i64 0)) 3, type := 4, pos := "law.go:166", after := #[{ on := 11, ground := Ground.data }, { on := 8, ground := Ground.guard }], guard := some (8, true) } : Oper)) (v := ?_) rfl (by kernel_rfl) (by kernel_rfl) (by kernel_rfl) (fun _ _ _ h => h) (Or.inl ⟨by rfl, ?_⟩) hHeld ?_
            rotate_left
            · intro w hSw; (try dsimp only at hSw); go_simp; (first | done | with_reducible rfl)
            try simp only [Act.put, List.setIfInBounds_toArray, List.set_cons_zero, List.set_cons_succ]
            refine wpAnyH_take (i := 13) (oi := ({ dst := some 102, op := Op.pick (Operand.tmp 97) (Operand.tmp 101) (Operand.const (Value.bool false)), type := 4, pos := "law.go:166", after := #[{ on := 8, ground := Ground.data }, { on := 12, ground := Ground.data }], guard := none } : Oper)) (v := ?_) rfl (by kernel_rfl) (by kernel_rfl) (by kernel_rfl) (fun _ _ _ h => h) (Or.inl ⟨by rfl, ?_⟩) hHeld ?_
            rotate_left
            · intro w hSw; (try dsimp only at hSw); go_simp; (first | done | with_reducible rfl)
            try simp only [Act.put, List.setIfInBounds_toArray, List.set_cons_zero, List.set_cons_succ]
            refine wpAnyH_take (i := 14) (oi := ({ dst := some 103, op := Op.move (Operand.tmp 102), type := 4, pos := "law.go:166", after := #[{ on := 13, ground := Ground.data }, { on := 10, ground := Ground.chain }], guard := none } : Oper)) (v := ?_) rfl (by kernel_rfl) (by kernel_rfl) (by kernel_rfl) (fun _ _ _ h => h) (Or.inl ⟨by rfl, ?_⟩) hHeld ?_
            rotate_left
            · intro w hSw; (try dsimp only at hSw); go_simp; (first | done | with_reducible rfl)
            try simp only [Act.put, List.setIfInBounds_toArray, List.set_cons_zero, List.set_cons_succ]
            refine wpAnyH_take (i := 15) (oi := ({ dst := some 104, op := Op.load 3 (Operand.tmp 11), type := 3, pos := "law.go:166", after := #[{ on := 14, ground := Ground.guard }], guard := some (14, true) } : Oper)) (v := ?_) rfl (by kernel_rfl) (by kernel_rfl) (by kernel_rfl) (fun _ _ _ h => h) (Or.inl ⟨by rfl, ?_⟩) hHeld ?_
            rotate_left
            · intro w hSw; (try dsimp only at hSw); go_simp; (first | done | with_reducible rfl)
            try simp only [Act.put, List.setIfInBounds_toArray, List.set_cons_zero, List.set_cons_succ]
            refine wpAnyH_take (i := 16) (oi := ({ dst := some 105, op := Op.binOp BinOp.eql 3 (Operand.tmp 104) (Operand.const (Value.int IntKind.i64 1)) 3, type := 4, pos := "law.go:166", after := #[{ on := 15, ground := Ground.data }, { on := 14, ground := Ground.guard }], guard := some (14, true) } : Oper)) (v := ?_) rfl (by kernel_rfl) (by kernel_rfl) (by kernel_rfl) (fun _ _ _ h => h) (Or.inl ⟨by rfl, ?_⟩) hHeld ?_
            rotate_left
            · intro w hSw; (try dsimp only at hSw); go_simp; (first | done | with_reducible rfl)
            try simp only [Act.put, List.setIfInBounds_toArray, List.set_cons_zero, List.set_cons_succ]
            refine wpAnyH_take (i := 17) (oi := ({ dst := some 106, op := Op.move (Operand.tmp 105), type := 4, pos := "law.go:166", after := #[{ on := 16, ground := Ground.data }, { on := 14, ground := Ground.chain }, { on := 14, ground := Ground.guard }], guard := some (14, true) } : Oper)) (v := ?_) rfl (by kernel_rfl) (by kernel_rfl) (by kernel_rfl) (fun _ _ _ h => h) (Or.inl ⟨by rfl, ?_⟩) hHeld ?_
            rotate_left
            · intro w hSw; (try dsimp only at hSw); go_simp; (first | done | with_reducible rfl)
            try simp only [Act.put, List.setIfInBounds_toArray, List.set_cons_zero, List.set_cons_succ]
            refine wpAnyH_take (i := 18) (oi := ({ dst := some 107, op := Op.load 3 (Operand.tmp 3), type := 3, pos := "law.go:166", after := #[{ on := 17, ground := Ground.guard }], guard := some (17, false) } : Oper)) (v := undef) rfl (by kernel_rfl) (by kernel_rfl) (by kernel_rfl) (fun _ _ _ h => h) (Or.inr ⟨by rfl, rfl⟩) hHeld ?_
            try simp only [Act.put, List.setIfInBounds_toArray, List.set_cons_zero, List.set_cons_succ]
            refine wpAnyH_take (i := 19) (oi := ({ dst := some 108, op := Op.binOp BinOp.eql 3 (Operand.tmp 107) (Operand.const (Value.int IntKind.i64 0)) 3, type := 4, pos := "law.go:166", after := #[{ on := 18, ground := Ground.data }, { on := 17, ground := Ground.guard }], guard := some (17, false) } : Oper)) (v := undef) rfl (by kernel_rfl) (by kernel_rfl) (by kernel_rfl) (fun _ _ _ h => h) (Or.inr ⟨by rfl, rfl⟩) hHeld ?_
            try simp only [Act.put, List.setIfInBounds_toArray, List.set_cons_zero, List.set_cons_succ]
            refine wpAnyH_take (i := 20) (oi := ({ dst := some 109, op := Op.move (Operand.tmp 108), type := 4, pos := "law.go:166", after := #[{ on := 19, ground := Ground.data }, { on := 17, ground := Ground.chain }, { on := 17, ground := Ground.guard }], guard := some (17, false) } : Oper)) (v := undef) rfl (by kernel_rfl) (by kernel_rfl) (by kernel_rfl) (fun _ _ _ h => h) (Or.inr ⟨by rfl, rfl⟩) hHeld ?_
            try simp only [Act.put, List.setIfInBounds_toArray, List.set_cons_zero, List.set_cons_succ]
            refine wpAnyH_take (i := 21) (oi := ({ dst := some 110, op := Op.load 3 (Operand.tmp 11), type := 3, pos := "law.go:166", after := #[{ on := 20, ground := Ground.guard }], guard := some (20, true) } : Oper)) (v := undef) rfl (by kernel_rfl) (by kernel_rfl) (by kernel_rfl) (fun _ _ _ h => h) (Or.inr ⟨by rfl, rfl⟩) hHeld ?_
            try simp only [Act.put, List.setIfInBounds_toArray, List.set_cons_zero, List.set_cons_succ]
            refine wpAnyH_take (i := 22) (oi := ({ dst := some 111, op := Op.binOp BinOp.eql 3 (Operand.tmp 110) (Operand.const (Value.int IntKind.i64 0)) 3, type := 4, pos := "law.go:166", after := #[{ on := 21, ground := Ground.data }, { on := 20, ground := Ground.guard }], guard := some (20, true) } : Oper)) (v := undef) rfl (by kernel_rfl) (by kernel_rfl) (by kernel_rfl) (fun _ _ _ h => h) (Or.inr ⟨by rfl, rfl⟩) hHeld ?_
            try simp only [Act.put, List.setIfInBounds_toArray, List.set_cons_zero, List.set_cons_succ]
            refine wpAnyH_take (i := 23) (oi := ({ dst := some 112, op := Op.pick (Operand.tmp 109) (Operand.tmp 111) (Operand.const (Value.bool false)), type := 4, pos := "law.go:166", after := #[{ on := 20, ground := Ground.data }, { on := 22, ground := Ground.data }, { on := 17, ground := Ground.guard }], guard := some (17, false) } : Oper)) (v := undef) rfl (by kernel_rfl) (by kernel_rfl) (by kernel_rfl) (fun _ _ _ h => h) (Or.inr ⟨by rfl, rfl⟩) hHeld ?_
            try simp only [Act.put, List.setIfInBounds_toArray, List.set_cons_zero, List.set_cons_succ]
            refine wpAnyH_take (i := 24) (oi := ({ dst := some 113, op := Op.pick (Operand.tmp 106) (Operand.const (Value.bool true)) (Operand.tmp 112), type := 4, pos := "law.go:166", after := #[{ on := 17, ground := Ground.data }, { on := 23, ground := Ground.data }, { on := 14, ground := Ground.guard }], guard := some (14, true) } : Oper)) (v := ?_) rfl (by kernel_rfl) (by kernel_rfl) (by kernel_rfl) (fun _ _ _ h => h) (Or.inl ⟨by rfl, ?_⟩) hHeld ?_
            rotate_left
            · intro w hSw; (try dsimp only at hSw); go_simp; (first | done | with_reducible rfl)
            try simp only [Act.put, List.setIfInBounds_toArray, List.set_cons_zero, List.set_cons_succ]
            refine wpAnyH_take (i := 25) (oi := ({ dst := some 114, op := Op.pick (Operand.tmp 103) (Operand.tmp 113) (Operand.const (Value.bool false)), type := 4, pos := "law.go:166", after := #[{ on := 14, ground := Ground.data }, { on := 24, ground := Ground.data }], guard := none } : Oper)) (v := ?_) rfl (by kernel_rfl) (by kernel_rfl) (by kernel_rfl) (fun _ _ _ h => h) (Or.inl ⟨by rfl, ?_⟩) hHeld ?_
            rotate_left
            · intro w hSw; (try dsimp only at hSw); go_simp; (first | done | with_reducible rfl)
            try simp only [Act.put, List.setIfInBounds_toArray, List.set_cons_zero, List.set_cons_succ]
            refine wpAnyH_take (i := 26) (oi := ({ dst := some 4, op := Op.assign (Operand.tmp 114), type := 4, pos := "law.go:166", after := _, guard := none } : Oper)) (v := ?_) rfl (by kernel_rfl) (by kernel_rfl) (by kernel_rfl) (fun _ _ _ h => h) (Or.inl ⟨by rfl, ?_⟩) hHeld ?_
            rotate_left
            · intro w hSw; (try dsimp only at hSw); go_simp; (first | done | with_reducible rfl)
            try simp only [Act.put, List.setIfInBounds_toArray, List.set_cons_zero, List.set_cons_succ]
            refine wpAnyH_done (by kernel_rfl) ?_ _
            refine NoPanic.normal ?_
            clear hst5 hst1 hvV hm2 hR2 hRo hBS hB3 hHeld s3
            go_wp2
            have hKa := (hB4.out.block D2 (Array.getElem?_eq_some_iff.1 hK2.out).1).trans hK2.out
            have hKb := (hB4.out.block D (Array.getElem?_eq_some_iff.1 hR.out).1).trans hR.out
            have hDD : D ≠ D2 := by have := hD2.out; omega
            have hKb' : (w4.putObj D2 (.deferred none)).heap[D]? = some (.deferred (some [])) := (World.putObj_heap_other hDD).trans hKb
            refine ⟨by simp, .inl ⟨_, _, rfl, run_takeDeferred hKa, ?_⟩⟩
            refine ⟨by simp, .inl ⟨_, _, rfl, run_takeDeferred hKb', ?_⟩⟩
            refine ⟨.bool true, ?_, rfl, ((hbw.out.trans (hB4.out.mono hbw.out.size)).trans (belowK_b (w := w) (Nat.le_refl _) w4 D2 _ (.deferred none) (by have := hD2.out; omega) hKa rfl rfl)).trans (belowK_b (w := w) (Nat.le_refl _) _ D _ (.deferred none) hwD hKb' rfl rfl)⟩
            simp [results, Try.f6, go_sem]
        case stop2 =>
          rintro D2 c pre V2 hD2 - ⟨rfl, rfl, hA'⟩ hK2
          have q1 : V2.cell? ⟨nb, 0, none⟩ = some (.int .i64 0) := hA'.ai.cell
          have hO := hPV.out V2 _ hA'.ai
          have hR := hA'.rec_
          clear hrd2 hI20 hPV hA'
          have s0 : SO w m nb 0 0 V2.drew := SO.below ⟨hO.rb.r4, q1, hO.mo⟩ (below_drew _)
          have hst5 := Lib.hid (fun V' (hB : Below V2.heap.size V2 V') => ob_stab (hO.below hB) (-5) (by decide) (by simp))
          have hst1 := Lib.hid (fun V' (hB : Below V2.heap.size V2 V') => ob_stab (hO.below hB) 1 (by decide) (by simp))
          have hvV := Lib.hid (fun V' (hB : Below V2.heap.size V2 V') => hO.dv.hv.below hB)
          have hB0 := Lib.hid (below_drew V2)
          have hbw := Lib.hid hO.bel
          replace hK2 := Lib.hid hK2
          replace hR := Lib.hid hR
          replace hD2 := Lib.hid hD2
          clear hO q1
          refine wpIn_wide.2 ?_
          go_wp2
          refine wp_region_noPanic ?_
          refine wp_region_held_drew (S := (fun w' => R4 w.heap.size 0 m w' ∧ w'.cell? ⟨nb, 0, none⟩ = some (.int .i64 0) ∧ w'.cell? ⟨w.heap.size + 1, 0, none⟩ = some (.int .i64 0))) (by kernel_rfl) s0 (fun hHeld => ?_)
          refine wpAnyH_ready (rs := [0]) (by kernel_rfl) (by simp) ?_
          refine AllReadyH.cons (o := ({ dst := some 89, op := Op.call { callee := Callee.value (Operand.func 17), args := #[], argTypes := #[] }, type := 4, pos := "law.go:166", after := #[], guard := none } : Oper)) rfl (fun K hK => ?_) AllReadyH.nil
          go_simp
          go_at_call 17; ((with_reducible refine (awake_any _).mono ?_); rintro e w1 ⟨rfl, hB1⟩; have s1 := SO.below hHeld hB1; replace hB1 := Lib.hid (trans0 hB0.out hB1))
          refine hK.out _ _ s1 (fun hHeld => ?_)
          clear hK K
          try simp only [Act.put, List.setIfInBounds_toArray, List.set_cons_zero, List.set_cons_succ]
          refine wpAnyH_take (i := 1) (oi := ({ dst := some 90, op := Op.move (Operand.tmp 89), type := 4, pos := "law.go:166", after := #[{ on := 0, ground := Ground.data }, { on := 0, ground := Ground.chain }], guard := none } : Oper)) (v := ?_) rfl (by kernel_rfl) (by kernel_rfl) (by kernel_rfl) (fun _ _ _ h => h) (Or.inl ⟨by rfl, ?_⟩) hHeld ?_
          rotate_left
          · intro w hSw; (try dsimp only at hSw); go_simp; (first | done | with_reducible rfl)
          try simp only [Act.put, List.setIfInBounds_toArray, List.set_cons_zero, List.set_cons_succ]
          refine wpAnyH_take (i := 2) (oi := ({ dst := some 91, op := Op.move (Operand.tmp 5), type := 23, pos := "law.go:166", after := #[{ on := 1, ground := Ground.guard }], guard := some (1, true) } : Oper)) (v := ?_) rfl (by kernel_rfl) (by kernel_rfl) (by kernel_rfl) (fun _ _ _ h => h) (Or.inl ⟨by rfl, ?_⟩) hHeld ?_
          rotate_left
          · intro w hSw; (try dsimp only at hSw); go_simp; (first | done | with_reducible rfl)
          try simp only [Act.put, List.setIfInBounds_toArray, List.set_cons_zero, List.set_cons_succ]
          refine wpAnyH_take (i := 4) (oi := ({ dst := some 93, op := Op.load 32 (Operand.tmp 2), type := 32, pos := "law.go:166", after := #[{ on := 1, ground := Ground.guard }], guard := some (1, true) } : Oper)) (v := ?_) rfl (by kernel_rfl) (by kernel_rfl) (by kernel_rfl) (fun _ _ _ h => h) (Or.inl ⟨by rfl, ?_⟩) hHeld ?_
          rotate_left
          · intro w hSw; (try dsimp only at hSw); go_simp; (first | done | with_reducible rfl)
          try simp only [Act.put, List.setIfInBounds_toArray, List.set_cons_zero, List.set_cons_succ]
          refine wpAnyH_ready (rs := [3, 5]) (by kernel_rfl) (by simp) ?_
          refine AllReadyH.cons (o := ({ dst := some 92, op := Op.call { callee := Callee.value (Operand.func 19), args := #[Operand.tmp 91, Operand.const (Value.int IntKind.i64 (-5))], argTypes := #[23, 3] }, type := 26, pos := "law.go:166", after := #[{ on := 2, ground := Ground.data }, { on := 1, ground := Ground.chain }, { on := 1, ground := Ground.guard }], guard := some (1, true) } : Oper)) rfl (fun K hK => ?_) (AllReadyH.cons (o := ({ dst := some 94, op := Op.buildSlice 26 1 #[(0, Operand.tmp 93)], type := 26, pos := "law.go:166", after := #[{ on := 4, ground := Ground.data }, { on := 1, ground := Ground.guard }], guard := some (1, true) } : Oper)) rfl (fun K hK => ?_) AllReadyH.nil)
          · go_simp
            go_at_call 19; ((with_reducible refine (hst5.out _ hB1.out).mono ?_); rintro e w2 ⟨A2, c2, l2, rfl, hm2, hR2, hB2⟩; have s2 := SO.below hHeld hB2; replace hm2 := Lib.hid hm2)
            refine hK.out _ _ s2 (fun hHeld => ?_)
            clear hK K
            try simp only [Act.put, List.setIfInBounds_toArray, List.set_cons_zero, List.set_cons_succ]
            refine wpAnyH_ready (rs := [5]) (by kernel_rfl) (by simp) ?_
            refine AllReadyH.cons (o := ({ dst := some 94, op := Op.buildSlice 26 1 #[(0, Operand.tmp 93)], type := 26, pos := "law.go:166", after := #[{ on := 4, ground := Ground.data }, { on := 1, ground := Ground.guard }], guard := some (1, true) } : Oper)) rfl (fun K hK => ?_) AllReadyH.nil
            go_simp
            have hR2' := hR2.below (al0 w2 (rowO m))
            have hB2' := trans0 hB1.out hB2
            have hRo := Lib.hid (rr2_one (hvV.out _ hB2') (Below.refl _ _))
            have hBS := Lib.hid (trans0 hB2' (al0 w2 (rowO m)))
            have s2a := SO.below hHeld (al0 w2 (rowO m))
            replace hR2 := Lib.hid hR2'
            clear hR2' hB2 hB2'
            refine hK.out _ _ s2a (fun hHeld => ?_)
            clear hK K
            try simp only [Act.put, List.setIfInBounds_toArray, List.set_cons_zero, List.set_cons_succ]
            refine wpAnyH_ready (rs := [6]) (by kernel_rfl) (by simp) ?_
            refine AllReadyH.cons (o := ({ dst := some 95, op := Op.call { callee := Callee.value (Operand.func 18), args := #[Operand.tmp 92, Operand.tmp 94], argTypes := #[26, 26] }, type := 4, pos := "law.go:166", after := #[{ on := 3, ground := Ground.data }, { on := 5, ground := Ground.data }, { on := 3, ground := Ground.chain }, { on := 1, ground := Ground.guard }], guard := some (1, true) } : Oper)) rfl (fun K hK => ?_) AllReadyH.nil
            go_simp
            go_at_call 18; ((with_reducible refine (same_one _ _ l2 _ m _ hR2.out hRo.out).mono ?_); rintro e w3 ⟨he, hB3⟩; (rw [show decide (l2.map MR.r = [m.r]) = true from decide_eq_true hm2.out] at he); subst he; have s3 := SO.below hHeld hB3; replace hB3 := Lib.hid (trans0 hBS.out hB3))
            refine hK.out _ _ s3 (fun hHeld => ?_)
            clear hK K
            try simp only [Act.put, List.setIfInBounds_toArray, List.set_cons_zero, List.set_cons_succ]
            refine wpAnyH_take (i := 7) (oi := ({ dst := some 96, op := Op.pick (Operand.tmp 90) (Operand.tmp 95) (Operand.const (Value.bool false)), type := 4, pos := "law.go:166", after := #[{ on := 1, ground := Ground.data }, { on := 6, ground := Ground.data }], guard := none } : Oper)) (v := ?_) rfl (by kernel_rfl) (by kernel_rfl) (by kernel_rfl) (fun _ _ _ h => h) (Or.inl ⟨by rfl, ?_⟩) hHeld ?_
            rotate_left
            · intro w hSw; (try dsimp only at hSw); go_simp; (first | done | with_reducible rfl)
            try simp only [Act.put, List.setIfInBounds_toArray, List.set_cons_zero, List.set_cons_succ]
            refine wpAnyH_take (i := 8) (oi := ({ dst := some 97, op := Op.move (Operand.tmp 96), type := 4, pos := "law.go:166", after := #[{ on := 7, ground := Ground.data }, { on := 6, ground := Ground.chain }], guard := none } : Oper)) (v := ?_) rfl (by kernel_rfl) (by kernel_rfl) (by kernel_rfl) (fun _ _ _ h => h) (Or.inl ⟨by rfl, ?_⟩) hHeld ?_
            rotate_left
            · intro w hSw; (try dsimp only at hSw); go_simp; (first | done | with_reducible rfl)
            try simp only [Act.put, List.setIfInBounds_toArray, List.set_cons_zero, List.set_cons_succ]
            refine wpAnyH_take (i := 9) (oi := ({ dst := some 98, op := Op.move (Operand.tmp 5), type := 23, pos := "law.go:166", after := #[{ on := 8, ground := Ground.guard }], guard := some (8, true) } : Oper)) (v := ?_) rfl (by kernel_rfl) (by kernel_rfl) (by kernel_rfl) (fun _ _ _ h => h) (Or.inl ⟨by rfl, ?_⟩) hHeld ?_
            rotate_left
            · intro w hSw; (try dsimp only at hSw); go_simp; (first | done | with_reducible rfl)
            try simp only [Act.put, List.setIfInBounds_toArray, List.set_cons_zero, List.set_cons_succ]
            refine wpAnyH_ready (rs := [10]) (by kernel_rfl) (by simp) ?_
            refine AllReadyH.cons (o := ({ dst := some 99, op := Op.call { callee := Callee.value (Operand.func 19), args := #[Operand.tmp 98, Operand.const (Value.int IntKind.i64 1)], argTypes := #[23, 3] }, type := 26, pos := "law.go:166", after := #[{ on := 9, ground := Ground.data }, { on := 8, ground := Ground.chain }, { on := 8, ground := Ground.guard }], guard := some (8, true) } : Oper)) rfl (fun K hK => ?_) AllReadyH.nil
            go_simp
            go_at_call 19; ((with_reducible refine (hst1.out _ hB3.out).mono ?_); rintro e w4 ⟨A4, c4, l4, rfl, hm4, -, hB4⟩; obtain rfl : l4 = [] := (by simpa [ordF.sAt] using hm4); have s4 := SO.below hHeld hB4; replace hB4 := Lib.hid (trans0 hB3.out hB4))
            refine hK.out _ _ s4 (fun hHeld => ?_)
            clear hK K
            try simp only [Act.put, List.setIfInBounds_toArray, List.set_cons_zero, List.set_cons_succ]
            refine wpAnyH_take (i := 11) (oi := ({ dst := some 100, op := Op.call { callee := Callee.builtin Builtin.len, args := #[Operand.tmp 99], argTypes := #[26] }, type := 3, pos := "law.go:166", after := #[{ on := 10, ground := Ground.data }, { on := 8, ground := Ground.guard }], guard := some (8, true) } : Oper)) (v := ?_) rfl (by kernel_rfl) (by kernel_rfl) (by kernel_rfl) (fun _ _ _ h => h) (Or.inl ⟨by rfl, ?_⟩) hHeld ?_
            rotate_left
            · intro w hSw; (try dsimp only at hSw); go_simp; (first | done | with_reducible rfl)
            try simp only [Act.put, List.setIfInBounds_toArray, List.set_cons_zero, List.set_cons_succ]
            refine wpAnyH_take (i := 12) (oi := ({ dst := some 101, op := Op.binOp BinOp.eql 3 (Operand.tmp 100) (Operand.const (Value.int IntKind.i64 0)) 3, type := 4, pos := "law.go:166", after := #[{ on := 11, ground := Ground.data }, { on := 8, ground := Ground.guard }], guard := some (8, true) } : Oper)) (v := ?_) rfl (by kernel_rfl) (by kernel_rfl) (by kernel_rfl) (fun _ _ _ h => h) (Or.inl ⟨by rfl, ?_⟩) hHeld ?_
            rotate_left
            · intro w hSw; (try dsimp only at hSw); go_simp; (first | done | with_reducible rfl)
            try simp only [Act.put, List.setIfInBounds_toArray, List.set_cons_zero, List.set_cons_succ]
            refine wpAnyH_take (i := 13) (oi := ({ dst := some 102, op := Op.pick (Operand.tmp 97) (Operand.tmp 101) (Operand.const (Value.bool false)), type := 4, pos := "law.go:166", after := #[{ on := 8, ground := Ground.data }, { on := 12, ground := Ground.data }], guard := none } : Oper)) (v := ?_) rfl (by kernel_rfl) (by kernel_rfl) (by kernel_rfl) (fun _ _ _ h => h) (Or.inl ⟨by rfl, ?_⟩) hHeld ?_
            rotate_left
            · intro w hSw; (try dsimp only at hSw); go_simp; (first | done | with_reducible rfl)
            try simp only [Act.put, List.setIfInBounds_toArray, List.set_cons_zero, List.set_cons_succ]
            refine wpAnyH_take (i := 14) (oi := ({ dst := some 103, op := Op.move (Operand.tmp 102), type := 4, pos := "law.go:166", after := #[{ on := 13, ground := Ground.data }, { on := 10, ground := Ground.chain }], guard := none } : Oper)) (v := ?_) rfl (by kernel_rfl) (by kernel_rfl) (by kernel_rfl) (fun _ _ _ h => h) (Or.inl ⟨by rfl, ?_⟩) hHeld ?_
            rotate_left
            · intro w hSw; (try dsimp only at hSw); go_simp; (first | done | with_reducible rfl)
            try simp only [Act.put, List.setIfInBounds_toArray, List.set_cons_zero, List.set_cons_succ]
            refine wpAnyH_take (i := 15) (oi := ({ dst := some 104, op := Op.load 3 (Operand.tmp 11), type := 3, pos := "law.go:166", after := #[{ on := 14, ground := Ground.guard }], guard := some (14, true) } : Oper)) (v := ?_) rfl (by kernel_rfl) (by kernel_rfl) (by kernel_rfl) (fun _ _ _ h => h) (Or.inl ⟨by rfl, ?_⟩) hHeld ?_
            rotate_left
            · intro w hSw; (try dsimp only at hSw); go_simp; (first | done | with_reducible rfl)
            try simp only [Act.put, List.setIfInBounds_toArray, List.set_cons_zero, List.set_cons_succ]
            refine wpAnyH_take (i := 16) (oi := ({ dst := some 105, op := Op.binOp BinOp.eql 3 (Operand.tmp 104) (Operand.const (Value.int IntKind.i64 1)) 3, type := 4, pos := "law.go:166", after := #[{ on := 15, ground := Ground.data }, { on := 14, ground := Ground.guard }], guard := some (14, true) } : Oper)) (v := ?_) rfl (by kernel_rfl) (by kernel_rfl) (by kernel_rfl) (fun _ _ _ h => h) (Or.inl ⟨by rfl, ?_⟩) hHeld ?_
            rotate_left
            · intro w hSw; (try dsimp only at hSw); go_simp; (first | done | with_reducible rfl)
            try simp only [Act.put, List.setIfInBounds_toArray, List.set_cons_zero, List.set_cons_succ]
            refine wpAnyH_take (i := 17) (oi := ({ dst := some 106, op := Op.move (Operand.tmp 105), type := 4, pos := "law.go:166", after := #[{ on := 16, ground := Ground.data }, { on := 14, ground := Ground.chain }, { on := 14, ground := Ground.guard }], guard := some (14, true) } : Oper)) (v := ?_) rfl (by kernel_rfl) (by kernel_rfl) (by kernel_rfl) (fun _ _ _ h => h) (Or.inl ⟨by rfl, ?_⟩) hHeld ?_
            rotate_left
            · intro w hSw; (try dsimp only at hSw); go_simp; (first | done | with_reducible rfl)
            try simp only [Act.put, List.setIfInBounds_toArray, List.set_cons_zero, List.set_cons_succ]
            refine wpAnyH_take (i := 18) (oi := ({ dst := some 107, op := Op.load 3 (Operand.tmp 3), type := 3, pos := "law.go:166", after := #[{ on := 17, ground := Ground.guard }], guard := some (17, false) } : Oper)) (v := ?_) rfl (by kernel_rfl) (by kernel_rfl) (by kernel_rfl) (fun _ _ _ h => h) (Or.inl ⟨by rfl, ?_⟩) hHeld ?_
            rotate_left
            · intro w hSw; (try dsimp only at hSw); go_simp; (first | done | with_reducible rfl)
            try simp only [Act.put, List.setIfInBounds_toArray, List.set_cons_zero, List.set_cons_succ]
            refine wpAnyH_take (i := 19) (oi := ({ dst := some 108, op := Op.binOp BinOp.eql 3 (Operand.tmp 107) (Operand.const (Value.int IntKind.i64 0)) 3, type := 4, pos := "law.go:166", after := #[{ on := 18, ground := Ground.data }, { on := 17, ground := Ground.guard }], guard := some (17, false) } : Oper)) (v := ?_) rfl (by kernel_rfl) (by kernel_rfl) (by kernel_rfl) (fun _ _ _ h => h) (Or.inl ⟨by rfl, ?_⟩) hHeld ?_
            rotate_left
            · intro w hSw; (try dsimp only at hSw); go_simp; (first | done | with_reducible rfl)
            try simp only [Act.put, List.setIfInBounds_toArray, List.set_cons_zero, List.set_cons_succ]
            refine wpAnyH_take (i := 20) (oi := ({ dst := some 109, op := Op.move (Operand.tmp 108), type := 4, pos := "law.go:166", after := #[{ on := 19, ground := Ground.data }, { on := 17, ground := Ground.chain }, { on := 17, ground := Ground.guard }], guard := some (17, false) } : Oper)) (v := ?_) rfl (by kernel_rfl) (by kernel_rfl) (by kernel_rfl) (fun _ _ _ h => h) (Or.inl ⟨by rfl, ?_⟩) hHeld ?_
            rotate_left
            · intro w hSw; (try dsimp only at hSw); go_simp; (first | done | with_reducible rfl)
            try simp only [Act.put, List.setIfInBounds_toArray, List.set_cons_zero, List.set_cons_succ]
            refine wpAnyH_take (i := 21) (oi := ({ dst := some 110, op := Op.load 3 (Operand.tmp 11), type := 3, pos := "law.go:166", after := #[{ on := 20, ground := Ground.guard }], guard := some (20, true) } : Oper)) (v := ?_) rfl (by kernel_rfl) (by kernel_rfl) (by kernel_rfl) (fun _ _ _ h => h) (Or.inl ⟨by rfl, ?_⟩) hHeld ?_
            rotate_left
            · intro w hSw; (try dsimp only at hSw); go_simp; (first | done | with_reducible rfl)
            try simp only [Act.put, List.setIfInBounds_toArray, List.set_cons_zero, List.set_cons_succ]
            refine wpAnyH_take (i := 22) (oi := ({ dst := some 111, op := Op.binOp BinOp.eql 3 (Operand.tmp 110) (Operand.const (Value.int IntKind.i64 0)) 3, type := 4, pos := "law.go:166", after := #[{ on := 21, ground := Ground.data }, { on := 20, ground := Ground.guard }], guard := some (20, true) } : Oper)) (v := ?_) rfl (by kernel_rfl) (by kernel_rfl) (by kernel_rfl) (fun _ _ _ h => h) (Or.inl ⟨by rfl, ?_⟩) hHeld ?_
            rotate_left
            · intro w hSw; (try dsimp only at hSw); go_simp; (first | done | with_reducible rfl)
            try simp only [Act.put, List.setIfInBounds_toArray, List.set_cons_zero, List.set_cons_succ]
            refine wpAnyH_take (i := 23) (oi := ({ dst := some 112, op := Op.pick (Operand.tmp 109) (Operand.tmp 111) (Operand.const (Value.bool false)), type := 4, pos := "law.go:166", after := #[{ on := 20, ground := Ground.data }, { on := 22, ground := Ground.data }, { on := 17, ground := Ground.guard }], guard := some (17, false) } : Oper)) (v := ?_) rfl (by kernel_rfl) (by kernel_rfl) (by kernel_rfl) (fun _ _ _ h => h) (Or.inl ⟨by rfl, ?_⟩) hHeld ?_
            rotate_left
            · intro w hSw; (try dsimp only at hSw); go_simp; (first | done | with_reducible rfl)
            try simp only [Act.put, List.setIfInBounds_toArray, List.set_cons_zero, List.set_cons_succ]
            refine wpAnyH_take (i := 24) (oi := ({ dst := some 113, op := Op.pick (Operand.tmp 106) (Operand.const (Value.bool true)) (Operand.tmp 112), type := 4, pos := "law.go:166", after := #[{ on := 17, ground := Ground.data }, { on := 23, ground := Ground.data }, { on := 14, ground := Ground.guard }], guard := some (14, true) } : Oper)) (v := ?_) rfl (by kernel_rfl) (by kernel_rfl) (by kernel_rfl) (fun _ _ _ h => h) (Or.inl ⟨by rfl, ?_⟩) hHeld ?_
            rotate_left
            · intro w hSw; (try dsimp only at hSw); go_simp; (first | done | with_reducible rfl)
            try simp only [Act.put, List.setIfInBounds_toArray, List.set_cons_zero, List.set_cons_succ]
            refine wpAnyH_take (i := 25) (oi := ({ dst := some 114, op := Op.pick (Operand.tmp 103) (Operand.tmp 113) (Operand.const (Value.bool false)), type := 4, pos := "law.go:166", after := #[{ on := 14, ground := Ground.data }, { on := 24, ground := Ground.data }], guard := none } : Oper)) (v := ?_) rfl (by kernel_rfl) (by kernel_rfl) (by kernel_rfl) (fun _ _ _ h => h) (Or.inl ⟨by rfl, ?_⟩) hHeld ?_
            rotate_left
            · intro w hSw; (try dsimp only at hSw); go_simp; (first | done | with_reducible rfl)
            try simp only [Act.put, List.setIfInBounds_toArray, List.set_cons_zero, List.set_cons_succ]
            refine wpAnyH_take (i := 26) (oi := ({ dst := some 4, op := Op.assign (Operand.tmp 114), type := 4, pos := "law.go:166", after := _, guard := none } : Oper)) (v := ?_) rfl (by kernel_rfl) (by kernel_rfl) (by kernel_rfl) (fun _ _ _ h => h) (Or.inl ⟨by rfl, ?_⟩) hHeld ?_
            rotate_left
            · intro w hSw; (try dsimp only at hSw); go_simp; (first | done | with_reducible rfl)
            try simp only [Act.put, List.setIfInBounds_toArray, List.set_cons_zero, List.set_cons_succ]
            refine wpAnyH_done (by kernel_rfl) ?_ _
            refine NoPanic.normal ?_
            clear hst5 hst1 hvV hm2 hR2 hRo hBS hB3 hHeld s3
            go_wp2
            have hKa := (hB4.out.block D2 (Array.getElem?_eq_some_iff.1 hK2.out).1).trans hK2.out
            have hKb := (hB4.out.block D (Array.getElem?_eq_some_iff.1 hR.out).1).trans hR.out
            have hDD : D ≠ D2 := by have := hD2.out; omega
            have hKb' : (w4.putObj D2 (.deferred none)).heap[D]? = some (.deferred (some [])) := (World.putObj_heap_other hDD).trans hKb
            refine ⟨by simp, .inl ⟨_, _, rfl, run_takeDeferred hKa, ?_⟩⟩
            refine ⟨by simp, .inl ⟨_, _, rfl, run_takeDeferred hKb', ?_⟩⟩
            refine ⟨.bool true, ?_, rfl, ((hbw.out.trans (hB4.out.mono hbw.out.size)).trans (belowK_b (w := w) (Nat.le_refl _) w4 D2 _ (.deferred none) (by have := hD2.out; omega) hKa rfl rfl)).trans (belowK_b (w := w) (Nat.le_refl _) _ D _ (.deferred none) hwD hKb' rfl rfl)⟩
            simp [results, Try.f6, go_sem]
          · go_simp
            have s1a := SO.below hHeld (al0 w1 (rowO m))
            have hB1a := Lib.hid (trans0 hB1.out (al0 w1 (rowO m)))
            refine hK.out _ _ s1a (fun hHeld => ?_)
            clear hK K
            try simp only [Act.put, List.setIfInBounds_toArray, List.set_cons_zero, List.set_cons_succ]
            refine wpAnyH_ready (rs := [3]) (by kernel_rfl) (by simp) ?_
            refine AllReadyH.cons (o := ({ dst := some 92, op := Op.call { callee := Callee.value (Operand.func 19), args := #[Operand.tmp 91, Operand.const (Value.int IntKind.i64 (-5))], argTypes := #[23, 3] }, type := 26, pos := "law.go:166", after := #[{ on := 2, ground := Ground.data }, { on := 1, ground := Ground.chain }, { on := 1, ground := Ground.guard }], guard := some (1, true) } : Oper)) rfl (fun K hK => ?_) AllReadyH.nil
            go_simp
            go_at_call 19; ((with_reducible refine (hst5.out _ hB1a.out).mono ?_); rintro e w2 ⟨A2, c2, l2, rfl, hm2, hR2, hB2⟩; have s2 := SO.below hHeld hB2; replace hm2 := Lib.hid hm2)
            have hRo := Lib.hid (rr2_one (hvV.out _ hB1.out) hB2)
            have hBS := Lib.hid (trans0 hB1a.out hB2)
            replace hR2 := Lib.hid hR2
            clear hB2
            refine hK.out _ _ s2 (fun hHeld => ?_)
            clear hK K
            try simp only [Act.put, List.setIfInBounds_toArray, List.set_cons_zero, List.set_cons_succ]
            refine wpAnyH_ready (rs := [6]) (by kernel_rfl) (by simp) ?_
            refine AllReadyH.cons (o := ({ dst := some 95, op := Op.call { callee := Callee.value (Operand.func 18), args := #[Operand.tmp 92, Operand.tmp 94], argTypes := #[26, 26] }, type := 4, pos := "law.go:166", after := #[{ on := 3, ground := Ground.data }, { on := 5, ground := Ground.data }, { on := 3, ground := Ground.chain }, { on := 1, ground := Ground.guard }], guard := some (1, true) } : Oper)) rfl (fun K hK => ?_) AllReadyH.nil
            go_simp
            go_at_call 18; ((with_reducible refine (same_one _ _ l2 _ m _ hR2.out hRo.out).mono ?_); rintro e w3 ⟨he, hB3⟩; (rw [show decide (l2.map MR.r = [m.r]) = true from decide_eq_true hm2.out] at he); subst he; have s3 := SO.below hHeld hB3; replace hB3 := Lib.hid (trans0 hBS.out hB3))
            refine hK.out _ _ s3 (fun hHeld => ?_)
            clear hK K
            try simp only [Act.put, List.setIfInBounds_toArray, List.set_cons_zero, List.set_cons_succ]
            refine wpAnyH_take (i := 7) (oi := ({ dst := some 96, op := Op.pick (Operand.tmp 90) (Operand.tmp 95) (Operand.const (Value.bool false)), type := 4, pos := "law.go:166", after := #[{ on := 1, ground := Ground.data }, { on := 6, ground := Ground.data }], guard := none } : Oper)) (v := ?_) rfl (by kernel_rfl) (by kernel_rfl) (by kernel_rfl) (fun _ _ _ h => h) (Or.inl ⟨by rfl, ?_⟩) hHeld ?_
            rotate_left
            · intro w hSw; (try dsimp only at hSw); go_simp; (first | done | with_reducible rfl)
            try simp only [Act.put, List.setIfInBounds_toArray, List.set_cons_zero, List.set_cons_succ]
            refine wpAnyH_take (i := 8) (oi := ({ dst := some 97, op := Op.move (Operand.tmp 96), type := 4, pos := "law.go:166", after := #[{ on := 7, ground := Ground.data }, { on := 6, ground := Ground.chain }], guard := none } : Oper)) (v := ?_) rfl (by kernel_rfl) (by kernel_rfl) (by kernel_rfl) (fun _ _ _ h => h) (Or.inl ⟨by rfl, ?_⟩) hHeld ?_
            rotate_left
            · intro w hSw; (try dsimp only at hSw); go_simp; (first | done | with_reducible rfl)
            try simp only [Act.put, List.setIfInBounds_toArray, List.set_cons_zero, List.set_cons_succ]
            refine wpAnyH_take (i := 9) (oi := ({ dst := some 98, op := Op.move (Operand.tmp 5), type := 23, pos := "law.go:166", after := #[{ on := 8, ground := Ground.guard }], guard := some (8, true) } : Oper)) (v := ?_) rfl (by kernel_rfl) (by kernel_rfl) (by kernel_rfl) (fun _ _ _ h => h) (Or.inl ⟨by rfl, ?_⟩) hHeld ?_
            rotate_left
            · intro w hSw; (try dsimp only at hSw); go_simp; (first | done | with_reducible rfl)
            try simp only [Act.put, List.setIfInBounds_toArray, List.set_cons_zero, List.set_cons_succ]
            refine wpAnyH_ready (rs := [10]) (by kernel_rfl) (by simp) ?_
            refine AllReadyH.cons (o := ({ dst := some 99, op := Op.call { callee := Callee.value (Operand.func 19), args := #[Operand.tmp 98, Operand.const (Value.int IntKind.i64 1)], argTypes := #[23, 3] }, type := 26, pos := "law.go:166", after := #[{ on := 9, ground := Ground.data }, { on := 8, ground := Ground.chain }, { on := 8, ground := Ground.guard }], guard := some (8, true) } : Oper)) rfl (fun K hK => ?_) AllReadyH.nil
            go_simp
            go_at_call 19; ((with_reducible refine (hst1.out _ hB3.out).mono ?_); rintro e w4 ⟨A4, c4, l4, rfl, hm4, -, hB4⟩; obtain rfl : l4 = [] := (by simpa [ordF.sAt] using hm4); have s4 := SO.below hHeld hB4; replace hB4 := Lib.hid (trans0 hB3.out hB4))
            refine hK.out _ _ s4 (fun hHeld => ?_)
            clear hK K
            try simp only [Act.put, List.setIfInBounds_toArray, List.set_cons_zero, List.set_cons_succ]
            refine wpAnyH_take (i := 11) (oi := ({ dst := some 100, op := Op.call { callee := Callee.builtin Builtin.len, args := #[Operand.tmp 99], argTypes := #[26] }, type := 3, pos := "law.go:166", after := #[{ on := 10, ground := Ground.data }, { on := 8, ground := Ground.guard }], guard := some (8, true) } : Oper)) (v := ?_) rfl (by kernel_rfl) (by kernel_rfl) (by kernel_rfl) (fun _ _ _ h => h) (Or.inl ⟨by rfl, ?_⟩) hHeld ?_
            rotate_left
            · intro w hSw; (try dsimp only at hSw); go_simp; (first | done | with_reducible rfl)
            try simp only [Act.put, List.setIfInBounds_toArray, List.set_cons_zero, List.set_cons_succ]
            refine wpAnyH_take (i := 12) (oi := ({ dst := some 101, op := Op.binOp BinOp.eql 3 (Operand.tmp 100) (Operand.const (Value.int IntKind.i64 0)) 3, type := 4, pos := "law.go:166", after := #[{ on := 11, ground := Ground.data }, { on := 8, ground := Ground.guard }], guard := some (8, true) } : Oper)) (v := ?_) rfl (by kernel_rfl) (by kernel_rfl) (by kernel_rfl) (fun _ _ _ h => h) (Or.inl ⟨by rfl, ?_⟩) hHeld ?_
            rotate_left
            · intro w hSw; (try dsimp only at hSw); go_simp; (first | done | with_reducible rfl)
            try simp only [Act.put, List.setIfInBounds_toArray, List.set_cons_zero, List.set_cons_succ]
            refine wpAnyH_take (i := 13) (oi := ({ dst := some 102, op := Op.pick (Operand.tmp 97) (Operand.tmp 101) (Operand.const (Value.bool false)), type := 4, pos := "law.go:166", after := #[{ on := 8, ground := Ground.data }, { on := 12, ground := Ground.data }], guard := none } : Oper)) (v := ?_) rfl (by kernel_rfl) (by kernel_rfl) (by kernel_rfl) (fun _ _ _ h => h) (Or.inl ⟨by rfl, ?_⟩) hHeld ?_
            rotate_left
            · intro w hSw; (try dsimp only at hSw); go_simp; (first | done | with_reducible rfl)
            try simp only [Act.put, List.setIfInBounds_toArray, List.set_cons_zero, List.set_cons_succ]
            refine wpAnyH_take (i := 14) (oi := ({ dst := some 103, op := Op.move (Operand.tmp 102), type := 4, pos := "law.go:166", after := #[{ on := 13, ground := Ground.data }, { on := 10, ground := Ground.chain }], guard := none } : Oper)) (v := ?_) rfl (by kernel_rfl) (by kernel_rfl) (by kernel_rfl) (fun _ _ _ h => h) (Or.inl ⟨by rfl, ?_⟩) hHeld ?_
            rotate_left
            · intro w hSw; (try dsimp only at hSw); go_simp; (first | done | with_reducible rfl)
            try simp only [Act.put, List.setIfInBounds_toArray, List.set_cons_zero, List.set_cons_succ]
            refine wpAnyH_take (i := 15) (oi := ({ dst := some 104, op := Op.load 3 (Operand.tmp 11), type := 3, pos := "law.go:166", after := #[{ on := 14, ground := Ground.guard }], guard := some (14, true) } : Oper)) (v := ?_) rfl (by kernel_rfl) (by kernel_rfl) (by kernel_rfl) (fun _ _ _ h => h) (Or.inl ⟨by rfl, ?_⟩) hHeld ?_
            rotate_left
            · intro w hSw; (try dsimp only at hSw); go_simp; (first | done | with_reducible rfl)
            try simp only [Act.put, List.setIfInBounds_toArray, List.set_cons_zero, List.set_cons_succ]
            refine wpAnyH_take (i := 16) (oi := ({ dst := some 105, op := Op.binOp BinOp.eql 3 (Operand.tmp 104) (Operand.const (Value.int IntKind.i64 1)) 3, type := 4, pos := "law.go:166", after := #[{ on := 15, ground := Ground.data }, { on := 14, ground := Ground.guard }], guard := some (14, true) } : Oper)) (v := ?_) rfl (by kernel_rfl) (by kernel_rfl) (by kernel_rfl) (fun _ _ _ h => h) (Or.inl ⟨by rfl, ?_⟩) hHeld ?_
            rotate_left
            · intro w hSw; (try dsimp only at hSw); go_simp; (first | done | with_reducible rfl)
            try simp only [Act.put, List.setIfInBounds_toArray, List.set_cons_zero, List.set_cons_succ]
            refine wpAnyH_take (i := 17) (oi := ({ dst := some 106, op := Op.move (Operand.tmp 105), type := 4, pos := "law.go:166", after := #[{ on := 16, ground := Ground.data }, { on := 14, ground := Ground.chain }, { on := 14, ground := Ground.guard }], guard := some (14, true) } : Oper)) (v := ?_) rfl (by kernel_rfl) (by kernel_rfl) (by kernel_rfl) (fun _ _ _ h => h) (Or.inl ⟨by rfl, ?_⟩) hHeld ?_
            rotate_left
            · intro w hSw; (try dsimp only at hSw); go_simp; (first | done | with_reducible rfl)
            try simp only [Act.put, List.setIfInBounds_toArray, List.set_cons_zero, List.set_cons_succ]
            refine wpAnyH_take (i := 18) (oi := ({ dst := some 107, op := Op.load 3 (Operand.tmp 3), type := 3, pos := "law.go:166", after := #[{ on := 17, ground := Ground.guard }], guard := some (17, false) } : Oper)) (v := ?_) rfl (by kernel_rfl) (by kernel_rfl) (by kernel_rfl) (fun _ _ _ h => h) (Or.inl ⟨by rfl, ?_⟩) hHeld ?_
            rotate_left
            · intro w hSw; (try dsimp only at hSw); go_simp; (first | done | with_reducible rfl)
            try simp only [Act.put, List.setIfInBounds_toArray, List.set_cons_zero, List.set_cons_succ]
            refine wpAnyH_take (i := 19) (oi := ({ dst := some 108, op := Op.binOp BinOp.eql 3 (Operand.tmp 107) (Operand.const (Value.int IntKind.i64 0)) 3, type := 4, pos := "law.go:166", after := #[{ on := 18, ground := Ground.data }, { on := 17, ground := Ground.guard }], guard := some (17, false) } : Oper)) (v := ?_) rfl (by kernel_rfl) (by kernel_rfl) (by kernel_rfl) (fun _ _ _ h => h) (Or.inl ⟨by rfl, ?_⟩) hHeld ?_
            rotate_left
            · intro w hSw; (try dsimp only at hSw); go_simp; (first | done | with_reducible rfl)
            try simp only [Act.put, List.setIfInBounds_toArray, List.set_cons_zero, List.set_cons_succ]
            refine wpAnyH_take (i := 20) (oi := ({ dst := some 109, op := Op.move (Operand.tmp 108), type := 4, pos := "law.go:166", after := #[{ on := 19, ground := Ground.data }, { on := 17, ground := Ground.chain }, { on := 17, ground := Ground.guard }], guard := some (17, false) } : Oper)) (v := ?_) rfl (by kernel_rfl) (by kernel_rfl) (by kernel_rfl) (fun _ _ _ h => h) (Or.inl ⟨by rfl, ?_⟩) hHeld ?_
            rotate_left
            · intro w hSw; (try dsimp only at hSw); go_simp; (first | done | with_reducible rfl)
            try simp only [Act.put, List.setIfInBounds_toArray, List.set_cons_zero, List.set_cons_succ]
            refine wpAnyH_take (i := 21) (oi := ({ dst := some 110, op := Op.load 3 (Operand.tmp 11), type := 3, pos := "law.go:166", after := #[{ on := 20, ground := Ground.guard }], guard := some (20, true) } : Oper)) (v := ?_) rfl (by kernel_rfl) (by kernel_rfl) (by kernel_rfl) (fun _ _ _ h => h) (Or.inl ⟨by rfl, ?_⟩) hHeld ?_
            rotate_left
            · intro w hSw; (try dsimp only at hSw); go_simp; (first | done | with_reducible rfl)
            try simp only [Act.put, List.setIfInBounds_toArray, List.set_cons_zero, List.set_cons_succ]
            refine wpAnyH_take (i := 22) (oi := ({ dst := some 111, op := Op.binOp BinOp.eql 3 (Operand.tmp 110) (Operand.const (Value.int IntKind.i64 0)) 3, type := 4, pos := "law.go:166", after := #[{ on := 21, ground := Ground.data }, { on := 20, ground := Ground.guard }], guard := some (20, true) } : Oper)) (v := ?_) rfl (by kernel_rfl) (by kernel_rfl) (by kernel_rfl) (fun _ _ _ h => h) (Or.inl ⟨by rfl, ?_⟩) hHeld ?_
            rotate_left
            · intro w hSw; (try dsimp only at hSw); go_simp; (first | done | with_reducible rfl)
            try simp only [Act.put, List.setIfInBounds_toArray, List.set_cons_zero, List.set_cons_succ]
            refine wpAnyH_take (i := 23) (oi := ({ dst := some 112, op := Op.pick (Operand.tmp 109) (Operand.tmp 111) (Operand.const (Value.bool false)), type := 4, pos := "law.go:166", after := #[{ on := 20, ground := Ground.data }, { on := 22, ground := Ground.data }, { on := 17, ground := Ground.guard }], guard := some (17, false) } : Oper)) (v := ?_) rfl (by kernel_rfl) (by kernel_rfl) (by kernel_rfl) (fun _ _ _ h => h) (Or.inl ⟨by rfl, ?_⟩) hHeld ?_
            rotate_left
            · intro w hSw; (try dsimp only at hSw); go_simp; (first | done | with_reducible rfl)
            try simp only [Act.put, List.setIfInBounds_toArray, List.set_cons_zero, List.set_cons_succ]
            refine wpAnyH_take (i := 24) (oi := ({ dst := some 113, op := Op.pick (Operand.tmp 106) (Operand.const (Value.bool true)) (Operand.tmp 112), type := 4, pos := "law.go:166", after := #[{ on := 17, ground := Ground.data }, { on := 23, ground := Ground.data }, { on := 14, ground := Ground.guard }], guard := some (14, true) } : Oper)) (v := ?_) rfl (by kernel_rfl) (by kernel_rfl) (by kernel_rfl) (fun _ _ _ h => h) (Or.inl ⟨by rfl, ?_⟩) hHeld ?_
            rotate_left
            · intro w hSw; (try dsimp only at hSw); go_simp; (first | done | with_reducible rfl)
            try simp only [Act.put, List.setIfInBounds_toArray, List.set_cons_zero, List.set_cons_succ]
            refine wpAnyH_take (i := 25) (oi := ({ dst := some 114, op := Op.pick (Operand.tmp 103) (Operand.tmp 113) (Operand.const (Value.bool false)), type := 4, pos := "law.go:166", after := #[{ on := 14, ground := Ground.data }, { on := 24, ground := Ground.data }], guard := none } : Oper)) (v := ?_) rfl (by kernel_rfl) (by kernel_rfl) (by kernel_rfl) (fun _ _ _ h => h) (Or.inl ⟨by rfl, ?_⟩) hHeld ?_
            rotate_left
            · intro w hSw; (try dsimp only at hSw); go_simp; (first | done | with_reducible rfl)
            try simp only [Act.put, List.setIfInBounds_toArray, List.set_cons_zero, List.set_cons_succ]
            refine wpAnyH_take (i := 26) (oi := ({ dst := some 4, op := Op.assign (Operand.tmp 114), type := 4, pos := "law.go:166", after := _, guard := none } : Oper)) (v := ?_) rfl (by kernel_rfl) (by kernel_rfl) (by kernel_rfl) (fun _ _ _ h => h) (Or.inl ⟨by rfl, ?_⟩) hHeld ?_
            rotate_left
            · intro w hSw; (try dsimp only at hSw); go_simp; (first | done | with_reducible rfl)
            try simp only [Act.put, List.setIfInBounds_toArray, List.set_cons_zero, List.set_cons_succ]
            refine wpAnyH_done (by kernel_rfl) ?_ _
            refine NoPanic.normal ?_
            clear hst5 hst1 hvV hm2 hR2 hRo hBS hB3 hHeld s3
            go_wp2
            have hKa := (hB4.out.block D2 (Array.getElem?_eq_some_iff.1 hK2.out).1).trans hK2.out
            have hKb := (hB4.out.block D (Array.getElem?_eq_some_iff.1 hR.out).1).trans hR.out
            have hDD : D ≠ D2 := by have := hD2.out; omega
            have hKb' : (w4.putObj D2 (.deferred none)).heap[D]? = some (.deferred (some [])) := (World.putObj_heap_other hDD).trans hKb
            refine ⟨by simp, .inl ⟨_, _, rfl, run_takeDeferred hKa, ?_⟩⟩
            refine ⟨by simp, .inl ⟨_, _, rfl, run_takeDeferred hKb', ?_⟩⟩
            refine ⟨.bool true, ?_, rfl, ((hbw.out.trans (hB4.out.mono hbw.out.size)).trans (belowK_b (w := w) (Nat.le_refl _) w4 D2 _ (.deferred none) (by have := hD2.out; omega) hKa rfl rfl)).trans (belowK_b (w := w) (Nat.le_refl _) _ D _ (.deferred none) hwD hKb' rfl rfl)⟩
            simp [results, Try.f6, go_sem]
end Go.Proofs.Ytipnmgihbpbonaa.ordOw
