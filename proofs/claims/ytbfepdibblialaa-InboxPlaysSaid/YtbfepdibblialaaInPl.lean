/- InboxPlays. -/
import Derived.Test.YtbfepdibblialaaInY
import Derived.Deep.DeepCutAuto
import Derived.Deep.CutBlock
import Derived.Deep.CutRange
set_option linter.unusedVariables false
set_option linter.unusedSimpArgs false
set_option maxRecDepth 100000
namespace Go.Proofs.Ytbfepdibblialaa.inPl
open Go.ChangeShapes Go.WideShapes Go.ChangeAt Go.RowKit Go.Deep
open opG opV opR chnM gen chnA chnR chnE ordA ordB ordC ordCr ordE2 inM inW inL inN inP inPt inG inD inA inK inS inQ inR inU inV inX inY

set_option maxHeartbeats 8000000 in
theorem plays_any (at0 : Int) (A : Option Addr) (n c : Nat) (ops : List Oq) (w : World) (h : Rs w QOp 7 A n ops) :
    Calls Try.prog 3 #[.int .i64 at0, .slice A n c] w fun e w' => e = .returned (.bool true) ∧ Below w.heap.size w w' := by
  have hn9 := h.2.1
  have hcell := Lib.hid (fun (j : Nat) (hj : j < n) => (show ∃ b off, A = some ⟨b, off, none⟩ ∧ b < w.heap.size ∧ QOp w b (off + j * 7) (nt ops j) by
    rcases h.2.2 with h0 | ⟨b, off, e, h3, h4⟩
    · omega
    · exact ⟨b, off, e, h3, h4 j hj⟩))
  obtain ⟨a1, ha1⟩ : ∃ z, min at0 1152921504606846976 = z := ⟨_, rfl⟩
  have ha6 : a1 ≤ 1152921504606846976 := by omega
  have hnew := Lib.hid (new_any a1 w)
  have hdnew := Lib.hid (dnew_any a1 (newB w a1))
  have hJ0 := jd_new (w := w) (at0 := a1)
  obtain ⟨p, hp⟩ : ∃ p, w.heap.size + 1 = p := ⟨_, rfl⟩
  obtain ⟨q, hq⟩ : ∃ q, (newB w a1).heap.size = q := ⟨_, rfl⟩
  obtain ⟨W2, hW2⟩ : ∃ W2, newD (newB w a1) ((B0 a1).first : Nat) = W2 := ⟨_, rfl⟩
  rw [hq, hW2] at hdnew
  rw [hp, hq, hW2] at hJ0
  rw [hp] at hnew
  obtain ⟨W1, hW1⟩ : ∃ W1, newB w a1 = W1 := ⟨_, rfl⟩
  rw [hW1] at hnew hdnew
  replace hJ0 := Lib.hid hJ0
  have hok0 := Lib.hid (ok_B0 a1)
  have hlm0 := Lib.hid (lm_B0 ha6)
  generalize B0 a1 = S0 at *
  clear h hW1 hW2 hp hq ha6
  go_enter Try.func3, Try.ntmps3
  go_wp2_with (fail)
  with_reducible refine hnew.out.mono ?_
  rintro e w1 ⟨rfl, rfl⟩
  go_wp2_with (fail)
  with_reducible refine hdnew.out.mono ?_
  rintro e w2 ⟨rfl, rfl⟩
  clear hnew hdnew ha1
  go_wp2
  go_loopw [7] (fun i wr => ∃ (j : Nat) (S : Bx), i = .int .i64 j ∧ j ≤ n ∧ j ≤ 120 ∧ Hid (J w p S (XZ q S XT) wr) ∧ Hid S.ok ∧ Hid (Lm S j)) (fun i _ => n - (intOf i).toNat)
  case atStart => exact ⟨0, S0, rfl, by omega, by omega, hJ0, hok0, hlm0⟩
  case round =>
    clear hJ0 hok0 hlm0
    obtain ⟨j, S, rfl, hj, hj1, hJ, hok, hlm⟩ := hrel
    by_cases hlt : j < n ∧ j < 120
    · obtain ⟨hlt, h100⟩ := hlt
      obtain ⟨pb, po, rfl, hpb, ⟨o0, o1, o2, o3⟩, hko⟩ := hcell.out j hlt
      have hjI : (j : Int) < (n : Int) := by omega
      have hj6 : (j : Int) < 120 := by omega
      have o0 := keep_cell hJ.out.bel o0
      have o1 := keep_cell hJ.out.bel o1
      obtain ⟨q0, q1, q2, q3⟩ := R4.step o2 hJ.out.bel (Nat.le_refl _)
      have o3 := keep_cell hJ.out.bel o3
      have hst := Lib.hid (ok_step (o := nt ops j) hok.out hko.2.2.2.1)
      have hls := Lib.hid (lm_step (o := nt ops j) hlm.out)
      have hP := Lib.hid (hJ.out.opn (st_XZ (st_XT 1)) (nt ops j))
      obtain ⟨W2, hW2⟩ : ∃ W2, wr.alloc (.cells (oC (nt ops j)) 32) = W2 := ⟨_, rfl⟩
      obtain ⟨B, hB⟩ : ∃ B, wr.heap.size = B := ⟨_, rfl⟩
      rw [hW2, hB] at hP
      generalize nt ops j = o at *
      replace hW2 := Lib.hid hW2
      replace hB := Lib.hid hB
      go_upto_block 2 with (fail)
      rw [hW2.out, hB.out]
      clear o0 o1 o2 o3 q0 q1 q2 q3
      go_cut [9, 10, 11, 12, 13, 14, 15, 16, 17, 18] from 43 to 131 (fun _ _ _ _ _ _ _ _ _ _ wx => Hid (J w p (stepS S o) (XZ q (stepS S o) XT) wx))
      case first =>
        obtain ⟨hkk, ⟨ha1, ha2⟩, hkm, ⟨ht1, ht2⟩⟩ := hko
        have hcm := hkm.2.2.2.1.le
        have htm := hkm.2.2.2.1.top
        have hHV := Lib.hid (fun w' (hB : Below w.heap.size w w') => HV.few (hkm.2.2.2.1.below hB))
        have hSm : Hid (Sm (fw o.m).vs) := Lib.hid (fun v hv => hkm.2.2.2.2 v (List.mem_of_mem_take hv))
        have hfe := Lib.hid (fun w' => few_any o.m w' hcm htm)
        have hlim := Lib.hid (hlm.out.lim (by omega))
        clear hcm htm hkm hkk hst hls hJ hW2 hB hcell
        rcases five_ways o.kind with e | e | e | e | ⟨e0, e1, e2, e3⟩
        · have hse := Lib.hid (step0 (S := S) e)
          have hkb : (o.kind == 0) = true := by simpa using e
          have hPd := Lib.hid (hP.out.below (st_XZ (st_XT 1)) (below_drew W2))
          have s0 := Lib.hid hPd.out.b7
          obtain ⟨k0, k1, k2, k3⟩ := hP.out.b7
          clear e k1 k2 k3
          go_upto_region 15 with (fail)
          go_region_held3 (fun w' => B7 B o w')
            (first | with_reducible exact s0.out | with_reducible exact s1.out | with_reducible exact s2.out | with_reducible exact s3.out | with_reducible exact s4.out | fail)
            (first
              | (go_at_call 12; ((with_reducible refine (hd4.out).mono ?_); rintro e w14 ⟨rfl, hP14⟩; have s4 := Lib.hid hP14.b7; replace hP14 := Lib.hid hP14))
              | (go_at_call 11; ((with_reducible refine (hfe3.out _).mono ?_); rintro e w13 ⟨rfl, hB13⟩; have hP13 := hP12.out.below (st_XZ (st_XT 1)) hB13; have s3 := Lib.hid hP13.b7; have hd4 := Lib.hid (p_dput hP13 (st_XT 2) hok.out hlim.out o.at0 (fw o.m) (hHV.out _ hP13.bel) hSm.out); clear hP13 hB13))
              | (go_at_call 10; ((with_reducible refine (hd2.out).mono ?_); rintro e w12 ⟨rfl, hP12⟩; have s2 := Lib.hid hP12.b7; replace hP12 := Lib.hid hP12; have hfe3 := Lib.hid hfe.out))
              | (go_at_call 11; ((with_reducible refine (hfe.out _).mono ?_); rintro e w11 ⟨rfl, hB11⟩; have hP11 := hPd.out.below (st_XZ (st_XT 1)) hB11; have s1 := Lib.hid hP11.b7; have hd2 := Lib.hid (hP11.put (st_XZ (st_XT 1)) hok.out hlim.out o.at0 (fw o.m) (hHV.out _ hP11.bel) hSm.out); clear hP11 hB11))
              | fail)
          all_goals
            have hcut := Lib.hid (show J w p (stepS S o) (XZ q (stepS S o) XT) w14 from by rw [hse.out]; exact hP14.out.j)
            clear s0 s1 s2 s3 s4 hd2 hd4 hPd hP hP12 hP14 hfe3 hse
            go_wp2
            go_meet
            exact hcut
        · have hse := Lib.hid (step1 (S := S) e)
          have hk0 : (o.kind == 0) = false := by simp; omega
          have hk1 : (o.kind == 1) = true := by simpa using e
          obtain ⟨k0, k1, k2, k3⟩ := hP.out.b7
          have hct := Lib.hid (hP.out.next (st_XZ (st_XT 1)) hok.out hlim.out)
          obtain ⟨np, hnp⟩ : ∃ z, nxP S = z := ⟨_, rfl⟩
          obtain ⟨bt, hbt⟩ : ∃ z, isThere S = z := ⟨_, rfl⟩
          rw [hnp, hbt] at hct
          clear e hfe hP
          go_wp2_with (fail)
          with_reducible refine hct.out.mono ?_
          rintro e w3 ⟨m1, rfl, hO, hP3⟩
          have hmr1 := Lib.hid hO.r
          have hP4 := p_box (p_own hP3 hO)
          obtain ⟨W4, hW4⟩ : ∃ W4, w3.alloc (.cells #[.int .u64 m1.ts, .int .i64 m1.dc, .int .i64 m1.tx, .slice m1.A m1.vs.length m1.c] 30) = W4 := ⟨_, rfl⟩
          obtain ⟨xb, hxb⟩ : ∃ xb, w3.heap.size = xb := ⟨_, rfl⟩
          rw [hW4, hxb] at hP4
          have hct2 := Lib.hid (p_dnext hP4 (st_XB m1 xb (by decide)) hok.out hlim.out)
          rw [hnp, hbt] at hct2
          replace hW4 := Lib.hid hW4
          replace hxb := Lib.hid hxb
          clear k0 k1 k2 k3 hct hP3 hP4 hO
          go_upto_region 19 with (fail)
          rw [hW4.out, hxb.out]
          go_wp2_with (fail)
          with_reducible refine hct2.out.mono ?_
          rintro e w5 ⟨⟨m2, rfl, hmr2, hv2⟩, hP5⟩
          go_upto_region 20 with (fail)
          have hal := al0 w5 (.cells #[.int .u64 m2.ts, .int .i64 m2.dc, .int .i64 m2.tx, .slice m2.A m2.vs.length m2.c] 30)
          have hX2 := P4.new w5 m2
          have hP6 := hP5.below (st_XZ (st_XB m1 xb (by decide))) hal
          have hv6 := hv2.below hal
          obtain ⟨W6, hW6⟩ : ∃ W6, w5.alloc (.cells #[.int .u64 m2.ts, .int .i64 m2.dc, .int .i64 m2.tx, .slice m2.A m2.vs.length m2.c] 30) = W6 := ⟨_, rfl⟩
          rw [hW6] at hX2 hP6 hv6 ⊢
          obtain ⟨hv1, hX1⟩ := p_x hP6
          have hsm := Lib.hid (rsame_any m1 m2 W6 hv1 hv6)
          rw [show sameR m1 m2 = true from decide_eq_true (hmr1.out.trans hmr2.symm)] at hsm
          obtain ⟨b0, b1, b2, b3⟩ := hX1.r4
          obtain ⟨d0, d1, d2, d3⟩ := hX2.r4
          have hP7 := Lib.hid (fun w' (hB : Below W6.heap.size W6 w') => (p_forget (hP6.below (st_XZ (st_XB m1 xb (by decide))) hB)).j)
          clear hW6 hX2 hP6 hv6 hv1 hX1 hv2 hP5 hal hct2 hmr2 hmr1
          go_wp2_with (fail)
          with_reducible refine hsm.out.mono ?_
          rintro e w8 ⟨rfl, hB8⟩
          have hcut := Lib.hid (show J w p (stepS S o) (XZ q (stepS S o) XT) w8 from by rw [hse.out]; exact hP7.out _ hB8)
          clear hP7 hB8 hsm b0 b1 b2 b3 d0 d1 d2 d3 hse
          go_wp2
          go_meet
          exact hcut
        · have hse := Lib.hid (step2 (S := S) e)
          have hk0 : (o.kind == 0) = false := by simp; omega
          have hk1 : (o.kind == 1) = false := by simp; omega
          have hk2 : (o.kind == 2) = true := by simpa using e
          have hPd := Lib.hid (hP.out.below (st_XZ (st_XT 1)) (below_drew W2))
          have s0 := Lib.hid hPd.out.b7
          have hd2 := Lib.hid (hPd.out.done (st_XZ (st_XT 1)) hok.out hlim.out o.at0 ha1 ha2)
          obtain ⟨k0, k1, k2, k3⟩ := hP.out.b7
          clear e k1 k2 k3 hfe
          go_upto_region 23 with (fail)
          go_region_held3 (fun w' => B7 B o w')
            (first | with_reducible exact s0.out | with_reducible exact s2.out | with_reducible exact s4.out | fail)
            (first
              | (go_at_call 17; ((with_reducible refine (hd4.out).mono ?_); rintro e w14 ⟨rfl, hP14⟩; have s4 := Lib.hid hP14.b7; replace hP14 := Lib.hid hP14))
              | (go_at_call 16; ((with_reducible refine (hd2.out).mono ?_); rintro e w12 ⟨rfl, hP12⟩; have s2 := Lib.hid hP12.b7; have hd4 := Lib.hid (p_ddone hP12 (st_XT 2) hok.out hlim.out o.at0 ha1 ha2); clear hP12))
              | fail)
          all_goals
            have hcut := Lib.hid (show J w p (stepS S o) (XZ q (stepS S o) XT) w14 from by rw [hse.out]; exact hP14.out.j)
            clear s0 s2 s4 hd2 hd4 hPd hP hP14 hse
            go_wp2
            go_meet
            exact hcut
        · have hse := Lib.hid (step3 (S := S) e)
          have hk0 : (o.kind == 0) = false := by simp; omega
          have hk1 : (o.kind == 1) = false := by simp; omega
          have hk2 : (o.kind == 2) = false := by simp; omega
          have hk3 : (o.kind == 3) = true := by simpa using e
          obtain ⟨k0, k1, k2, k3⟩ := hP.out.b7
          have hct := Lib.hid (hP.out.heart (st_XZ (st_XT 1)) hok.out hlim.out o.t o.at0 ht1 ht2 ha1 ha2)
          clear e hfe hP
          go_wp2_with (fail)
          with_reducible refine hct.out.mono ?_
          rintro e w3 ⟨rfl, hP3⟩
          clear k0 k1 k2 k3 hct
          obtain ⟨k0, k1, k2, k3⟩ := hP3.b7
          have hct2 := Lib.hid (p_dheart hP3 (st_XT 2) hok.out hlim.out o.t o.at0)
          clear hP3
          go_wp2_with (fail)
          with_reducible refine hct2.out.mono ?_
          rintro e w5 ⟨rfl, hP5⟩
          have hcut := Lib.hid (show J w p (stepS S o) (XZ q (stepS S o) XT) w5 from by rw [hse.out]; exact hP5.j)
          clear hP5 hct2 k0 k1 k2 k3 hse
          go_wp2
          go_meet
          exact hcut
        · have hse := Lib.hid (step4 (S := S) e0 e1 e2 e3)
          have hk0 : (o.kind == 0) = false := by simpa using e0
          have hk1 : (o.kind == 1) = false := by simpa using e1
          have hk2 : (o.kind == 2) = false := by simpa using e2
          have hk3 : (o.kind == 3) = false := by simpa using e3
          obtain ⟨k0, k1, k2, k3⟩ := hP.out.b7
          have hct := Lib.hid (hP.out.peek (st_XZ (st_XT 1)) hok.out)
          obtain ⟨bt, hbt⟩ : ∃ z, isThere S = z := ⟨_, rfl⟩
          rw [hbt] at hct
          clear e0 e1 e2 e3 hfe hP
          go_wp2_with (fail)
          with_reducible refine hct.out.mono ?_
          rintro e w3 ⟨m1, rfl, hO, hP3⟩
          have hmr1 := Lib.hid hO.r
          have hP4 := p_box (p_own hP3 hO)
          obtain ⟨W4, hW4⟩ : ∃ W4, w3.alloc (.cells #[.int .u64 m1.ts, .int .i64 m1.dc, .int .i64 m1.tx, .slice m1.A m1.vs.length m1.c] 30) = W4 := ⟨_, rfl⟩
          obtain ⟨xb, hxb⟩ : ∃ xb, w3.heap.size = xb := ⟨_, rfl⟩
          rw [hW4, hxb] at hP4
          have hct2 := Lib.hid (p_dpeek hP4 (st_XB m1 xb (by decide)) hok.out)
          rw [hbt] at hct2
          replace hW4 := Lib.hid hW4
          replace hxb := Lib.hid hxb
          clear k0 k1 k2 k3 hct hP3 hP4 hO
          go_upto_region 11 with (fail)
          rw [hW4.out, hxb.out]
          go_wp2_with (fail)
          with_reducible refine hct2.out.mono ?_
          rintro e w5 ⟨⟨m2, rfl, hmr2, hv2⟩, hP5⟩
          go_upto_region 12 with (fail)
          have hal := al0 w5 (.cells #[.int .u64 m2.ts, .int .i64 m2.dc, .int .i64 m2.tx, .slice m2.A m2.vs.length m2.c] 30)
          have hX2 := P4.new w5 m2
          have hP6 := hP5.below (st_XZ (st_XB m1 xb (by decide))) hal
          have hv6 := hv2.below hal
          obtain ⟨W6, hW6⟩ : ∃ W6, w5.alloc (.cells #[.int .u64 m2.ts, .int .i64 m2.dc, .int .i64 m2.tx, .slice m2.A m2.vs.length m2.c] 30) = W6 := ⟨_, rfl⟩
          rw [hW6] at hX2 hP6 hv6 ⊢
          obtain ⟨hv1, hX1⟩ := p_x hP6
          have hsm := Lib.hid (rsame_any m1 m2 W6 hv1 hv6)
          rw [show sameR m1 m2 = true from decide_eq_true (hmr1.out.trans hmr2.symm)] at hsm
          obtain ⟨b0, b1, b2, b3⟩ := hX1.r4
          obtain ⟨d0, d1, d2, d3⟩ := hX2.r4
          have hP7 := Lib.hid (fun w' (hB : Below W6.heap.size W6 w') => (p_forget (hP6.below (st_XZ (st_XB m1 xb (by decide))) hB)).j)
          clear hW6 hX2 hP6 hv6 hv1 hX1 hv2 hP5 hal hct2 hmr2 hmr1
          go_wp2_with (fail)
          with_reducible refine hsm.out.mono ?_
          rintro e w8 ⟨rfl, hB8⟩
          have hcut := Lib.hid (show J w p (stepS S o) (XZ q (stepS S o) XT) w8 from by rw [hse.out]; exact hP7.out _ hB8)
          clear hP7 hB8 hsm b0 b1 b2 b3 d0 d1 d2 d3 hse
          go_wp2
          go_meet
          exact hcut
      case rest =>
      have hJd := Lib.hid (hcut.out.below (st_XZ (st_XT 1)) (below_drew wc))
      have hA1 := Lib.hid hJd.out.applied
      have hA2 := Lib.hid (j_dapplied hJd.out hst.out (hls.out.lim (by omega)))
      have hG1 := Lib.hid hJd.out.got
      have s0 := Lib.hid (j_dgot hJd.out)
      generalize stepS S o = S2 at *
      generalize (S2.ap : Int) = ap at *
      generalize S2.g = g at *
      clear hcut hP hW2 hB hko hJ hcell
      go_upto_region 28 with (fail)
      go_region_held3 (fun w' => w'.cell? ⟨q, 5, none⟩ = some (.int .u64 g))
        (first | with_reducible exact s0.out | fail)
        (first
          | (go_at_call 22; ((with_reducible refine (hA1.out).mono ?_); rintro e w' ⟨rfl, rfl⟩))
          | (go_at_call 23; ((with_reducible refine (hA2.out).mono ?_); rintro e w' ⟨rfl, rfl⟩))
          | (go_at_call 24; ((with_reducible refine (hG1.out).mono ?_); rintro e w' ⟨rfl, rfl⟩)) | fail)
      all_goals
        clear s0 hA1 hA2 hG1
        go_wp2
        go_roundw
        case rel => exact ⟨j + 1, S2, by go_num, by omega, by omega, hJd, hst, hls⟩
        case measure => simp [intOf]; omega
    · clear hcell
      have hcut : (n ≤ j) ∨ (j < n ∧ ¬ j < 120) := by omega
      have haw := Lib.hid (awake_any wr)
      have hbl := Lib.hid hJ.out.bel
      clear hJ hok hlm hlt
      rcases hcut with h1 | ⟨h1, h2⟩
      · have hjI : ¬ (j : Int) < (n : Int) := by omega
        go_wp2_with (fail)
        with_reducible refine haw.out.mono ?_
        rintro e w2 ⟨rfl, hB2⟩
        have hfin := Lib.hid (trans0 hbl.out hB2)
        clear hB2 hbl haw
        go_wp2
        go_ret
        exact ⟨rfl, hfin.out⟩
      · have hjI : (j : Int) < (n : Int) := by omega
        have hj6 : ¬ (j : Int) < 120 := by omega
        go_wp2_with (fail)
        with_reducible refine haw.out.mono ?_
        rintro e w2 ⟨rfl, hB2⟩
        have hfin := Lib.hid (trans0 hbl.out hB2)
        clear hB2 hbl haw
        go_wp2
        go_ret
        exact ⟨rfl, hfin.out⟩
end Go.Proofs.Ytbfepdibblialaa.inPl
