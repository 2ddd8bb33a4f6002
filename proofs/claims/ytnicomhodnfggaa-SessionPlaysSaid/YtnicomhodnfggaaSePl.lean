/- SessionPlays: any calls of a session are answered as the document says. -/
import Derived.Test.YtnicomhodnfggaaSeZ
import Derived.Test.YtnicomhodnfggaaSeOw
set_option linter.unusedVariables false
set_option linter.unusedSimpArgs false
set_option maxRecDepth 100000
namespace Go.Proofs.Ytnicomhodnfggaa.sePl
open Go.ChangeShapes Go.WideShapes Go.ChangeAt Go.RowKit Go.Deep
open opV opO chnM gen chnA chnR chnE seM seI ordC seL seN seB seK seV seW seG seC seA seS seJ seRi seQ seR seU seX seY seZ seOw

set_option maxHeartbeats 8000000 in
theorem plays_any (A : Option Addr) (n c : Nat) (l : List Oq) (w : World) (h : Rs w A n l) (hc : n ≤ c) (hc9 : c ≤ 9223372036854775807) :
    Calls Try.prog 3 #[.slice A n c] w fun e w' => e = .returned (.bool true) ∧ Below w.heap.size w w' := by
  have hcell := Lib.hid (rs_at h)
  have hnew := Lib.hid (new_any w)
  have hJ0 := j_new w
  obtain ⟨W1, hW1⟩ : ∃ W1, newS w = W1 := ⟨_, rfl⟩
  obtain ⟨p, hp⟩ : ∃ p, w.heap.size + 1 = p := ⟨_, rfl⟩
  rw [hW1, hp] at hnew hJ0
  have hJ1 := jd_start hJ0
  obtain ⟨W2, hW2⟩ : ∃ W2, zD W1 = W2 := ⟨_, rfl⟩
  rw [hW2] at hJ1
  unfold zD at hW2
  replace hW2 := Lib.hid hW2
  obtain ⟨q, hq⟩ : ∃ b, W1.heap.size = b := ⟨_, rfl⟩
  rw [hq] at hJ1
  replace hJ1 := Lib.hid hJ1
  replace hq := Lib.hid hq
  have hok := Lib.hid (rn_ok l)
  have hcn := Lib.hid (rn_cnt l)
  clear h hW1 hp hJ0
  go_enter Try.func3, Try.ntmps3
  go_wp2_with (fail)
  with_reducible refine hnew.out.mono ?_
  rintro e w1 ⟨rfl, rfl⟩
  clear hnew
  go_upto_region 2 with (fail)
  rw [hW2.out, hq.out]
  clear hW2 hq
  go_wp2
  go_loopw [5] (fun i wr => ∃ j : Nat, i = .int .i64 j ∧ j ≤ n ∧ j ≤ 120 ∧ Hid (J w (X2 (XS p (rn l j)) (X2 (XD q (rn l j)) XT)) wr)) (fun i _ => n - (intOf i).toNat)
  case atStart => exact ⟨0, rfl, by omega, by omega, hJ1⟩
  case round =>
    clear hJ1
    obtain ⟨j, rfl, hj, hj1, hJ⟩ := hrel
    by_cases hlt : j < n ∧ j < 120
    · obtain ⟨hlt, h120⟩ := hlt
      obtain ⟨pb, po, rfl, hpb, hO, hko⟩ := hcell.out j hlt
      have hjI : (j : Int) < (n : Int) := by omega
      have hj6 : (j : Int) < 120 := by omega
      have hoj := Lib.hid (hok.out j)
      have hok2 := Lib.hid (hok.out (j + 1))
      have hcj : Hid ((rn l j).cnt ≤ 10000) := Lib.hid (by have := hcn.out j; omega)
      have hWe : Hid (rn l (j + 1) = stS (rn l j) (nt l j)) := Lib.hid rfl
      obtain ⟨o0, o1, o2, o3, o4, o5, o6, o7⟩ := o8_step hO hJ.out.bel (Nat.le_refl _)
      obtain ⟨S2, hSe⟩ : ∃ S2, rn l (j + 1) = S2 := ⟨_, rfl⟩
      rw [hSe] at hWe hok2
      replace hSe := Lib.hid hSe
      have hJ3 := jd_box hJ.out (st_XT 9) (nt l j)
      generalize rn l j = S at *
      generalize nt l j = o at *
      obtain ⟨W3, hW3⟩ : ∃ W3, wr.alloc (.cells (cO o) 33) = W3 := ⟨_, rfl⟩
      obtain ⟨B, hB⟩ : ∃ B, wr.heap.size = B := ⟨_, rfl⟩
      rw [hW3, hB] at hJ3
      have hO3 := jd_o8 hJ3
      replace hJ3 := Lib.hid hJ3
      replace hW3 := Lib.hid hW3
      replace hB := Lib.hid hB
      have hkz : o.key.size ≤ 281474976710656 := by have := hko.2.1; omega
      replace hkz := Lib.hid hkz
      clear hcell hO hok hcn hJ hko
      go_upto_region 8 with (fail)
      rw [hW3.out, hB.out]
      clear o0 o1 o2 o3 o4 o5 o6 o7 hW3 hB
      obtain ⟨o0, o1, o2, o3, o4, o5, o6, o7⟩ := hO3
      go_upto_block 2 with (fail)
      go_cut [7, 8, 9, 10] from 36 to 96 (fun _ _ _ _ wx => Hid (J w (X2 (XS p S2) (X2 (XD q S2) (X2 (XB B o) XT))) wx))
      case first =>
        have hs1 : ∀ d, d ≠ 0 → St d (X2 (XB B o) XT) := fun d hd => st_X2 (st_XB hd) (st_XT d)
        replace hs1 := Lib.hid hs1
        have hsd1 : Hid (St 1 (X2 (XD q S) (X2 (XB B o) XT))) := Lib.hid (st_X2 (st_XD (by decide) (by decide)) (hs1.out 1 (by decide)))
        rcases five_ways o.kind with e | e | e | e | ⟨e0, e1, e2, e3⟩
        · have hk0 : (o.kind == 0) = true := by simpa using e
          have hse : Hid (S2 = beS S o.t) := Lib.hid (by rw [hWe.out]; exact (st0 e).1)
          have hc1 := Lib.hid (j_begin hJ3.out hsd1.out hoj.out o.t)
          have hc2 := Lib.hid (fun V (hV : J w (X2 (XS p (beS S o.t)) (X2 (XD q S) (X2 (XB B o) XT))) V) => jd_begin hV (hs1.out 2 (by decide)) hoj.out hcj.out o.t)
          generalize beT S o.t = ra at *
          generalize beE S = re at *
          clear e hJ3 hoj hcj hs1 hsd1
          go_wp2_with (fail)
          with_reducible refine hc1.out.mono ?_
          rintro e w4 ⟨rfl, hJ4⟩
          clear o0 o1 o2 o3 o4 o5 o6 o7 hc1
          obtain ⟨o0, o1, o2, o3, o4, o5, o6, o7⟩ := jd_o8 hJ4
          have hc3 := Lib.hid (hc2.out _ hJ4)
          clear hJ4 hc2
          go_wp2_with (fail)
          with_reducible refine hc3.out.mono ?_
          rintro e w5 ⟨rfl, hJ5⟩
          clear o0 o1 o2 o3 o4 o5 o6 o7 hc3
          replace hJ5 := Lib.hid hJ5
          go_wp2
          go_meet
          exact Lib.hid (by rw [hse.out]; exact hJ5.out)
        · have hk0 : (o.kind == 0) = false := by simp; omega
          have hk1 : (o.kind == 1) = true := by simpa using e
          have hse : Hid (S2 = wrS S o.key o.val o.gone) := Lib.hid (by rw [hWe.out]; exact (st1 e).1)
          have hJd := hJ3.out.below (st9d (st_X2 (st_XB (by decide)) (st_XT 9))) (below_drew W3)
          have s0 := Lib.hid (jd_o8 hJd)
          have hc1 := Lib.hid (j_write hJd hsd1.out hoj.out o.key o.val o.gone)
          have hc2 := Lib.hid (fun V (hV : J w (X2 (XS p (wrS S o.key o.val o.gone)) (X2 (XD q S) (X2 (XB B o) XT))) V) => jd_write hV (hs1.out 2 (by decide)) hoj.out o.key o.val o.gone)
          generalize wrE S o.key o.val o.gone = re at *
          clear e hJ3 hoj hcj hs1 hsd1 hJd
          go_upto_region 15 with (fail)
          go_region_held3 (fun w' => O8 B 0 o w')
            (first | with_reducible exact s0.out | with_reducible exact s1.out | with_reducible exact s2.out | fail)
            (first
              | (go_at_call 12; ((with_reducible refine (hc3.out).mono ?_); rintro e w5 ⟨rfl, hJ5⟩; have s2 := Lib.hid (jd_o8 hJ5); replace hJ5 := Lib.hid hJ5))
              | (go_at_call 11; ((with_reducible refine (hc1.out).mono ?_); rintro e w4 ⟨rfl, hJ4⟩; have s1 := Lib.hid (jd_o8 hJ4); have hc3 := Lib.hid (hc2.out _ hJ4); clear hJ4))
              | fail)
          all_goals
            clear o0 o1 o2 o3 o4 o5 o6 o7 s0 s1 s2 hc1 hc2 hc3
            go_wp2
            go_meet
            exact Lib.hid (by rw [hse.out]; exact hJ5.out)
        · have hk0 : (o.kind == 0) = false := by simp; omega
          have hk1 : (o.kind == 1) = false := by simp; omega
          have hk2 : (o.kind == 2) = true := by simpa using e
          have hse : Hid (S2 = coS S o.ts o.dc o.tx) := Lib.hid (by rw [hWe.out]; exact (st2 e).1)
          have hJd := hJ3.out.below (st9d (st_X2 (st_XB (by decide)) (st_XT 9))) (below_drew W3)
          have s0 := Lib.hid (jd_o8 hJd)
          have hc1 := Lib.hid (j_commit hJd hsd1.out hoj.out o.ts o.dc o.tx (by have := hcj.out; omega))
          have hc2 := Lib.hid (fun V (hV : J w (X2 (XS p (coS S o.ts o.dc o.tx)) (X2 (XD q S) (X2 (XB B o) XT))) V) => jd_commit hV (hs1.out 2 (by decide)) hoj.out o.ts o.dc o.tx hcj.out)
          generalize coE S o.ts = re at *
          clear e hJ3 hoj hcj hs1 hsd1 hJd
          go_upto_region 18 with (fail)
          go_region_held3 (fun w' => O8 B 0 o w')
            (first | with_reducible exact s0.out | with_reducible exact s1.out | with_reducible exact s2.out | fail)
            (first
              | (go_at_call 14; ((with_reducible refine (hc3.out).mono ?_); rintro e w5 ⟨rfl, hJ5⟩; have s2 := Lib.hid (jd_o8 hJ5); replace hJ5 := Lib.hid hJ5))
              | (go_at_call 13; ((with_reducible refine (hc1.out).mono ?_); rintro e w4 ⟨rfl, hJ4⟩; have s1 := Lib.hid (jd_o8 hJ4); have hc3 := Lib.hid (hc2.out _ hJ4); clear hJ4))
              | fail)
          all_goals
            clear o0 o1 o2 o3 o4 o5 o6 o7 s0 s1 s2 hc1 hc2 hc3
            go_wp2
            go_meet
            exact Lib.hid (by rw [hse.out]; exact hJ5.out)
        · have hk0 : (o.kind == 0) = false := by simp; omega
          have hk1 : (o.kind == 1) = false := by simp; omega
          have hk2 : (o.kind == 2) = false := by simp; omega
          have hk3 : (o.kind == 3) = true := by simpa using e
          have hse : Hid (S2 = clS S) := Lib.hid (by rw [hWe.out]; exact (st3 e).1)
          have hc1 := Lib.hid (j_close hJ3.out hsd1.out hoj.out)
          have hc2 := Lib.hid (fun V (hV : J w (X2 (XS p (clS S)) (X2 (XD q S) (X2 (XB B o) XT))) V) => jd_close hV (hs1.out 2 (by decide)) hoj.out)
          generalize clE S = re at *
          clear e hJ3 hoj hcj hs1 hsd1
          go_wp2_with (fail)
          with_reducible refine hc1.out.mono ?_
          rintro e w4 ⟨rfl, hJ4⟩
          clear o0 o1 o2 o3 o4 o5 o6 o7 hc1
          have hc3 := Lib.hid (hc2.out _ hJ4)
          clear hJ4 hc2
          go_wp2_with (fail)
          with_reducible refine hc3.out.mono ?_
          rintro e w5 ⟨rfl, hJ5⟩
          clear hc3
          replace hJ5 := Lib.hid hJ5
          go_wp2
          go_meet
          exact Lib.hid (by rw [hse.out]; exact hJ5.out)
        · have hk0 : (o.kind == 0) = false := by simpa using e0
          have hk1 : (o.kind == 1) = false := by simpa using e1
          have hk2 : (o.kind == 2) = false := by simpa using e2
          have hk3 : (o.kind == 3) = false := by simpa using e3
          have hse : Hid (S2 = S) := Lib.hid (by rw [hWe.out]; exact (st4 e0 e1 e2 e3).1)
          clear e0 e1 e2 e3 hoj hcj hs1 hsd1
          go_wp2
          go_meet
          exact Lib.hid (by rw [hse.out]; exact hJ3.out)
      case rest =>
      have hJ5 := hcut.out
      obtain ⟨o0, o1, o2, o3, o4, o5, o6, o7⟩ := jd_o8 hJ5
      have hlk := Lib.hid (j_look hJ5 (st_X2 (st_XD (by decide) (by decide)) (st_X2 (st_XB (by decide)) (st_XT 9))) hok2.out o.key hkz.out)
      have hdl := Lib.hid (fun V (hV : J w (X2 (XS p S2) (X2 (XD q S2) (X2 (XB B o) XT))) V) => jd_look hV (st_X2 (st_XB (by decide)) (st_XT 9)) o.key)
      obtain ⟨lv, hlv⟩ : ∃ v, lkV S2 o.key = v := ⟨_, rfl⟩
      obtain ⟨ln, hln⟩ : ∃ v, lkN S2 o.key = v := ⟨_, rfl⟩
      rw [hlv, hln] at hlk hdl
      have hbx := Lib.hid (fun V (hV : J w (X2 (XS p S2) (X2 (XD q S2) (X2 (XB B o) XT))) V) => (⟨hV.below (st9d (st_X2 (st_XB (by decide)) (st_XT 9))) (al0 V _), V6.new V lv _⟩ : J w (X2 (XS p S2) (X2 (XD q S2) (X2 (XB B o) XT))) (V.alloc (.cells #[.string lv.key, .string lv.val, .bool lv.gone, .int .u64 lv.ts, .int .i64 lv.dc, .int .i64 lv.tx] 41)) ∧ V6 V.heap.size 0 lv (V.alloc (.cells #[.string lv.key, .string lv.val, .bool lv.gone, .int .u64 lv.ts, .int .i64 lv.dc, .int .i64 lv.tx] 41))))
      have hbl := Lib.hid (fun V V' (hV : J w (X2 (XS p S2) (X2 (XD q S2) (X2 (XB B o) XT))) V) (hB : Below V.heap.size V V') => hV.below (st9d (st_X2 (st_XB (by decide)) (st_XT 9))) hB)
      have hnq := neq_self lv
      clear hJ5 hlv hln hWe hoj hcj hcut hJ3
      go_wp2_with (fail)
      with_reducible refine hlk.out.mono ?_
      rintro e w6 ⟨rfl, hJ6⟩
      clear o0 o1 o2 o3 o4 o5 o6 o7 hlk
      obtain ⟨h7, v7⟩ := hbx.out _ hJ6
      obtain ⟨W7, hW7⟩ : ∃ W7, w6.alloc (.cells #[.string lv.key, .string lv.val, .bool lv.gone, .int .u64 lv.ts, .int .i64 lv.dc, .int .i64 lv.tx] 41) = W7 := ⟨_, rfl⟩
      rw [hW7] at h7 v7
      obtain ⟨o0, o1, o2, o3, o4, o5, o6, o7⟩ := jd_o8 h7
      have hd7 := Lib.hid (hdl.out _ h7)
      replace h7 := Lib.hid h7
      replace hW7 := Lib.hid hW7
      obtain ⟨b1, hb1⟩ : ∃ b, w6.heap.size = b := ⟨_, rfl⟩
      rw [hb1] at v7
      replace hb1 := Lib.hid hb1
      clear hJ6 hdl
      go_upto_region 24 with (fail)
      rw [hW7.out, hb1.out]
      clear hW7 hb1
      go_wp2_with (fail)
      with_reducible refine hd7.out.mono ?_
      rintro e w8 ⟨rfl, hB8⟩
      clear o0 o1 o2 o3 o4 o5 o6 o7 hd7
      have h8 := hbl.out _ _ h7.out hB8
      have v8 := v7.below hB8
      obtain ⟨h9, v9⟩ := hbx.out _ h8
      obtain ⟨W9, hW9⟩ : ∃ W9, w8.alloc (.cells #[.string lv.key, .string lv.val, .bool lv.gone, .int .u64 lv.ts, .int .i64 lv.dc, .int .i64 lv.tx] 41) = W9 := ⟨_, rfl⟩
      have u9 : V6 b1 0 lv W9 := by rw [← hW9]; exact v8.below (al0 _ _)
      rw [hW9] at h9 v9
      obtain ⟨b2, hb2⟩ : ∃ b, w8.heap.size = b := ⟨_, rfl⟩
      rw [hb2] at v9
      obtain ⟨Aw, cw, Ac, cc, hK⟩ := kk_of (jd_drop h9) u9 v9
      replace hb2 := Lib.hid hb2
      replace hW9 := Lib.hid hW9
      have hK0 := Lib.hid (hK.below (below_drew W9))
      have s0 := Lib.hid hK0.out.sc
      have hop := Lib.hid (k_open hK0.out)
      have hsn := Lib.hid (k_snap hK0.out)
      have hlo := Lib.hid (k_low hK0.out)
      clear h7 hB8 h8 v8 h9 v7 v9 u9 hbx hbl
      go_upto_region 25 with (fail)
      rw [hW9.out, hb2.out]
      clear hW9 hb2
      obtain ⟨⟨⟨a0, a1, a2, a3, a4, a5⟩, ⟨d0, d1, d2, d3, d4, d5⟩⟩, z0, z2, z3⟩ := hK.sc
      clear hK
      go_region_held3 (fun w' => SC q S2 Aw cw b1 b2 lv w')
        (first | with_reducible exact s0.out | with_reducible exact s1.out | with_reducible exact s2.out | with_reducible exact s3.out | with_reducible exact s4.out | fail)
        (first
          | (go_at_call 23; ((with_reducible refine (hsv.out).mono ?_); rintro e w16 ⟨rfl, hK4⟩; have s4 := Lib.hid hK4.sc; replace hK4 := Lib.hid hK4))
          | (go_at_call 24; ((with_reducible refine (hwr.out).mono ?_); rintro e w15 ⟨A9, c9, rfl, hv9, hK3⟩; have s3 := Lib.hid hK3.sc; have hsv := Lib.hid (k_same hK3 hv9); clear hv9 hK3))
          | (go_at_call 22; ((with_reducible refine (hdl.out).mono ?_); rintro e w14 ⟨rfl, hK2⟩; have s2 := Lib.hid hK2.sc; have hwr := Lib.hid (k_writes hK2 hok2.out); clear hK2))
          | (go_at_call 21; ((with_reducible refine (hlo.out).mono ?_); rintro e w13 ⟨rfl, hK1⟩; have s1 := Lib.hid hK1.sc; have hdl := Lib.hid (k_dlow hK1); clear hK1))
          | (go_at_call 20; ((with_reducible refine (hsn.out).mono ?_); rintro e w12 ⟨rfl, rfl⟩))
          | (go_at_call 19; ((with_reducible refine (hop.out).mono ?_); rintro e w11 ⟨rfl, rfl⟩))
          | fail)
      all_goals
        have hJ9 := Lib.hid hK4.out.j
        clear a0 a1 a2 a3 a4 a5 d0 d1 d2 d3 d4 d5 z0 z2 z3 s0 s1 s2 s3 s4 hsv hwr hdl hlo hsn hop hK0 hK4
        go_wp2
        go_roundw
        case rel => exact ⟨j + 1, by go_num, by omega, by omega, by rw [hSe.out]; exact hJ9⟩
        case measure => simp [intOf]; omega
    · clear hcell
      have hcut : (n ≤ j) ∨ (j < n ∧ ¬ j < 120) := by omega
      have haw := Lib.hid (awake_any wr)
      have hbl := Lib.hid hJ.out.bel
      clear hJ hok hcn hlt
      rcases hcut with h1 | ⟨h1, h2⟩
      · have hjI : ¬ (j : Int) < (n : Int) := by omega
        go_wp2_with (fail)
        with_reducible refine haw.out.mono ?_
        rintro e w2 ⟨rfl, hB2⟩
        have hfin := Lib.hid (trans0 hbl.out hB2)
        clear hB2 hbl haw
        go_wp2
        go_ret
        exact ⟨rfl, hfin.out⟩
      · have hjI : (j : Int) < (n : Int) := by omega
        have hj6 : ¬ (j : Int) < 120 := by omega
        go_wp2_with (fail)
        with_reducible refine haw.out.mono ?_
        rintro e w2 ⟨rfl, hB2⟩
        have hfin := Lib.hid (trans0 hbl.out hB2)
        clear hB2 hbl haw
        go_wp2
        go_ret
        exact ⟨rfl, hfin.out⟩
end Go.Proofs.Ytnicomhodnfggaa.sePl
