/- PartPlays: any calls of a side are answered as the document says. -/
import Derived.Test.YteelndiiennhkaaPtZ
set_option linter.unusedVariables false
set_option linter.unusedSimpArgs false
set_option maxRecDepth 100000
namespace Go.Proofs.Yteelndiiennhkaa.ptPl
open Go.ChangeShapes Go.WideShapes Go.ChangeAt Go.RowKit Go.Deep
open opG opO hlcA gen ptM ptL ptN ptG ptA ptJ ptQ ptR ptZ

set_option maxHeartbeats 8000000 in
theorem plays_any (A : Option Addr) (n c : Nat) (l : List Oq) (w : World) (h : Rs w A n l) (hc : n ≤ c) (hc9 : c ≤ 9223372036854775807) :
    Calls Try.prog 3 #[.slice A n c] w fun e w' => e = .returned (.bool true) ∧ Below w.heap.size w w' := by
  have hcell := Lib.hid (rs_at h)
  have hnew := Lib.hid (new_any w)
  have hJ0 := j_new w
  obtain ⟨W1, hW1⟩ : ∃ W1, newS w = W1 := ⟨_, rfl⟩
  obtain ⟨p, hp⟩ : ∃ p, w.heap.size + 1 = p := ⟨_, rfl⟩
  rw [hW1, hp] at hnew hJ0
  have hJ1 := jd_start hJ0
  obtain ⟨W2, hW2⟩ : ∃ W2, zD W1 = W2 := ⟨_, rfl⟩
  rw [hW2] at hJ1
  unfold zD at hW2
  replace hW2 := Lib.hid hW2
  obtain ⟨q, hq⟩ : ∃ b, W1.heap.size = b := ⟨_, rfl⟩
  rw [hq] at hJ1
  replace hJ1 := Lib.hid hJ1
  replace hq := Lib.hid hq
  have hok := Lib.hid (rn_ok (rs_t h))
  have hln := Lib.hid (rn_len l)
  clear h hW1 hp hJ0
  go_enter Try.func3, Try.ntmps3
  go_wp2_with (fail)
  with_reducible refine hnew.out.mono ?_
  rintro e w1 ⟨rfl, rfl⟩
  clear hnew
  go_upto_region 2 with (fail)
  rw [hW2.out, hq.out]
  clear hW2 hq
  go_wp2
  go_loopw [5] (fun i wr => ∃ j : Nat, i = .int .i64 j ∧ j ≤ n ∧ j ≤ 120 ∧ Hid (J w (X2 (XS p (rn l j)) (X2 (XD q (rn l j)) XT)) wr)) (fun i _ => n - (intOf i).toNat)
  case atStart => exact ⟨0, rfl, by omega, by omega, hJ1⟩
  case round =>
    clear hJ1
    obtain ⟨j, rfl, hj, hj1, hJ⟩ := hrel
    by_cases hlt : j < n ∧ j < 120
    · obtain ⟨hlt, h120⟩ := hlt
      obtain ⟨pb, po, rfl, hpb, hO, hko⟩ := hcell.out j hlt
      have hjI : (j : Int) < (n : Int) := by omega
      have hj6 : (j : Int) < 120 := by omega
      have hoj := Lib.hid (hok.out j (by omega))
      have hlj : Hid ((rn l j).os.length ≤ 1000) := Lib.hid (by have := hln.out j; omega)
      have hWe : Hid (rn l (j + 1) = stS (rn l j) (nt l j)) := Lib.hid rfl
      obtain ⟨o0, o1, o2, o3⟩ := o4_step hO hJ.out.bel (Nat.le_refl _)
      obtain ⟨S2, hSe⟩ : ∃ S2, rn l (j + 1) = S2 := ⟨_, rfl⟩
      rw [hSe] at hWe
      replace hSe := Lib.hid hSe
      have hJ3 := jd_box hJ.out (st_XT 9) (nt l j)
      generalize rn l j = S at *
      generalize nt l j = o at *
      obtain ⟨W3, hW3⟩ : ∃ W3, wr.alloc (.cells (cO o) 31) = W3 := ⟨_, rfl⟩
      obtain ⟨B, hB⟩ : ∃ B, wr.heap.size = B := ⟨_, rfl⟩
      rw [hW3, hB] at hJ3
      have hO3 := jd_o4 hJ3
      replace hJ3 := Lib.hid hJ3
      replace hW3 := Lib.hid hW3
      replace hB := Lib.hid hB
      replace hko := Lib.hid hko
      clear hcell hO hok hln hJ
      go_upto_region 8 with (fail)
      rw [hW3.out, hB.out]
      clear o0 o1 o2 o3 hW3 hB
      obtain ⟨o0, o1, o2, o3⟩ := hO3
      go_upto_block 2 with (fail)
      go_cut [7, 8, 9, 10, 11, 12, 13, 14] from 36 to 118 (fun _ _ _ _ _ _ _ _ wx => Hid (J w (X2 (XS p S2) (X2 (XD q S2) (X2 (XB B o) XT))) wx))
      case first =>
        have hs1 : ∀ d, d ≠ 0 → St d (X2 (XB B o) XT) := fun d hd => st_X2 (st_XB hd) (st_XT d)
        replace hs1 := Lib.hid hs1
        have hsd1 : Hid (St 1 (X2 (XD q S) (X2 (XB B o) XT))) := Lib.hid (st_X2 (st_XD (by decide)) (hs1.out 1 (by decide)))
        rcases four_ways o.kind with e | e | e | ⟨e0, e1, e2⟩
        · have hk0 : (o.kind == 0) = true := by simpa using e
          have hse : Hid (S2 = prS S o.tx o.t o.ms) := Lib.hid (by rw [hWe.out]; exact st_0 e)
          have hc1 := Lib.hid (j_prepare hJ3.out hsd1.out hoj.out hlj.out hko.out)
          have hc2 := Lib.hid (fun V (hV : J w (X2 (XS p (prS S o.tx o.t o.ms)) (X2 (XD q S) (X2 (XB B o) XT))) V) => jd_prepare hV (hs1.out 2 (by decide)) hoj.out hlj.out hko.out)
          generalize prT S o.tx o.t o.ms = ra at *
          generalize prE S o.tx o.t o.ms = re at *
          clear e hJ3 hoj hlj hko hs1 hsd1
          go_wp2_with (fail)
          with_reducible refine hc1.out.mono ?_
          rintro e w4 ⟨rfl, hJ4⟩
          clear o0 o1 o2 o3 hc1
          obtain ⟨o0, o1, o2, o3⟩ := jd_o4 hJ4
          have hc3 := Lib.hid (hc2.out _ hJ4)
          clear hJ4 hc2
          go_wp2_with (fail)
          with_reducible refine hc3.out.mono ?_
          rintro e w5 ⟨rfl, hJ5⟩
          clear o0 o1 o2 o3 hc3
          replace hJ5 := Lib.hid hJ5
          go_wp2
          go_meet
          exact Lib.hid (by rw [hse.out]; exact hJ5.out)
        · have hk0 : (o.kind == 0) = false := by simp; omega
          have hk1 : (o.kind == 1) = true := by simpa using e
          have hse : Hid (S2 = coS S o.tx o.t o.ms) := Lib.hid (by rw [hWe.out]; exact st_1 e)
          have hJd := hJ3.out.below (st9d (st_X2 (st_XB (by decide)) (st_XT 9))) (below_drew W3)
          have s0 := Lib.hid (jd_o4 hJd)
          have hc1 := Lib.hid (j_commit hJd hsd1.out hoj.out hko.out)
          have hc2 := Lib.hid (fun V (hV : J w (X2 (XS p (coS S o.tx o.t o.ms)) (X2 (XD q S) (X2 (XB B o) XT))) V) => jd_commit hV (hs1.out 2 (by decide)) hoj.out hlj.out hko.out)
          generalize coE S o.tx o.t o.ms = re at *
          clear e hJ3 hoj hlj hko hs1 hsd1 hJd
          go_upto_region 17 with (fail)
          go_region_held3 (fun w' => O4 B 0 o w')
            (first | with_reducible exact s0.out | with_reducible exact s1.out | with_reducible exact s2.out | fail)
            (first
              | (go_at_call 11; ((with_reducible refine (hc3.out).mono ?_); rintro e w5 ⟨rfl, hJ5⟩; have s2 := Lib.hid (jd_o4 hJ5); replace hJ5 := Lib.hid hJ5))
              | (go_at_call 10; ((with_reducible refine (hc1.out).mono ?_); rintro e w4 ⟨rfl, hJ4⟩; have s1 := Lib.hid (jd_o4 hJ4); have hc3 := Lib.hid (hc2.out _ hJ4); clear hJ4))
              | fail)
          all_goals
            clear o0 o1 o2 o3 s0 s1 s2 hc1 hc2 hc3
            go_wp2
            go_meet
            exact Lib.hid (by rw [hse.out]; exact hJ5.out)
        · have hk0 : (o.kind == 0) = false := by simp; omega
          have hk1 : (o.kind == 1) = false := by simp; omega
          have hk2 : (o.kind == 2) = true := by simpa using e
          have hse : Hid (S2 = sbS S o.ms) := Lib.hid (by rw [hWe.out]; exact st_2 e)
          have hc1 := Lib.hid (j_stable hJ3.out hsd1.out hoj.out o.ms)
          have hc2 := Lib.hid (fun V (hV : J w (X2 (XS p (sbS S o.ms)) (X2 (XD q S) (X2 (XB B o) XT))) V) => jd_stable hV (hs1.out 2 (by decide)) hoj.out hlj.out o.ms)
          generalize sbT S o.ms = ra at *
          generalize sbE o.ms = re at *
          clear e hJ3 hoj hlj hko hs1 hsd1
          go_wp2_with (fail)
          with_reducible refine hc1.out.mono ?_
          rintro e w4 ⟨rfl, hJ4⟩
          clear o0 o1 o2 o3 hc1
          obtain ⟨o0, o1, o2, o3⟩ := jd_o4 hJ4
          have hc3 := Lib.hid (hc2.out _ hJ4)
          clear hJ4 hc2
          go_wp2_with (fail)
          with_reducible refine hc3.out.mono ?_
          rintro e w5 ⟨rfl, hJ5⟩
          clear o0 o1 o2 o3 hc3
          replace hJ5 := Lib.hid hJ5
          go_wp2
          go_meet
          exact Lib.hid (by rw [hse.out]; exact hJ5.out)
        · have hk0 : (o.kind == 0) = false := by simpa using e0
          have hk1 : (o.kind == 1) = false := by simpa using e1
          have hk2 : (o.kind == 2) = false := by simpa using e2
          have hse : Hid (S2 = seS S o.t) := Lib.hid (by rw [hWe.out]; exact st_3 e0 e1 e2)
          have hc1 := Lib.hid (j_see hJ3.out hsd1.out o.t)
          have hc2 := Lib.hid (fun V (hV : J w (X2 (XS p (seS S o.t)) (X2 (XD q S) (X2 (XB B o) XT))) V) => jd_see hV (hs1.out 2 (by decide)) o.t)
          clear e0 e1 e2 hJ3 hoj hlj hko hs1 hsd1
          go_wp2_with (fail)
          with_reducible refine hc1.out.mono ?_
          rintro e w4 ⟨rfl, hJ4⟩
          clear o0 o1 o2 o3 hc1
          obtain ⟨o0, o1, o2, o3⟩ := jd_o4 hJ4
          have hc3 := Lib.hid (hc2.out _ hJ4)
          clear hJ4 hc2
          go_wp2_with (fail)
          with_reducible refine hc3.out.mono ?_
          rintro e w5 ⟨rfl, hJ5⟩
          clear o0 o1 o2 o3 hc3
          replace hJ5 := Lib.hid hJ5
          go_wp2
          go_meet
          exact Lib.hid (by rw [hse.out]; exact hJ5.out)
      case rest =>
      have hJ5 := hcut.out
      obtain ⟨A2, cA2, q0, q1⟩ := jd_cells hJ5
      have hop := Lib.hid (fun m => jq_open hJ5 m)
      have hck := Lib.hid (fun m => jq_clock hJ5 m)
      have hJ6 := Lib.hid (fun m => (by rw [hSe.out]; exact (jd_drop hJ5).below (st9d (st_XT 9)) (bdrN m (Below.refl _ _)) : J w (X2 (XS p (rn l (j + 1))) (X2 (XD q (rn l (j + 1))) XT)) (wc.drewN m)))
      clear hJ5 hWe hoj hlj hcut hJ3 hko hSe o0 o1 o2 o3
      generalize S2.os.length = ol at *
      generalize S2.ck = oc at *
      go_upto_region 24 with (fail)
      go_quiet (first | (go_at_call 16; exact hop.out _) | (go_at_call 17; exact hck.out _))
      have hJ7 := Lib.hid (hJ6.out nq)
      clear hJ6 hop hck q0 q1
      generalize wc.drewN nq = W9 at *
      go_wp2
      go_roundw
      case rel => exact ⟨j + 1, by go_num, by omega, by omega, hJ7⟩
      case measure => simp [intOf]; omega
    · clear hcell
      have hcut : (n ≤ j) ∨ (j < n ∧ ¬ j < 120) := by omega
      have haw := Lib.hid (awake_any wr)
      have hbl := Lib.hid hJ.out.bel
      clear hJ hok hln hlt
      rcases hcut with h1 | ⟨h1, h2⟩
      · have hjI : ¬ (j : Int) < (n : Int) := by omega
        go_wp2_with (fail)
        with_reducible refine haw.out.mono ?_
        rintro e w2 ⟨rfl, hB2⟩
        have hfin := Lib.hid (trans0 hbl.out hB2)
        clear hB2 hbl haw
        go_wp2
        go_ret
        exact ⟨rfl, hfin.out⟩
      · have hjI : (j : Int) < (n : Int) := by omega
        have hj6 : ¬ (j : Int) < 120 := by omega
        go_wp2_with (fail)
        with_reducible refine haw.out.mono ?_
        rintro e w2 ⟨rfl, hB2⟩
        have hfin := Lib.hid (trans0 hbl.out hB2)
        clear hB2 hbl haw
        go_wp2
        go_ret
        exact ⟨rfl, hfin.out⟩
end Go.Proofs.Yteelndiiennhkaa.ptPl
