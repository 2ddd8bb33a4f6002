/- PartStable: whatever a side has called stable, what is committed behind that is above it; and stable times never fall. -/
import Derived.Test.YteelndiiennhkaaPtJ
set_option linter.unusedVariables false
set_option linter.unusedSimpArgs false
set_option maxRecDepth 100000
namespace Go.Proofs.Yteelndiiennhkaa.ptSt
open Go.ChangeShapes Go.WideShapes Go.ChangeAt Go.RowKit Go.Deep
open opG opO hlcA gen ptM ptL ptN ptG ptA ptJ

set_option maxHeartbeats 4000000 in
theorem stable_any (A : Option Addr) (n c : Nat) (l : List Oq) (w : World) (h : Rs w A n l) (hc : n ≤ c) (hc9 : c ≤ 9223372036854775807) :
    Calls Try.prog 4 #[.slice A n c] w fun e w' => e = .returned (.bool true) ∧ Below w.heap.size w w' := by
  have hcell := Lib.hid (rs_at h)
  have hnew := Lib.hid (new_any w)
  have hJ1 := j_new w
  obtain ⟨W1, hW1⟩ : ∃ W1, newS w = W1 := ⟨_, rfl⟩
  obtain ⟨p, hp⟩ : ∃ p, w.heap.size + 1 = p := ⟨_, rfl⟩
  rw [hW1, hp] at hnew hJ1
  replace hJ1 := Lib.hid hJ1
  have hok := Lib.hid (rn_ok (rs_t h))
  have hln := Lib.hid (rn_len l)
  clear h hW1 hp
  go_enter Try.func4, Try.ntmps4
  go_wp2_with (fail)
  with_reducible refine hnew.out.mono ?_
  rintro e w1 ⟨rfl, rfl⟩
  clear hnew
  go_wp2
  go_loopw [4, 5] (fun u i wr => ∃ (j : Nat) (sv : Int), u = .int .u64 sv ∧ i = .int .i64 j ∧ j ≤ n ∧ j ≤ 120 ∧ Hid (Blw (rn l j) sv) ∧ Hid (J w (X2 (XS p (rn l j)) XT) wr)) (fun _ i _ => n - (intOf i).toNat)
  case atStart => exact ⟨0, 0, rfl, rfl, by omega, by omega, Lib.hid blw_0, hJ1⟩
  case round =>
    clear hJ1
    obtain ⟨j, sv, rfl, rfl, hj, hj1, hbw, hJ⟩ := hrel
    by_cases hlt : j < n ∧ j < 120
    · obtain ⟨hlt, h120⟩ := hlt
      obtain ⟨pb, po, rfl, hpb, hO, hko⟩ := hcell.out j hlt
      have hjI : (j : Int) < (n : Int) := by omega
      have hj6 : (j : Int) < 120 := by omega
      have hoj := Lib.hid (hok.out j (by omega))
      have hlj : Hid ((rn l j).os.length ≤ 1000) := Lib.hid (by have := hln.out j; omega)
      have hWe : Hid (rn l (j + 1) = stS (rn l j) (nt l j)) := Lib.hid rfl
      obtain ⟨o0, o1, o2, o3⟩ := o4_step hO hJ.out.bel (Nat.le_refl _)
      obtain ⟨S2, hSe⟩ : ∃ S2, rn l (j + 1) = S2 := ⟨_, rfl⟩
      rw [hSe] at hWe
      replace hSe := Lib.hid hSe
      have hJ3 := j_bx hJ.out (st9 (st_XT 9)) (nt l j)
      generalize rn l j = S at *
      generalize nt l j = o at *
      obtain ⟨W3, hW3⟩ : ∃ W3, wr.alloc (.cells (cO o) 31) = W3 := ⟨_, rfl⟩
      obtain ⟨B, hB⟩ : ∃ B, wr.heap.size = B := ⟨_, rfl⟩
      rw [hW3, hB] at hJ3
      have hO3 := j_o4 hJ3
      replace hW3 := Lib.hid hW3
      replace hB := Lib.hid hB
      replace hko := Lib.hid hko
      have hY1 : Hid (St 1 (X2 (XB B o) XT)) := Lib.hid (st_X2 (st_XB (by decide)) (st_XT 1))
      have hend := Lib.hid (fun S3 V (e : S2 = S3) (hV : J w (X2 (XS p S3) (X2 (XB B o) XT)) V) => (by rw [hSe.out, e]; exact j_unbx hV : J w (X2 (XS p (rn l (j + 1))) XT) V))
      have hbe := Lib.hid (fun S3 s (e : S2 = S3) (hV : Blw S3 s) => (by rw [hSe.out, e]; exact hV : Blw (rn l (j + 1)) s))
      replace hJ3 := Lib.hid hJ3
      clear hcell hO hok hln hJ
      go_upto_region 9 with (fail)
      rw [hW3.out, hB.out]
      clear o0 o1 o2 o3 hW3 hB hSe
      obtain ⟨o0, o1, o2, o3⟩ := hO3
      rcases four_ways o.kind with e | e | e | ⟨e0, e1, e2⟩
      · have hk0 : (o.kind == 0) = true := by simpa using e
        have hse : S2 = prS S o.tx o.t o.ms := by rw [hWe.out]; exact st_0 e
        have hc1 := Lib.hid (j_prepare hJ3.out hY1.out hoj.out hlj.out hko.out)
        obtain ⟨hb1, hb0⟩ := Blw.pr (tx := o.tx) (t := o.t) (ms := o.ms) hbw.out
        have hb2 := Lib.hid (hbe.out _ _ hse hb1)
        have hJx := Lib.hid (fun V hV => hend.out _ V hse hV)
        have hbx := Lib.hid (fun V (hV : J w (X2 (XS p (prS S o.tx o.t o.ms)) (X2 (XB B o) XT)) V) => j_o4 hV)
        clear e hb1 hse hWe
        by_cases hE : prE S o.tx o.t o.ms = 0
        · obtain ⟨q1, q2⟩ := hb0 hE
          rw [hE] at hc1
          generalize prT S o.tx o.t o.ms = T at *
          have hn1 : ¬ T ≤ sv := by omega
          have hn2 : ¬ T ≤ o.t := by omega
          clear hE hJ3 hoj hlj hko hbw hY1 hb0 hend hbe q1 q2
          go_wp2_with (fail)
          with_reducible refine hc1.out.mono ?_
          rintro e w4 ⟨rfl, hJ4⟩
          clear o0 o1 o2 o3 hc1
          have hJ5 := Lib.hid (hJx.out _ hJ4)
          obtain ⟨o0, o1, o2, o3⟩ := hbx.out _ hJ4
          clear hJ4 hJx hbx
          go_wp2
          go_roundw
          case rel => exact ⟨j + 1, _, rfl, by go_num, by omega, by omega, hb2, hJ5⟩
          case measure => simp [intOf]; omega
        · have hEb : (prE S o.tx o.t o.ms == 0) = false := by simpa using hE
          generalize prE S o.tx o.t o.ms = E at *
          generalize prT S o.tx o.t o.ms = T at *
          clear hE hJ3 hoj hlj hko hbw hY1 hb0 hend hbe hbx
          go_wp2_with (fail)
          with_reducible refine hc1.out.mono ?_
          rintro e w4 ⟨rfl, hJ4⟩
          clear o0 o1 o2 o3 hc1
          have hJ5 := Lib.hid (hJx.out _ hJ4)
          clear hJ4 hJx
          go_wp2
          go_roundw
          case rel => exact ⟨j + 1, _, rfl, by go_num, by omega, by omega, hb2, hJ5⟩
          case measure => simp [intOf]; omega
      · have hk0 : (o.kind == 0) = false := by simp; omega
        have hk1 : (o.kind == 1) = true := by simpa using e
        have hse : S2 = coS S o.tx o.t o.ms := by rw [hWe.out]; exact st_1 e
        have hc1 := Lib.hid (j_commit hJ3.out hY1.out hoj.out hko.out)
        obtain ⟨hb1, hb0⟩ := Blw.co (tx := o.tx) (t := o.t) (ms := o.ms) hbw.out
        have hb2 := Lib.hid (hbe.out _ _ hse hb1)
        have hJx := Lib.hid (fun V hV => hend.out _ V hse hV)
        have hbx := Lib.hid (fun V (hV : J w (X2 (XS p (coS S o.tx o.t o.ms)) (X2 (XB B o) XT)) V) => j_o4 hV)
        clear e hb1 hse hWe
        by_cases hE : coE S o.tx o.t o.ms = 0
        · have q1 := hb0 hE
          rw [hE] at hc1
          have hn1 : ¬ o.t ≤ sv := by omega
          clear hE hJ3 hoj hlj hko hbw hY1 hb0 hend hbe q1
          go_wp2_with (fail)
          with_reducible refine hc1.out.mono ?_
          rintro e w4 ⟨rfl, hJ4⟩
          clear o0 o1 o2 o3 hc1
          have hJ5 := Lib.hid (hJx.out _ hJ4)
          obtain ⟨o0, o1, o2, o3⟩ := hbx.out _ hJ4
          clear hJ4 hJx hbx
          go_wp2
          go_roundw
          case rel => exact ⟨j + 1, _, rfl, by go_num, by omega, by omega, hb2, hJ5⟩
          case measure => simp [intOf]; omega
        · have hEb : (coE S o.tx o.t o.ms == 0) = false := by simpa using hE
          generalize coE S o.tx o.t o.ms = E at *
          clear hE hJ3 hoj hlj hko hbw hY1 hb0 hend hbe hbx
          go_wp2_with (fail)
          with_reducible refine hc1.out.mono ?_
          rintro e w4 ⟨rfl, hJ4⟩
          clear o0 o1 o2 o3 hc1
          have hJ5 := Lib.hid (hJx.out _ hJ4)
          clear hJ4 hJx
          go_wp2
          go_roundw
          case rel => exact ⟨j + 1, _, rfl, by go_num, by omega, by omega, hb2, hJ5⟩
          case measure => simp [intOf]; omega
      · have hk0 : (o.kind == 0) = false := by simp; omega
        have hk1 : (o.kind == 1) = false := by simp; omega
        have hk2 : (o.kind == 2) = true := by simpa using e
        have hse : S2 = sbS S o.ms := by rw [hWe.out]; exact st_2 e
        have hc1 := Lib.hid (j_stable hJ3.out hY1.out hoj.out o.ms)
        have hJx := Lib.hid (fun V hV => hend.out _ V hse hV)
        cases hr : rdB o.ms with
        | true =>
          obtain ⟨hb1, hb0⟩ := Blw.sb (ms := o.ms) hbw.out hr
          have hb2 := Lib.hid (hbe.out _ _ hse hb1)
          have hE : sbE o.ms = 0 := by unfold sbE rsE; rw [if_pos hr]
          rw [hE] at hc1
          generalize sbT S o.ms = T at *
          have hn1 : ¬ T < sv := by omega
          clear e hE hr hse hWe hb1 hb0 hJ3 hoj hlj hko hbw hY1 hend hbe
          go_wp2_with (fail)
          with_reducible refine hc1.out.mono ?_
          rintro e w4 ⟨rfl, hJ4⟩
          clear o0 o1 o2 o3 hc1
          have hJ5 := Lib.hid (hJx.out _ hJ4)
          clear hJ4 hJx
          go_wp2
          go_roundw
          case rel => exact ⟨j + 1, _, rfl, by go_num, by omega, by omega, hb2, hJ5⟩
          case measure => simp [intOf]; omega
        | false =>
          have hb2 := Lib.hid (hbe.out _ _ hse (Blw.sb0 (ms := o.ms) hbw.out hr))
          have hE : sbE o.ms = 1 := by unfold sbE rsE; rw [if_neg (by rw [hr]; simp)]
          rw [hE] at hc1
          generalize sbT S o.ms = T at *
          clear e hE hr hse hWe hJ3 hoj hlj hko hbw hY1 hend hbe
          go_wp2_with (fail)
          with_reducible refine hc1.out.mono ?_
          rintro e w4 ⟨rfl, hJ4⟩
          clear o0 o1 o2 o3 hc1
          have hJ5 := Lib.hid (hJx.out _ hJ4)
          clear hJ4 hJx
          go_wp2
          go_roundw
          case rel => exact ⟨j + 1, _, rfl, by go_num, by omega, by omega, hb2, hJ5⟩
          case measure => simp [intOf]; omega
      · have hk0 : (o.kind == 0) = false := by simpa using e0
        have hk1 : (o.kind == 1) = false := by simpa using e1
        have hk2 : (o.kind == 2) = false := by simpa using e2
        have hse : S2 = seS S o.t := by rw [hWe.out]; exact st_3 e0 e1 e2
        have hc1 := Lib.hid (j_see hJ3.out hY1.out o.t)
        have hJx := Lib.hid (fun V hV => hend.out _ V hse hV)
        have hb2 := Lib.hid (hbe.out _ _ hse (Blw.se (t := o.t) hbw.out))
        clear e0 e1 e2 hse hWe hJ3 hoj hlj hko hbw hY1 hend hbe
        go_wp2_with (fail)
        with_reducible refine hc1.out.mono ?_
        rintro e w4 ⟨rfl, hJ4⟩
        clear o0 o1 o2 o3 hc1
        have hJ5 := Lib.hid (hJx.out _ hJ4)
        clear hJ4 hJx
        go_wp2
        go_roundw
        case rel => exact ⟨j + 1, _, rfl, by go_num, by omega, by omega, hb2, hJ5⟩
        case measure => simp [intOf]; omega
    · clear hcell
      have hcut : (n ≤ j) ∨ (j < n ∧ ¬ j < 120) := by omega
      have haw := Lib.hid (awake_any wr)
      have hbl := Lib.hid hJ.out.bel
      clear hJ hok hln hlt
      rcases hcut with h1 | ⟨h1, h2⟩
      · have hjI : ¬ (j : Int) < (n : Int) := by omega
        go_wp2_with (fail)
        with_reducible refine haw.out.mono ?_
        rintro e w2 ⟨rfl, hB2⟩
        have hfin := Lib.hid (trans0 hbl.out hB2)
        clear hB2 hbl haw
        go_wp2
        go_ret
        exact ⟨rfl, hfin.out⟩
      · have hjI : (j : Int) < (n : Int) := by omega
        have hj6 : ¬ (j : Int) < 120 := by omega
        go_wp2_with (fail)
        with_reducible refine haw.out.mono ?_
        rintro e w2 ⟨rfl, hB2⟩
        have hfin := Lib.hid (trans0 hbl.out hB2)
        clear hB2 hbl haw
        go_wp2
        go_ret
        exact ⟨rfl, hfin.out⟩
end Go.Proofs.Yteelndiiennhkaa.ptSt
