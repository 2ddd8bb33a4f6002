/- PartApart: two proposals are never the same, each is the clock that it leaves; the clock never falls. -/
import Derived.Test.YteelndiiennhkaaPtJ
set_option linter.unusedVariables false
set_option linter.unusedSimpArgs false
set_option maxRecDepth 100000
namespace Go.Proofs.Yteelndiiennhkaa.ptAp
open Go.ChangeShapes Go.WideShapes Go.ChangeAt Go.RowKit Go.Deep
open opG opO hlcA gen ptM ptL ptN ptG ptA ptJ

set_option maxHeartbeats 4000000 in
theorem apart_any (A : Option Addr) (n c : Nat) (l : List Oq) (w : World) (h : Rs w A n l) (hc : n ≤ c) (hc9 : c ≤ 9223372036854775807) :
    Calls Try.prog 5 #[.slice A n c] w fun e w' => e = .returned (.bool true) ∧ Below w.heap.size w w' := by
  have hcell := Lib.hid (rs_at h)
  have hnew := Lib.hid (new_any w)
  have hJ1 := j_new w
  obtain ⟨W1, hW1⟩ : ∃ W1, newS w = W1 := ⟨_, rfl⟩
  obtain ⟨p, hp⟩ : ∃ p, w.heap.size + 1 = p := ⟨_, rfl⟩
  rw [hW1, hp] at hnew hJ1
  replace hJ1 := Lib.hid hJ1
  have hok := Lib.hid (rn_ok (rs_t h))
  have hln := Lib.hid (rn_len l)
  clear h hW1 hp
  go_enter Try.func5, Try.ntmps5
  go_wp2_with (fail)
  with_reducible refine hnew.out.mono ?_
  rintro e w1 ⟨rfl, rfl⟩
  clear hnew
  go_wp2
  go_loopw [4, 5] (fun u i wr => ∃ (j : Nat) (la : Int), u = .int .u64 la ∧ i = .int .i64 j ∧ j ≤ n ∧ j ≤ 120 ∧ Hid (la ≤ (rn l j).ck) ∧ Hid (J w (X2 (XS p (rn l j)) XT) wr)) (fun _ i _ => n - (intOf i).toNat)
  case atStart => exact ⟨0, 0, rfl, rfl, by omega, by omega, Lib.hid (Int.le_refl _), hJ1⟩
  case round =>
    clear hJ1
    obtain ⟨j, la, rfl, rfl, hj, hj1, hla, hJ⟩ := hrel
    by_cases hlt : j < n ∧ j < 120
    · obtain ⟨hlt, h120⟩ := hlt
      obtain ⟨pb, po, rfl, hpb, hO, hko⟩ := hcell.out j hlt
      have hjI : (j : Int) < (n : Int) := by omega
      have hj6 : (j : Int) < 120 := by omega
      have hoj := Lib.hid (hok.out j (by omega))
      have hlj : Hid ((rn l j).os.length ≤ 1000) := Lib.hid (by have := hln.out j; omega)
      have hWe : Hid (rn l (j + 1) = stS (rn l j) (nt l j)) := Lib.hid rfl
      have hck : Hid ((rn l j).ck ≤ (rn l (j + 1)).ck) := Lib.hid (ck_st (rn l j) (nt l j))
      obtain ⟨o0, o1, o2, o3⟩ := o4_step hO hJ.out.bel (Nat.le_refl _)
      obtain ⟨S2, hSe⟩ : ∃ S2, rn l (j + 1) = S2 := ⟨_, rfl⟩
      rw [hSe] at hWe hck
      replace hSe := Lib.hid hSe
      have hJ3 := j_bx hJ.out (st9 (st_XT 9)) (nt l j)
      generalize rn l j = S at *
      generalize nt l j = o at *
      obtain ⟨W3, hW3⟩ : ∃ W3, wr.alloc (.cells (cO o) 31) = W3 := ⟨_, rfl⟩
      obtain ⟨B, hB⟩ : ∃ B, wr.heap.size = B := ⟨_, rfl⟩
      rw [hW3, hB] at hJ3
      have hO3 := j_o4 hJ3
      replace hW3 := Lib.hid hW3
      replace hB := Lib.hid hB
      replace hko := Lib.hid hko
      have hcl := Lib.hid (j_clock hJ3)
      have hY1 : Hid (St 1 (X2 (XB B o) XT)) := Lib.hid (st_X2 (st_XB (by decide)) (st_XT 1))
      replace hJ3 := Lib.hid hJ3
      clear hcell hO hok hln hJ
      go_upto_region 9 with (fail)
      rw [hW3.out, hB.out]
      clear o0 o1 o2 o3 hW3 hB
      obtain ⟨o0, o1, o2, o3⟩ := hO3
      go_wp2_with (fail)
      with_reducible refine hcl.out.mono ?_
      rintro e w3 ⟨rfl, rfl⟩
      clear hcl
      go_upto_block 2 with (fail)
      go_cut [4, 8, 9] from 31 to 75 (fun u _ _ wx => ∃ la2 : Int, u = .int .u64 la2 ∧ Hid (la2 ≤ S2.ck) ∧ Hid (J w (X2 (XS p S2) (X2 (XB B o) XT)) wx))
      case first =>
        rcases four_ways o.kind with e | e | e | ⟨e0, e1, e2⟩
        · have hk0 : (o.kind == 0) = true := by simpa using e
          have hse : Hid (S2 = prS S o.tx o.t o.ms) := Lib.hid (by rw [hWe.out]; exact st_0 e)
          have hc1 := Lib.hid (j_prepare hJ3.out hY1.out hoj.out hlj.out hko.out)
          clear e
          by_cases hE : prE S o.tx o.t o.ms = 0
          · have hup := pr_up hE
            have hS2 : S2.ck = prT S o.tx o.t o.ms := by rw [hse.out]; unfold prS; rw [if_pos hE]
            have hlt1 : la < prT S o.tx o.t o.ms := by have := hla.out; omega
            have hc2 := Lib.hid (fun V (hV : J w (X2 (XS p (prS S o.tx o.t o.ms)) (X2 (XB B o) XT)) V) => (by
              rw [← hse.out] at hV
              have := j_clock hV
              rw [hS2] at this
              exact this : Calls Try.prog 17 #[.pointer (some ⟨p, 0, none⟩)] V fun e w' => e = .returned (.int .u64 (prT S o.tx o.t o.ms)) ∧ V = w'))
            have hla2 : Hid (prT S o.tx o.t o.ms ≤ S2.ck) := Lib.hid (by omega)
            rw [hE] at hc1
            generalize prT S o.tx o.t o.ms = T at *
            clear hE hup hS2 hJ3 hoj hlj hko hla hck hY1
            have hnle : ¬ T ≤ la := by omega
            go_wp2_with (fail)
            with_reducible refine hc1.out.mono ?_
            rintro e w4 ⟨rfl, hJ4⟩
            have hc3 := Lib.hid (hc2.out _ hJ4)
            replace hJ4 := Lib.hid hJ4
            clear hc1 hc2
            go_wp2_with (fail)
            with_reducible refine hc3.out.mono ?_
            rintro e w5 ⟨rfl, rfl⟩
            clear hc3 o0 o1 o2 o3
            go_wp2
            go_meet
            exact ⟨_, rfl, hla2, Lib.hid (by rw [hse.out]; exact hJ4.out)⟩
          · have hla2 : Hid (la ≤ S2.ck) := Lib.hid (Int.le_trans hla.out hck.out)
            have hEb : (prE S o.tx o.t o.ms == 0) = false := by simpa using hE
            generalize prE S o.tx o.t o.ms = E at *
            generalize prT S o.tx o.t o.ms = T at *
            clear hE hJ3 hoj hlj hko hla hck hY1
            go_wp2_with (fail)
            with_reducible refine hc1.out.mono ?_
            rintro e w4 ⟨rfl, hJ4⟩
            replace hJ4 := Lib.hid hJ4
            clear hc1 o0 o1 o2 o3
            go_wp2
            go_meet
            exact ⟨_, rfl, hla2, Lib.hid (by rw [hse.out]; exact hJ4.out)⟩
        · have hk0 : (o.kind == 0) = false := by simp; omega
          have hk1 : (o.kind == 1) = true := by simpa using e
          have hse : Hid (S2 = coS S o.tx o.t o.ms) := Lib.hid (by rw [hWe.out]; exact st_1 e)
          have hc1 := Lib.hid (j_commit hJ3.out hY1.out hoj.out hko.out)
          have hla2 : Hid (la ≤ S2.ck) := Lib.hid (Int.le_trans hla.out hck.out)
          generalize coE S o.tx o.t o.ms = E at *
          clear e hJ3 hoj hlj hko hla hck hY1
          go_wp2_with (fail)
          with_reducible refine hc1.out.mono ?_
          rintro e w4 ⟨rfl, hJ4⟩
          replace hJ4 := Lib.hid hJ4
          clear hc1 o0 o1 o2 o3
          go_wp2
          go_meet
          exact ⟨_, rfl, hla2, Lib.hid (by rw [hse.out]; exact hJ4.out)⟩
        · have hk0 : (o.kind == 0) = false := by simp; omega
          have hk1 : (o.kind == 1) = false := by simp; omega
          have hk2 : (o.kind == 2) = true := by simpa using e
          have hse : Hid (S2 = sbS S o.ms) := Lib.hid (by rw [hWe.out]; exact st_2 e)
          have hc1 := Lib.hid (j_stable hJ3.out hY1.out hoj.out o.ms)
          have hla2 : Hid (la ≤ S2.ck) := Lib.hid (Int.le_trans hla.out hck.out)
          generalize sbE o.ms = E at *
          generalize sbT S o.ms = T at *
          clear e hJ3 hoj hlj hko hla hck hY1
          go_wp2_with (fail)
          with_reducible refine hc1.out.mono ?_
          rintro e w4 ⟨rfl, hJ4⟩
          replace hJ4 := Lib.hid hJ4
          clear hc1 o0 o1 o2 o3
          go_wp2
          go_meet
          exact ⟨_, rfl, hla2, Lib.hid (by rw [hse.out]; exact hJ4.out)⟩
        · have hk0 : (o.kind == 0) = false := by simpa using e0
          have hk1 : (o.kind == 1) = false := by simpa using e1
          have hk2 : (o.kind == 2) = false := by simpa using e2
          have hse : Hid (S2 = seS S o.t) := Lib.hid (by rw [hWe.out]; exact st_3 e0 e1 e2)
          have hc1 := Lib.hid (j_see hJ3.out hY1.out o.t)
          have hla2 : Hid (la ≤ S2.ck) := Lib.hid (Int.le_trans hla.out hck.out)
          clear e0 e1 e2 hJ3 hoj hlj hko hla hck hY1
          go_wp2_with (fail)
          with_reducible refine hc1.out.mono ?_
          rintro e w4 ⟨rfl, hJ4⟩
          replace hJ4 := Lib.hid hJ4
          clear hc1 o0 o1 o2 o3
          go_wp2
          go_meet
          exact ⟨_, rfl, hla2, Lib.hid (by rw [hse.out]; exact hJ4.out)⟩
      case rest =>
      obtain ⟨la2, rfl, hla2, hJ5⟩ := hcut
      have hc1 := Lib.hid (j_clock hJ5.out)
      have hnl : ¬ S2.ck < S.ck := by have := hck.out; omega
      have hJ6 := Lib.hid (j_unbx hJ5.out)
      clear hJ3 hoj hlj hko hla hck hY1 hWe hJ5 o0 o1 o2 o3
      obtain ⟨x1, hx1⟩ : ∃ x, S2.ck = x := ⟨_, rfl⟩
      obtain ⟨x0, hx0⟩ : ∃ x, S.ck = x := ⟨_, rfl⟩
      rw [hx1] at hc1
      rw [hx1, hx0] at hnl
      rw [hx0]
      replace hx0 := Lib.hid hx0
      replace hx1 := Lib.hid hx1
      go_wp2_with (fail)
      with_reducible refine hc1.out.mono ?_
      rintro e w6 ⟨rfl, rfl⟩
      go_wp2
      go_roundw
      case rel => exact ⟨j + 1, la2, rfl, by go_num, by omega, by omega, by rw [hSe.out]; exact hla2, by rw [hSe.out]; exact hJ6⟩
      case measure => simp [intOf]; omega
    · clear hcell
      have hcut : (n ≤ j) ∨ (j < n ∧ ¬ j < 120) := by omega
      have haw := Lib.hid (awake_any wr)
      have hbl := Lib.hid hJ.out.bel
      clear hJ hok hln hlt
      rcases hcut with h1 | ⟨h1, h2⟩
      · have hjI : ¬ (j : Int) < (n : Int) := by omega
        go_wp2_with (fail)
        with_reducible refine haw.out.mono ?_
        rintro e w2 ⟨rfl, hB2⟩
        have hfin := Lib.hid (trans0 hbl.out hB2)
        clear hB2 hbl haw
        go_wp2
        go_ret
        exact ⟨rfl, hfin.out⟩
      · have hjI : (j : Int) < (n : Int) := by omega
        have hj6 : ¬ (j : Int) < 120 := by omega
        go_wp2_with (fail)
        with_reducible refine haw.out.mono ?_
        rintro e w2 ⟨rfl, hB2⟩
        have hfin := Lib.hid (trans0 hbl.out hB2)
        clear hB2 hbl haw
        go_wp2
        go_ret
        exact ⟨rfl, hfin.out⟩
end Go.Proofs.Yteelndiiennhkaa.ptAp
