/- SessionRises: what a session reads at, and what it commits behind, never falls. -/
import Derived.Test.YtnicomhodnfggaaSeJ
set_option linter.unusedVariables false
set_option linter.unusedSimpArgs false
set_option maxRecDepth 100000
namespace Go.Proofs.Ytnicomhodnfggaa.seRi
open Go.ChangeShapes Go.WideShapes Go.ChangeAt Go.RowKit Go.Deep
open opV opO chnM gen chnA chnR chnE seM seI ordC seL seN seB seK seV seW seG seC seA seS seJ

theorem quiet2 {P : Program} {f : FuncId} {args : Array Value} {w : World} {n : Nat} {v : Value} (h : Calls P f args (w.drewN n) fun e w' => e = .returned v ∧ w.drewN n = w') :
    Calls P f args (w.drewN n) fun e w'' => e = .returned v ∧ ∃ m, w'' = w.drewN m := h.mono fun _ _ ⟨he, hm⟩ => ⟨he, n, hm.symm⟩
theorem rs_at {A : Option Addr} {n : Nat} {l : List Oq} {w : World} (h : Rs w A n l) (j : Nat) (hj : j < n) : ∃ b off, A = some ⟨b, off, none⟩ ∧ b < w.heap.size ∧ QOp w b (off + j * 8) (nt l j) := by
  rcases h.2 with h0 | ⟨b, off, e, h3, h4⟩
  · omega
  · exact ⟨b, off, e, h3, h4 j hj⟩
theorem o8_step {b o B : Nat} {q : Oq} {w w1 : World} (h : O8 b o q w) (hB : Below B w w1) (hs : w.heap.size ≤ B) : O8 b o q w1 := o8_of h (hB.block b (by have := o8_lt h; omega))
set_option maxHeartbeats 2000000 in
theorem rises_any (A : Option Addr) (n c : Nat) (l : List Oq) (w : World) (h : Rs w A n l) (hc : n ≤ c) (hc9 : c ≤ 9223372036854775807) :
    Calls Try.prog 4 #[.slice A n c] w fun e w' => e = .returned (.bool true) ∧ Below w.heap.size w w' := by
  have hcell := Lib.hid (rs_at h)
  have hnew := Lib.hid (new_any w)
  have hJ0 := j_new w
  obtain ⟨W1, hW1⟩ : ∃ W1, newS w = W1 := ⟨_, rfl⟩
  obtain ⟨p, hp⟩ : ∃ p, w.heap.size + 1 = p := ⟨_, rfl⟩
  rw [hW1, hp] at hnew hJ0
  replace hJ0 := Lib.hid hJ0
  have hok := Lib.hid (rn_ok l)
  have hcn := Lib.hid (rn_cnt l)
  clear h hW1 hp
  go_enter Try.func4, Try.ntmps4
  go_wp2_with (fail)
  with_reducible refine hnew.out.mono ?_
  rintro e w1 ⟨rfl, rfl⟩
  clear hnew
  go_wp2
  go_loopw [4] (fun i wr => ∃ j : Nat, i = .int .i64 j ∧ j ≤ n ∧ j ≤ 120 ∧ Hid (J w (X2 (XS p (rn l j)) XT) wr)) (fun i _ => n - (intOf i).toNat)
  case atStart => exact ⟨0, rfl, by omega, by omega, hJ0⟩
  case round =>
    clear hJ0
    obtain ⟨j, rfl, hj, hj1, hJ⟩ := hrel
    by_cases hlt : j < n ∧ j < 120
    · obtain ⟨hlt, h120⟩ := hlt
      obtain ⟨pb, po, rfl, hpb, hO, hko⟩ := hcell.out j hlt
      have hjI : (j : Int) < (n : Int) := by omega
      have hj6 : (j : Int) < 120 := by omega
      have r1 := snap_st (S := rn l j) (o := nt l j)
      have r2 := low_st (S := rn l j) (o := nt l j)
      have r3 := snap_low (stS (rn l j) (nt l j))
      have r4 := Lib.hid (fun h1 h2 => co_st (S := rn l j) (o := nt l j) h1 h2)
      have hS2 : Hid (rn l (j + 1) = stS (rn l j) (nt l j)) := Lib.hid rfl
      have hoj := Lib.hid (hok.out j)
      have hcj : Hid ((rn l j).cnt ≤ 100000) := Lib.hid (by have := hcn.out j; omega)
      have hrun := Lib.hid (fun V (hV : J w (X2 (XS p (rn l j)) XT) V) => j_do hV (st_XT 1) (st_XT 9) hoj.out hcj.out (nt l j))
      rw [← hS2.out] at r1 r2 r3 r4 hrun
      obtain ⟨S2, hSe⟩ : ∃ S2, rn l (j + 1) = S2 := ⟨_, rfl⟩
      rw [hSe] at r1 r2 r3 r4 hrun
      replace hSe := Lib.hid hSe
      generalize rn l j = S at *
      generalize nt l j = o at *
      have hsn := Lib.hid (j_snap hJ.out)
      have hlo := Lib.hid (j_low hJ.out (st_XT 9))
      have hsn2 := Lib.hid (fun V (hV : J w (X2 (XS p S2) XT) V) => j_snap hV)
      have hlo2 := Lib.hid (fun V (hV : J w (X2 (XS p S2) XT) V) => j_low hV (st_XT 9))
      have hlo3 := Lib.hid (fun V (hV : J w (X2 (XS p S2) XT) V) n => j_lowq hV n)
      have hop3 := Lib.hid (fun V (hV : J w (X2 (XS p S2) XT) V) n => quiet2 (j_open (hV.below (st9 (st_XT 9)) (bdrN n (Below.refl _ _)))))
      have hend := Lib.hid (fun V (hV : J w (X2 (XS p S2) XT) V) n => (hV.below (st9 (st_XT 9)) (bdrN n (Below.refl _ _)) : J w (X2 (XS p S2) XT) (V.drewN n)))
      have ho8 := Lib.hid (fun V (X : Wh) (hV : J w X V) => o8_step hO hV.bel (Nat.le_refl _))
      generalize hEE : stE S o = ee at *
      generalize S.snap = sn at *
      generalize low S = lo at *
      generalize S2.snap = sn2 at *
      generalize low S2 = lo2 at *
      generalize S2.op = op2 at *
      have r1' : ¬ sn2 < sn := by omega
      have r2' : ¬ lo2 < lo := by omega
      have r3' : ¬ lo2 < sn2 := by omega
      clear hcell hO hoj hcj r1 r2 r3 hok hcn hS2
      go_wp2_with (fail)
      with_reducible refine hsn.out.mono ?_
      rintro e w1 ⟨rfl, rfl⟩
      go_wp2_with (fail)
      with_reducible refine hlo.out.mono ?_
      rintro e w2 ⟨rfl, hJ2⟩
      have hd2 := Lib.hid (hrun.out _ hJ2)
      obtain ⟨o0, o1, o2, o3, o4, o5, o6, o7⟩ := ho8.out _ _ hJ2
      clear hJ2 hrun hsn hlo hJ
      go_wp2_with (fail)
      with_reducible refine hd2.out.mono ?_
      rintro e w3 ⟨rfl, hJ3⟩
      have hs3 := Lib.hid (hsn2.out _ hJ3)
      have hl3 := Lib.hid (hlo2.out _ hJ3)
      clear hJ3 hd2 o0 o1 o2 o3 o4 o5 o6 o7
      go_wp2_with (fail)
      with_reducible refine hs3.out.mono ?_
      rintro e w4 ⟨rfl, rfl⟩
      go_wp2_with (fail)
      with_reducible refine hl3.out.mono ?_
      rintro e w4 ⟨rfl, hJ4⟩
      have hl4 := Lib.hid (hlo2.out _ hJ4)
      clear hs3 hl3 hJ4
      go_wp2_with (fail)
      with_reducible refine hl4.out.mono ?_
      rintro e w5 ⟨rfl, hJ5⟩
      have hs5 := Lib.hid (hsn2.out _ hJ5)
      have hl5 := Lib.hid (hlo3.out _ hJ5)
      have hp5 := Lib.hid (hop3.out _ hJ5)
      have he5 := Lib.hid (hend.out _ hJ5)
      obtain ⟨o0, o1, o2, o3, o4, o5, o6, o7⟩ := ho8.out _ _ hJ5
      clear hl4 hJ5 hsn2 hlo2 hlo3 hop3 hend ho8
      go_wp2_with (fail)
      with_reducible refine hs5.out.mono ?_
      rintro e w6 ⟨rfl, rfl⟩
      clear hs5
      by_cases hk : o.kind = 2
      · have hkb : (o.kind == 2) = true := by simpa using hk
        by_cases hz : ee = 0
        · obtain ⟨q1, q2, q3⟩ := r4.out hk hz
          have hzb : (ee == 0) = true := by simpa using hz
          have q1' : ¬ o.ts ≤ lo := by omega
          subst q3
          subst q2
          clear hk hz q1 r4
          go_upto_region 11 with (fail)
          go_quiet (first
            | (go_at_call 21; exact hl5.out _)
            | (go_at_call 19; exact hp5.out _))
          have hJ6 := Lib.hid (he5.out nq)
          clear hl5 hp5 he5 o0 o1 o2 o3 o4 o5 o6 o7
          generalize w5.drewN nq = W6 at *
          go_wp2
          go_roundw
          case rel => exact ⟨j + 1, by go_num, by omega, by omega, by rw [hSe.out]; exact hJ6⟩
          case measure => simp [intOf]; omega
        · have hzb : (ee == 0) = false := by simpa using hz
          clear hk hz r4
          go_upto_region 11 with (fail)
          go_quiet (fail)
          have hJ6 := Lib.hid (he5.out nq)
          clear hl5 hp5 he5 o0 o1 o2 o3 o4 o5 o6 o7
          generalize w5.drewN nq = W6 at *
          go_wp2
          go_roundw
          case rel => exact ⟨j + 1, by go_num, by omega, by omega, by rw [hSe.out]; exact hJ6⟩
          case measure => simp [intOf]; omega
      · have hkb : (o.kind == 2) = false := by simpa using hk
        clear hk r4
        go_upto_region 11 with (fail)
        go_quiet (fail)
        have hJ6 := Lib.hid (he5.out nq)
        clear hl5 hp5 he5 o0 o1 o2 o3 o4 o5 o6 o7
        generalize w5.drewN nq = W6 at *
        go_wp2
        go_roundw
        case rel => exact ⟨j + 1, by go_num, by omega, by omega, by rw [hSe.out]; exact hJ6⟩
        case measure => simp [intOf]; omega
    · clear hcell
      have hcut : (n ≤ j) ∨ (j < n ∧ ¬ j < 120) := by omega
      have haw := Lib.hid (awake_any wr)
      have hbl := Lib.hid hJ.out.bel
      clear hJ hok hcn hlt
      rcases hcut with h1 | ⟨h1, h2⟩
      · have hjI : ¬ (j : Int) < (n : Int) := by omega
        go_wp2_with (fail)
        with_reducible refine haw.out.mono ?_
        rintro e w2 ⟨rfl, hB2⟩
        have hfin := Lib.hid (trans0 hbl.out hB2)
        clear hB2 hbl haw
        go_wp2
        go_ret
        exact ⟨rfl, hfin.out⟩
      · have hjI : (j : Int) < (n : Int) := by omega
        have hj6 : ¬ (j : Int) < 120 := by omega
        go_wp2_with (fail)
        with_reducible refine haw.out.mono ?_
        rintro e w2 ⟨rfl, hB2⟩
        have hfin := Lib.hid (trans0 hbl.out hB2)
        clear hB2 hbl haw
        go_wp2
        go_ret
        exact ⟨rfl, hfin.out⟩
end Go.Proofs.Ytnicomhodnfggaa.seRi
