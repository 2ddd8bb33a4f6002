/- The contract of the document's own writer of version 1. -/
import Derived.Test.YtkbhmeajgmecoaaWirX
namespace Go.Proofs.Ytkbhmeajgmecoaa.wirY
open Go.ChangeShapes Go.WideShapes Go.ChangeAt Go.RowKit
open numM numN rowA byt numA numB numC numD numE wirM wirA wirB wirD wirE wirF wirG wirL wirH wirI wirJ wirX

theorem flat_take_le (l : List (List Nat)) (k : Nat) : (l.take k).flatten.length ≤ l.flatten.length := by
  have e : (l.take k ++ l.drop k).flatten.length = l.flatten.length := by rw [List.take_append_drop]
  rw [List.flatten_append, List.length_append] at e
  omega
theorem eL3_le (m : Ms) (k : Nat) : (eL3 m k).flatten.length ≤ (elder m).length := by
  rw [← eL_end]
  unfold eL3
  have h := flat_take_le ((nums m.cmd).map fun x => fx 1 x.toNat) k
  rw [← List.map_take] at h
  rw [show ((nums m.cmd).take 5) = nums m.cmd from rfl]
  simp only [List.flatten_append, List.length_append]
  omega
theorem eL2_le (m : Ms) (k : Nat) : (eL2 m k).flatten.length ≤ (elder m).length := by
  have h0 := eL3_le m 0
  rw [← eL3_0] at h0
  refine Nat.le_trans ?_ h0
  unfold eL2
  have h := flat_take_le (m.vec.map (fx 8)) k
  rw [← List.map_take] at h
  rw [List.take_length]
  simp only [List.flatten_append, List.length_append]
  omega
theorem eL1_le (m : Ms) (k : Nat) : (eL1 m k).flatten.length ≤ (elder m).length := by
  have h0 := eL2_le m 0
  rw [← eL2_0] at h0
  refine Nat.le_trans ?_ h0
  unfold eL1
  have h := flat_take_le (m.vers.map ev) k
  rw [← List.map_take] at h
  rw [List.take_length]
  simp only [List.flatten_append, List.length_append]
  omega
theorem fx1 {n : Nat} (h : n < 256) : fx 1 n = [n] := by
  have := Nat.mod_eq_of_lt h
  simp [fx, this]
def fL1 (m : Ms) (k : Nat) : List Nat := (eL1 m k).flatten
def fL2 (m : Ms) (k : Nat) : List Nat := (eL2 m k).flatten
def fL3 (m : Ms) (k : Nat) : List Nat := (eL3 m k).flatten
theorem fL12 (m : Ms) : fL1 m m.vers.length ++ [fx 1 m.vec.length].flatten = fL2 m 0 := by unfold fL1 fL2; rw [← eL2_0, List.flatten_append]
theorem fL2_s (m : Ms) {k : Nat} (h : k < m.vec.length) : fL2 m k ++ [fx 8 (nth m.vec k)].flatten = fL2 m (k + 1) := by unfold fL2; rw [← eL2_s m h, List.flatten_append]
theorem fL23 (m : Ms) : fL2 m m.vec.length = fL3 m 0 := by unfold fL2 fL3; rw [eL3_0]
theorem fL3_s (m : Ms) {k : Nat} (h : k < 5) : fL3 m k ++ [fx 1 (nat m.cmd k).toNat].flatten = fL3 m (k + 1) := by unfold fL3; rw [← eL3_s m h, List.flatten_append]
theorem fL_end (m : Ms) : fL3 m 5 ++ [tx1 m.cmd.key].flatten = elder m := by unfold fL3; rw [← eL_end, List.flatten_append]
theorem e0_head (m : Ms) (h0 : 0 ≤ m.kind) (h : m.kind < 256) : [m.kind.toNat] ++ [fx 8 m.id, fx 8 m.n, fx 8 m.ts, tx1 m.lo, tx1 m.hi, fx 2 m.vers.length].flatten = fL1 m 0 := by
  unfold fL1; rw [eL1_0]; unfold e0; rw [fx1 (by omega)]; simp
theorem ev_put (m : Ms) {k : Nat} (h : k < m.vers.length) : fL1 m k ++ (evs (vth m.vers k)).flatten = fL1 m (k + 1) := by
  unfold fL1; rw [← eL1_s m h]; simp [ev]

set_option maxRecDepth 100000 in
set_option maxHeartbeats 4000000 in
theorem relder_any (m : Ms) (t : At) (w : World) (h : HM w m t) (hok : m.ok) : Calls Try.prog 31 #[.agg (cm m t)] w (Makes w (elder m)) := by
  have hel := elder_le m hok
  have hl1 := Lib.hid (show ∀ k, (fL1 m k).length ≤ 1099511627776 from fun k => Nat.le_trans (eL1_le m k) hel)
  have hl2 := Lib.hid (show ∀ k, (fL2 m k).length ≤ 1099511627776 from fun k => Nat.le_trans (eL2_le m k) hel)
  have hl3 := Lib.hid (show ∀ k, (fL3 m k).length ≤ 1099511627776 from fun k => Nat.le_trans (eL3_le m k) hel)
  replace hel := Lib.hid hel
  obtain ⟨va, vc, na, nc⟩ := t
  have hvl : Hid (VL w va m.vers.length m.vers) := h.vers
  have hnl : Hid (NL w na m.vec.length m.vec) := h.vec
  obtain ⟨-, f1, f2, f3, -, -, fv, fn, fc⟩ := h.fits
  obtain ⟨o0, o1, o2, o3, o4, o5, o6, o7⟩ := hok
  have k0 : m.kind < 256 := by omega
  have k00 : 0 ≤ m.kind := by omega
  have k1 : m.lo.size ≤ 64 := by omega
  have k2 : m.hi.size ≤ 64 := by omega
  have k3 : m.vers.length < 65536 := by omega
  have k4 : m.vec.length < 256 := by omega
  have w1 := wrap64_nat m.vers.length (by omega)
  have w2 := wrap64_nat m.vec.length (by omega)
  have k5 : m.cmd.key.size ≤ 64 := by have := o7.key; omega
  replace o5 := Lib.hid o5
  replace o7 := Lib.hid o7
  replace fv := Lib.hid fv
  replace fn := Lib.hid fn
  replace fc := Lib.hid fc
  clear h o2 o3
  obtain ⟨kd, hkd⟩ : ∃ kd : Nat, m.kind = kd := ⟨m.kind.toNat, by omega⟩
  have hkd2 := e0_head m k00 k0
  have hkt : m.kind.toNat = kd := by omega
  rw [hkt] at hkd2
  replace hkd2 := Lib.hid hkd2
  have hk8 : kd < 256 := by omega
  have w0 : IntKind.u8.wrap (kd : Int) = kd := by rw [IntKind.wrap_u8]; omega
  have w00 : (kd : Int) % 256 = kd := by omega
  have hS := Lib.hid (SM.new w m ⟨va, vc, na, nc⟩)
  have hW := Lib.hid (alloc_below w (.cells (cm m ⟨va, vc, na, nc⟩) 28))
  have hbx := Lib.hid (Box.new w (cm m ⟨va, vc, na, nc⟩) 28)
  go_enter Try.func31, Try.ntmps31
  go_upto_region 1 with fail
  generalize w.alloc (.cells (cm m ⟨va, vc, na, nc⟩) 28) = W at *
  have ha : Acc W W.drew [] [] := Acc.start (Below.refl _ _).drew
  have ha2 : AccX W (W.alloc (.cells #[.int .u8 (kd : Int)] 5)).drew (.slice (some ⟨W.heap.size, 0, none⟩) 1 1) [kd] [] [] := (AccX.head hk8 (Acc.start (Below.refl _ W))).drew
  obtain ⟨q0, q1, q2, q3, q4, q5, q6, q7, q8, q9, q10, q11, q12, q13, q14⟩ := hS.out
  go_cut [3] (fun v wx => Hid (Row W wx v (fL1 m 0)))
  case first =>
    go_region_held3 (SM w.heap.size m ⟨va, vc, na, nc⟩)
      (first | exact hS.out.drew | assumption | exact SM.below (by assumption) (by assumption) | exact SM.alloc (by assumption) _ | exact SM.below hS.out (Row.bel (by assumption)) | (go_must (exact (0 : Nat))))
      (first
        | (go_at_call 56; ((with_reducible refine (accx_of (one_any _ _ (by assumption)) (by first | assumption | exact AccX.head hk8 (by assumption))).mono ?_); rintro e w' ⟨A, cap, rfl, hacc, hB⟩))
        | (go_at_call 55; ((with_reducible refine (accx_of (rwide8 _ _ (by assumption)) (by first | assumption | exact AccX.head hk8 (by assumption))).mono ?_); rintro e w' ⟨A, cap, rfl, hacc, hB⟩))
        | (go_at_call 55; ((with_reducible refine (accx_of (rwide2 _ _ (by assumption)) (by first | assumption | exact AccX.head hk8 (by assumption))).mono ?_); rintro e w' ⟨A, cap, rfl, hacc, hB⟩))
        | (go_at_call 56; ((with_reducible refine (acc_of (one_any _ _ (by assumption)) (by assumption)).mono ?_); rintro e w' ⟨A, cap, rfl, hacc, hB⟩))
        | (go_at_call 55; ((with_reducible refine (acc_of (rwide8 _ _ (by assumption)) (by assumption)).mono ?_); rintro e w' ⟨A, cap, rfl, hacc, hB⟩))
        | (go_at_call 55; ((with_reducible refine (acc_of (rwide2 _ _ (by assumption)) (by assumption)).mono ?_); rintro e w' ⟨A, cap, rfl, hacc, hB⟩))
        | (go_at_call 54; ((with_reducible refine (putx (W := W) (l' := fL1 m 0) (by assumption) _ _ _ (by with_unfolding_all rfl) (by with_unfolding_all rfl) (by simp) (by with_unfolding_all exact hkd2.out) (hl1.out 0)).mono ?_); rintro e w' ⟨A, cap, rfl, hrow⟩))
        | (go_at_call 54; ((with_reducible refine (putx_mid (W := W) (l' := fL1 m 0) hk8 (by assumption) _ _ _ (by with_unfolding_all rfl) (by with_unfolding_all rfl) (by simp) (by with_unfolding_all exact hkd2.out) (hl1.out 0)).mono ?_); rintro e w' ⟨A, cap, rfl, hrow⟩))
        | (go_at_call 54; ((with_reducible refine (putx_late (W := W) (l' := fL1 m 0) hk8 (by assumption) _ _ _ (by with_unfolding_all rfl) (by with_unfolding_all rfl) (by simp) (by with_unfolding_all exact hkd2.out) (hl1.out 0)).mono ?_); rintro e w' ⟨A, cap, rfl, hrow⟩))
        | (go_at_call 54; go_must (exact (0 : Nat))))
    all_goals
      go_wp2
      go_meet
      exact Lib.hid hrow
  case rest =>
    have c06 := (hbx.out.below hcut.out.bel).msg.2.2.2.2.2.2.1
    clear ha ha2 hS q0 q1 q2 q3 q4 q5 q6 q7 q8 q9 q10 q11 q12 q13 q14 hkd2 hkt w0 w00 f1 f2 f3
    go_wp2
    clear c06
    go_loopw [3, 4] (fun v i wr => ∃ k : Nat, k ≤ m.vers.length ∧ i = .int .i64 k ∧ Hid (Row W wr v (fL1 m k))) (fun _ i _ => m.vers.length - (intOf i).toNat)
    case atStart => exact ⟨0, by omega, rfl, hcut⟩
    case round =>
      rename_i vr _ _
      obtain ⟨k, hk, rfl, hrow⟩ := hrel
      clear hcut
      have c06 := (hbx.out.below hrow.out.bel).msg.2.2.2.2.2.2.1
      have hWr := Lib.hid (trans0 hW.out hrow.out.bel)
      by_cases hlt : k < m.vers.length
      · obtain ⟨b, off, rfl, hbl, hvc⟩ := (hvl.out.below hWr.out).at hlt
        have hvo := o5.out _ (vth_mem hlt)
        have hvf := (fv.out _ (vth_mem hlt)).2.2.1
        have hst := ev_put m hlt
        generalize vth m.vers k = v at *
        obtain ⟨key, val, g, ts, dc, tx⟩ := v
        obtain ⟨hkk, hvv, d0, d1, t0, t1⟩ := hvo
        obtain ⟨d, rfl⟩ := Int.eq_ofNat_of_zero_le d0
        obtain ⟨x, rfl⟩ := Int.eq_ofNat_of_zero_le t0
        simp only at hkk hvv d1 t1 hvf
        have g1 : key.size ≤ 64 := by omega
        have g4 : d < 256 := by omega
        have g5 : x < 4294967296 := by omega
        have e4 := wrap64_nat d (by omega)
        have e5 := wrap64_nat x (by omega)
        unfold evs at hst
        simp only [Int.toNat_natCast] at hst
        replace hst := Lib.hid hst
        clear d0 t0 hkk
        obtain ⟨c1, c2, c3, c4, c5, c6⟩ := hvc
        have hS2 := Lib.hid (SV.new wr ⟨key, val, g, ts, d, x⟩)
        have hne := Lib.hid (row_ne hrow.out)
        have ha := (AccX.start (hrow.out.alloc (.cells (cv ⟨key, val, g, ts, d, x⟩) 51))).drew
        go_wp2_with (fail)
        go_region_held3 (SV wr.heap.size ⟨key, val, g, ts, d, x⟩)
          (first | exact hS2.out.drew | assumption | exact SV.below (by assumption) (by assumption) | exact SV.alloc (by assumption) _ | exact SV.grown (by assumption) (by assumption) hne.out | (go_must (exact (0 : Nat))))
          (first
            | (go_at_call 56; ((with_reducible refine (accx_of (one_any _ _ (by assumption)) (by assumption)).mono ?_); rintro e w' ⟨A, cap, rfl, hacc, hB⟩))
            | (go_at_call 57; ((with_reducible refine (accx_of (rgone_any ⟨key, val, g, ts, d, x⟩ _) (by assumption)).mono ?_); rintro e w' ⟨A, cap, rfl, hacc, hB⟩))
            | (go_at_call 55; ((with_reducible refine (accx_of (rwide8 _ _ (by assumption)) (by assumption)).mono ?_); rintro e w' ⟨A, cap, rfl, hacc, hB⟩))
            | (go_at_call 55; ((with_reducible refine (accx_of (rwide1 _ _ (by assumption)) (by assumption)).mono ?_); rintro e w' ⟨A, cap, rfl, hacc, hB⟩))
            | (go_at_call 55; ((with_reducible refine (accx_of (rwide4 _ _ (by assumption)) (by assumption)).mono ?_); rintro e w' ⟨A, cap, rfl, hacc, hB⟩))
            | (go_at_call 54; ((with_reducible refine (putg (W := W) (l' := fL1 m (k + 1)) (by assumption) _ _ _ (by with_unfolding_all rfl) (by with_unfolding_all rfl) (by simp) (by with_unfolding_all exact hst.out) (hl1.out (k + 1))).mono ?_); rintro e w' ⟨A, cap, rfl, hrow2, -, hgrow, -⟩))
            | (go_at_call 54; go_must (exact (0 : Nat))))
        have hrow3 := Lib.hid (show Row W _ _ (fL1 m (k + 1)) by assumption)
        clear hS2 hne ha hst hrow c1 c2 c3 c4 c5 c6 c06
        go_wp2
        go_roundw
        case rel => exact ⟨k + 1, by omega, by go_num, hrow3⟩
        case measure => simp [intOf]; omega
      · obtain rfl : k = m.vers.length := by omega
        have c07 := (hbx.out.below hrow.out.bel).msg.2.2.2.2.2.2.2.1
        clear hvl o5 fv
        go_wp2_with (fail)
        refine (rwide1 m.vec.length _ k4).mono ?_
        rintro e w2 ⟨A, cap, rfl, ho, hB2⟩
        have ha := Lib.hid ((AccX.start hrow.out).step ho hB2)
        clear ho hB2 c06 c07 hrow
        go_wp2_with (fail)
        refine (putx (W := W) (l' := fL2 m 0) ha.out _ _ _ (by rfl) (by rfl) (by simp) (fL12 m) (hl2.out 0)).mono ?_
        rintro e w3 ⟨A3, c3, rfl, hrow3⟩
        replace hrow3 := Lib.hid hrow3
        clear ha hWr
        have c07 := (hbx.out.below hrow3.out.bel).msg.2.2.2.2.2.2.2.1
        go_wp2
        clear c07
        go_loopw [3, 6] (fun v i wr => ∃ k : Nat, k ≤ m.vec.length ∧ i = .int .i64 k ∧ Hid (Row W wr v (fL2 m k))) (fun _ i _ => m.vec.length - (intOf i).toNat)
        case atStart => exact ⟨0, by omega, rfl, hrow3⟩
        case round =>
          obtain ⟨k, hk, rfl, hrow⟩ := hrel
          clear hrow3
          have c07 := (hbx.out.below hrow.out.bel).msg.2.2.2.2.2.2.2.1
          have hWr := Lib.hid (trans0 hW.out hrow.out.bel)
          by_cases hlt : k < m.vec.length
          · obtain ⟨b, off, rfl, hbl, hvc⟩ := (hnl.out.below hWr.out).at hlt
            have hvf := fn.out _ (nth_mem hlt)
            have hst := Lib.hid (fL2_s m hlt)
            generalize nth m.vec k = v at *
            go_wp2_with (fail)
            refine (rwide8 v _ hvf).mono ?_
            rintro e w2 ⟨A, cap, rfl, ho, hB2⟩
            have ha := Lib.hid ((AccX.start hrow.out).step ho hB2)
            clear ho hB2 c07 hrow hvc
            go_wp2_with (fail)
            refine (putx (W := W) (l' := fL2 m (k + 1)) ha.out _ _ _ (by rfl) (by rfl) (by simp) hst.out (hl2.out _)).mono ?_
            rintro e w3 ⟨A3, c3, rfl, hrow3⟩
            replace hrow3 := Lib.hid hrow3
            clear ha hWr hst
            go_wp2
            go_roundw
            case rel => exact ⟨k + 1, by omega, by go_num, hrow3⟩
            case measure => simp [intOf]; omega
          · obtain rfl : k = m.vec.length := by omega
            rw [fL23] at hrow
            obtain ⟨-, -, -, -, -, -, -, -, d8, d9, d10, d11, d12, d13⟩ := (hbx.out.below hrow.out.bel).msg
            clear hnl fn
            go_wp2_with (fail)
            refine (rnums_any m.cmd _).mono ?_
            rintro e w2 ⟨bb, rfl, hb1, hb2, hcs, hB2⟩
            have hnb := Lib.hid (show NB bb m.cmd w2 _ from ⟨hb2, hcs, fun e => by have := (own_lt hrow.out.1 _ e).2; omega⟩)
            have hr2 := Lib.hid (hrow.out.below hB2)
            clear hrow hB2 d8 d9 d10 d11 d12 d13 hWr hb1 hb2 hcs c07
            go_wp2
            go_loopw [3, 8] (fun v i wr => ∃ k : Nat, k ≤ 5 ∧ i = .int .i64 k ∧ Hid (Row W wr v (fL3 m k)) ∧ Hid (NB bb m.cmd wr v)) (fun _ i _ => 5 - (intOf i).toNat)
            case atStart => exact ⟨0, by omega, rfl, hr2, hnb⟩
            case round =>
              obtain ⟨k, hk5, rfl, hrow, hnb2⟩ := hrel
              clear hr2 hnb
              by_cases hlt : k < 5
              · have hidx := hnb2.out.2.1 k hlt
                obtain ⟨x0, x1⟩ := nat_ok o7.out hlt
                have htk := Lib.hid (fL3_s m hlt)
                generalize nat m.cmd k = x at *
                have x2 : x < 256 := by omega
                have x3 := wrap64i x x0 (by omega)
                go_wp2_with (fail)
                refine (rwide1i x _ x0 x2).mono ?_
                rintro e w2 ⟨A, cap, rfl, ho, hB2⟩
                have ha := Lib.hid ((AccX.start hrow.out).step ho hB2)
                have hnb3 := Lib.hid (hnb2.out.below hB2)
                clear ho hB2 hrow hidx hnb2
                go_wp2_with (fail)
                refine (putg (W := W) (l' := fL3 m (k + 1)) ha.out _ _ _ (by rfl) (by rfl) (by simp) htk.out (hl3.out _)).mono ?_
                rintro e w3 ⟨A3, c3, rfl, hrow3, hg3, -, hat3⟩
                have hnb4 := Lib.hid (hnb3.out.put hg3 hat3)
                replace hrow3 := Lib.hid hrow3
                clear ha htk hnb3 hg3 hat3
                go_wp2
                go_roundw
                case rel => exact ⟨k + 1, by omega, by go_num, hrow3, hnb4⟩
                case measure => simp [intOf]; omega
              · obtain rfl : k = 5 := by omega
                have d13 := (hbx.out.below hrow.out.bel).msg.2.2.2.2.2.2.2.2.2.2.2.2.2
                have hen := Lib.hid (fL_end m)
                go_wp2_with (fail)
                refine (one_any m.cmd.key _ k5).mono ?_
                rintro e w2 ⟨A, cap, rfl, ho, hB2⟩
                have ha := Lib.hid ((AccX.start hrow.out).step ho hB2)
                clear ho hB2 hrow d13 hnb2
                go_wp2_with (fail)
                refine (putx (W := W) (l' := elder m) ha.out _ _ _ (by rfl) (by rfl) (by simp) hen.out hel.out).mono ?_
                rintro e w3 ⟨A3, c3, rfl, hrow3⟩
                go_wp2
                go_ret
                exact Makes.of rfl (Own.more (base' := w.heap.size) hrow3.1 hW.out.size) (trans0 hW.out hrow3.2)
end Go.Proofs.Ytkbhmeajgmecoaa.wirY
