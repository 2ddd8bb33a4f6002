/- NetFull. -/
import Derived.Test.YtggoaglcffdcnaaNetK
namespace Go.Proofs.Ytggoaglcffdcnaa.netL
open Go.ChangeShapes Go.WideShapes Go.ChangeAt Go.RowKit Go.Deep
open numM rowA byt numA numB numC netA netB netC netD netE netG netS netT netK

set_option maxRecDepth 100000 in
theorem right_yes (f t : Int) (w : World) (h : IsWay f t) : Calls Try.prog 19 #[.int .i64 f, .int .i64 t] w fun e w' => e = .returned (.bool true) ∧ w = w' := by
  obtain ⟨h1, h2, h3, h4, h5⟩ := h
  have h6 : (f != t) = true := by rw [bne_iff_ne]; exact h5
  clear h5
  go_enter Try.func19, Try.ntmps19
  go_wp2
  go_ret
  exact ⟨rfl, rfl⟩
set_option maxRecDepth 100000 in
theorem right_no (f t : Int) (w : World) (h : ¬ IsWay f t) : Calls Try.prog 19 #[.int .i64 f, .int .i64 t] w fun e w' => e = .returned (.bool false) ∧ w = w' := by
  unfold IsWay at h
  by_cases h1 : 0 ≤ f
  · by_cases h2 : f ≤ 20
    · by_cases h3 : 0 ≤ t
      · by_cases h4 : t ≤ 20
        · obtain rfl : f = t := by omega
          have h6 : (f != f) = false := by simp
          clear h
          go_enter Try.func19, Try.ntmps19
          go_wp2
          go_ret
          exact ⟨rfl, rfl⟩
        · clear h
          go_enter Try.func19, Try.ntmps19
          go_wp2
          go_ret
          exact ⟨rfl, rfl⟩
      · clear h
        go_enter Try.func19, Try.ntmps19
        go_wp2
        go_ret
        exact ⟨rfl, rfl⟩
    · clear h
      go_enter Try.func19, Try.ntmps19
      go_wp2
      go_ret
      exact ⟨rfl, rfl⟩
  · clear h
    go_enter Try.func19, Try.ntmps19
    go_wp2
    go_ret
    exact ⟨rfl, rfl⟩

/-! ### NetFull -/
def stF (k0 k : Nat) : Ns := ⟨upd (fun _ => []) k0 ((List.range (min k 48)).map fun i => ([i], false)), k - 48⟩
theorem stF_0 (k0 : Nat) : stF k0 0 = nsZ := by
  unfold stF nsZ
  congr 1
  funext j
  unfold upd
  split <;> rfl
theorem stF_len (k0 k : Nat) : ((stF k0 k).row k0).length = min k 48 := by show List.length (upd (fun _ => []) k0 _ k0) = _; rw [upd_same]; simp
theorem stF_snd (k0 k : Nat) : sndE (stF k0 k) k0 = (if 48 ≤ k then 9 else 0) ∧ sndS (stF k0 k) k0 [k] = stF k0 (k + 1) := by
  unfold sndE sndS
  rw [stF_len]
  by_cases h : 48 ≤ k
  · rw [if_pos (by omega), if_pos h, if_pos (by omega)]
    refine ⟨rfl, ?_⟩
    unfold lostS stF
    rw [show min (k + 1) 48 = min k 48 by omega, show k + 1 - 48 = k - 48 + 1 by omega]
  · rw [if_neg (by omega), if_neg h, if_neg (by omega)]
    refine ⟨rfl, ?_⟩
    unfold addS stF
    rw [show min (k + 1) 48 = k + 1 by omega, show min k 48 = k by omega, show k + 1 - 48 = k - 48 by omega, List.range_succ, List.map_append]
    congr 1
    funext j
    unfold upd
    by_cases e : j = k0
    · subst e; simp
    · simp [e]
theorem full_bad (f t : Int) (w : World) (more : Int) (hw : ¬ IsWay f t) :
    Calls Try.prog 5 #[.int .i64 f, .int .i64 t, .int .i64 more] w fun e w' => e = .returned (.bool true) ∧ Below w.heap.size w w' := by
  go_enter Try.func5, Try.ntmps5
  go_wp2_with (fail)
  refine (new_any w).mono ?_
  rintro e w1 hN
  obtain rfl := hN.1
  have hM := Lib.hid (Mine.new hN)
  clear hN
  go_wp2_with (fail)
  refine (right_no f t w1 hw).mono ?_
  rintro e w2 ⟨rfl, rfl⟩
  go_wp2_with (fail)
  refine (awake_any w1).mono ?_
  rintro e w3 ⟨rfl, hB⟩
  have hM3 := Lib.hid (hM.out.below hB)
  have hbad := Lib.hid (mine_bad hM3.out hw)
  have hlo := mine_lost hM3.out
  change Calls _ _ _ _ (fun e w' => e = .returned (.int .i64 0) ∧ w3 = w') at hlo
  replace hlo := Lib.hid hlo
  clear hM hB
  go_wp2_with (first
    | (go_at_call 20; ((with_reducible refine (send_bad _ f t _ _ hbad.out).mono ?_); rintro e w' ⟨rfl, rfl⟩))
    | (go_at_call 12; ((with_reducible refine (len_bad _ f t _ hbad.out).mono ?_); rintro e w' ⟨rfl, rfl⟩))
    | (go_at_call 11; ((with_reducible refine (hlo.out).mono ?_); rintro e w' ⟨rfl, rfl⟩)))
  go_ret
  exact ⟨rfl, hM3.out.bel⟩
theorem twenty (more : Int) : ∃ M : Nat, M < 20 ∧ (IntKind.u64.wrap more).tmod 20 = (M : Int) := by
  have h0 : 0 ≤ IntKind.u64.wrap more := by rw [IntKind.wrap_u64]; exact Int.emod_nonneg _ (by decide)
  generalize IntKind.u64.wrap more = u at *
  exact ⟨(u % 20).toNat, by omega, by rw [Int.tmod_eq_emod_of_nonneg h0]; omega⟩
set_option maxRecDepth 100000 in
set_option maxHeartbeats 1000000 in
theorem full_good (f t : Int) (w : World) (more : Int) (hw : IsWay f t) :
    Calls Try.prog 5 #[.int .i64 f, .int .i64 t, .int .i64 more] w fun e w' => e = .returned (.bool true) ∧ Below w.heap.size w w' := by
  obtain ⟨M, hM20, hMe⟩ := twenty more
  have hm1 : (0 : Int) ≤ M := by omega
  have hm2 : (M : Int) < 20 := by omega
  go_enter Try.func5, Try.ntmps5
  go_wp2_with (fail)
  refine (new_any w).mono ?_
  rintro e w1 hN
  obtain rfl := hN.1
  have hM := Lib.hid (Mine.new hN)
  clear hN
  go_wp2_with (fail)
  refine (right_yes f t w1 hw).mono ?_
  rintro e w2 ⟨rfl, rfl⟩
  go_wp2_with (fail)
  clear hMe
  replace hw := Lib.hid hw
  go_loopw [43] (fun i wr => ∃ k : Nat, k ≤ 48 + M ∧ i = .int .i64 k ∧ Hid (Mine w w.heap.size (stF (wn f t) k) wr)) (fun i _ => 48 + M - (intOf i).toNat)
  case atStart => exact ⟨0, by omega, rfl, by rw [stF_0]; exact hM⟩
  case round =>
    obtain ⟨k, hk, rfl, hR⟩ := hrel
    clear hM
    by_cases hlt : k < 48 + M
    · obtain ⟨q1, q2⟩ := stF_snd (wn f t) k
      have hR2 := Lib.hid (hR.out.below (al0 wr (.cells #[.int .u8 (k : Int)] 5)))
      have hb2 := Lib.hid (one_byte wr k (by omega))
      have hsd := mine_send (some ⟨wr.heap.size, 0, none⟩) 1 [k] hR2.out hw.out hb2.out (by intro e; cases e) (by show 1 ≤ _; omega) (by show k - 48 < _; omega)
      rw [q1, q2] at hsd
      clear q1 q2 hR2 hb2 hR
      by_cases h48 : 48 ≤ k
      · rw [if_pos h48] at hsd
        change Calls _ _ _ _ (fun e w' => e = .returned (.int .i64 9) ∧ _) at hsd
        have hk48 : (48 : Int) ≤ (k : Int) := by omega
        replace hsd := Lib.hid hsd
        go_wp2_with (fail)
        refine hsd.out.mono ?_
        rintro e w5 ⟨rfl, hM5⟩
        replace hM5 := Lib.hid hM5
        clear hsd
        go_wp2
        go_roundw
        case rel => exact ⟨k + 1, by omega, by go_num, hM5⟩
        case measure => simp [intOf]; omega
      · rw [if_neg h48] at hsd
        change Calls _ _ _ _ (fun e w' => e = .returned (.int .i64 0) ∧ _) at hsd
        have hk48 : ¬ (48 : Int) ≤ (k : Int) := by omega
        replace hsd := Lib.hid hsd
        go_wp2_with (fail)
        refine hsd.out.mono ?_
        rintro e w5 ⟨rfl, hM5⟩
        replace hM5 := Lib.hid hM5
        clear hsd
        go_wp2
        go_roundw
        case rel => exact ⟨k + 1, by omega, by go_num, hM5⟩
        case measure => simp [intOf]; omega
    · obtain rfl : k = 48 + M := by omega
      clear hlt hk
      go_wp2_with (fail)
      refine (awake_any wr).mono ?_
      rintro e w3 ⟨rfl, hB⟩
      have hM3 := hR.out.below hB
      clear hB hR
      have hl48 : ((stF (wn f t) (48 + M)).row (wn f t)).length = 48 := by rw [stF_len]; omega
      have hlo := mine_lost hM3
      have hle := mine_len hM3 hw.out
      have htw := mine_twice 0 hM3 hw.out (by omega)
      rw [hl48] at hle
      have e1 : twE (stF (wn f t) (48 + M)) (wn f t) = 9 := by unfold twE; rw [hl48]; rfl
      have e2 : twS (stF (wn f t) (48 + M)) (wn f t) 0 = stF (wn f t) (48 + M) := by unfold twS; rw [hl48]; rfl
      have e3 : (stF (wn f t) (48 + M)).lost = M := by show 48 + M - 48 = M; omega
      rw [e1, e2] at htw
      rw [e3] at hlo
      change Calls _ _ _ _ (fun e w' => e = .returned (.int .i64 48) ∧ _) at hle
      change Calls _ _ #[_, _, _, .int .i64 0] _ (fun e w' => e = .returned (.int .i64 9) ∧ _) at htw
      have hba := Lib.hid (fun w5 (hM5 : Mine w w.heap.size (stF (wn f t) (48 + M)) w5) => mine_back 0 hM5 hw.out (by omega))
      replace hlo := Lib.hid hlo
      replace hle := Lib.hid hle
      replace htw := Lib.hid htw
      clear hM3 e1 e2 e3 hl48
      go_wp2_with (first
        | (go_at_call 12; ((with_reducible refine (hle.out).mono ?_); rintro e w' ⟨rfl, rfl⟩))
        | (go_at_call 11; ((with_reducible refine (hlo.out).mono ?_); rintro e w' ⟨rfl, rfl⟩))
        | (go_at_call 21; ((with_reducible refine (htw.out).mono ?_); rintro e w5 ⟨rfl, hM5⟩; have hb5 := hba.out _ hM5; have hb6 := Lib.hid hb5; clear hM5 hb5)))
      change Calls _ _ _ _ _
      refine hb6.out.mono ?_
      rintro e w6 ⟨rfl, hM6⟩
      replace hM6 := Lib.hid hM6
      clear hb6
      go_wp2
      go_ret
      exact ⟨rfl, hM6.out.bel⟩
theorem full_any (f t more : Int) (w : World) :
    Calls Try.prog 5 #[.int .i64 f, .int .i64 t, .int .i64 more] w fun e w' => e = .returned (.bool true) ∧ Below w.heap.size w w' := by
  by_cases hw : IsWay f t
  · exact full_good f t w more hw
  · exact full_bad f t w more hw
end Go.Proofs.Ytggoaglcffdcnaa.netL
