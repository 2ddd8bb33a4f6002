/- The walk of the statement HlcRises: in each round a clock's stamp rises; it returns true, whatever is read and whatever comes. -/
import Derived.Test.YtclmbgikikikjaaHlcB
namespace Go.Proofs.Ytclmbgikikikjaa.hlcC
open Go.ChangeShapes Go.WideShapes Go.ChangeAt Go.RowKit
open hlcA hlcB

set_option maxRecDepth 100000 in
set_option maxHeartbeats 4000000 in
theorem rises (a0 : Option Addr) (len0 cap0 : Nat) (z0 : List Int) (a1 : Option Addr) (len1 cap1 : Nat) (z1 : List Int) (w : World) (w0 : IsRow .i64 w a0 len0 cap0 z0) (w1 : IsRow .u64 w a1 len1 cap1 z1) :
    Calls Try.prog 5 #[.slice a0 len0 cap0, .slice a1 len1 cap1] w fun e w' => e = .returned (.bool true) ∧ w = w' := by
  have l0 := row_len w0
  have l1 := row_len w1
  go_enter Try.func5, Try.ntmps5
  go_wp2
  go_loop [5, 15] (fun t i => ∃ (T : Int) (j : Nat), 0 ≤ T ∧ T ≤ 18446744073709551615 ∧ j ≤ len0 ∧ t = .int .u64 T ∧ i = .int .i64 j) (fun _ i => len0 - (intOf i).toNat)
  case atStart => exact ⟨0, 0, by omega, by omega, Nat.zero_le _, rfl, rfl⟩
  case round =>
    obtain ⟨T, j, t0, t1, hj, rfl, rfl⟩ := hrel
    by_cases hlt : j < len0
    · obtain ⟨b0, o0, m, rfl, c0, wm⟩ := row_at w0 j hlt
      clear wm
      by_cases hl1 : j < len1
      · obtain ⟨b1, o1, q, rfl, c1, wq⟩ := row_at w1 j hl1
        obtain ⟨q0, q1⟩ := bounds_u64 wq
        clear wq w0 w1
        by_cases hq : T < q
        · rcases sd_cases q m with ⟨hr, e1, e2⟩ | ⟨hr, ⟨m0, m1⟩, hg, e1, e2⟩ | ⟨hr, ⟨m0, m1⟩, hg, he, e1, e2⟩ | ⟨hr, ⟨m0, m1⟩, hg, he, e1, e2⟩
          · have hm : m < 0 ∨ 281474976710655 < m := by have := (rd_not m).1 hr; omega
            rcases hm with hm | hm
            all_goals
              go_wp2_with (first | (go_at_call 13; refine (send_any _ _ _ t0 t1).mono ?_; rintro e w' ⟨rfl, rfl⟩) | (go_at_call 15; refine (recv_hi _ _ _ _ t0 t1 q0 q1 hq).mono ?_; rintro e w' ⟨rfl, rfl⟩) | (go_at_call 11; refine (split_in _ _ (by omega) (by omega)).mono ?_; rintro e w' ⟨rfl, rfl⟩))
              go_round
              case rel => exact ⟨T, j + 1, by omega, by omega, by omega, rfl, by go_num⟩
              case measure => simp [intOf]; omega
          · clear hr
            go_wp2_with (first | (go_at_call 13; refine (send_any _ _ _ t0 t1).mono ?_; rintro e w' ⟨rfl, rfl⟩) | (go_at_call 15; refine (recv_hi _ _ _ _ t0 t1 q0 q1 hq).mono ?_; rintro e w' ⟨rfl, rfl⟩) | (go_at_call 11; refine (split_in _ _ (by omega) (by omega)).mono ?_; rintro e w' ⟨rfl, rfl⟩))
            go_round
            case rel => exact ⟨m * 65536, j + 1, by omega, by omega, by omega, rfl, by go_num⟩
            case measure => simp [intOf]; omega
          · clear hr
            subst he
            go_wp2_with (first | (go_at_call 13; refine (send_any _ _ _ t0 t1).mono ?_; rintro e w' ⟨rfl, rfl⟩) | (go_at_call 15; refine (recv_hi _ _ _ _ t0 t1 q0 q1 hq).mono ?_; rintro e w' ⟨rfl, rfl⟩) | (go_at_call 11; refine (split_in _ _ (by omega) (by omega)).mono ?_; rintro e w' ⟨rfl, rfl⟩))
            go_round
            case rel => exact ⟨T, j + 1, by omega, by omega, by omega, rfl, by go_num⟩
            case measure => simp [intOf]; omega
          · clear hr
            replace he : q ≤ 18446744073709551614 := by omega
            go_wp2_with (first | (go_at_call 13; refine (send_any _ _ _ t0 t1).mono ?_; rintro e w' ⟨rfl, rfl⟩) | (go_at_call 15; refine (recv_hi _ _ _ _ t0 t1 q0 q1 hq).mono ?_; rintro e w' ⟨rfl, rfl⟩) | (go_at_call 11; refine (split_in _ _ (by omega) (by omega)).mono ?_; rintro e w' ⟨rfl, rfl⟩))
            go_round
            case rel => exact ⟨q + 1, j + 1, by omega, by omega, by omega, rfl, by go_num⟩
            case measure => simp [intOf]; omega
        · replace hq : q ≤ T := by omega
          rcases sd_cases T m with ⟨hr, e1, e2⟩ | ⟨hr, ⟨m0, m1⟩, hg, e1, e2⟩ | ⟨hr, ⟨m0, m1⟩, hg, he, e1, e2⟩ | ⟨hr, ⟨m0, m1⟩, hg, he, e1, e2⟩
          · have hm : m < 0 ∨ 281474976710655 < m := by have := (rd_not m).1 hr; omega
            rcases hm with hm | hm
            all_goals
              go_wp2_with (first | (go_at_call 13; refine (send_any _ _ _ t0 t1).mono ?_; rintro e w' ⟨rfl, rfl⟩) | (go_at_call 15; refine (recv_lo _ _ _ _ t0 t1 q0 q1 hq).mono ?_; rintro e w' ⟨rfl, rfl⟩) | (go_at_call 11; refine (split_in _ _ (by omega) (by omega)).mono ?_; rintro e w' ⟨rfl, rfl⟩))
              go_round
              case rel => exact ⟨T, j + 1, by omega, by omega, by omega, rfl, by go_num⟩
              case measure => simp [intOf]; omega
          · clear hr
            go_wp2_with (first | (go_at_call 13; refine (send_any _ _ _ t0 t1).mono ?_; rintro e w' ⟨rfl, rfl⟩) | (go_at_call 15; refine (recv_lo _ _ _ _ t0 t1 q0 q1 hq).mono ?_; rintro e w' ⟨rfl, rfl⟩) | (go_at_call 11; refine (split_in _ _ (by omega) (by omega)).mono ?_; rintro e w' ⟨rfl, rfl⟩))
            go_round
            case rel => exact ⟨m * 65536, j + 1, by omega, by omega, by omega, rfl, by go_num⟩
            case measure => simp [intOf]; omega
          · clear hr
            subst he
            go_wp2_with (first | (go_at_call 13; refine (send_any _ _ _ t0 t1).mono ?_; rintro e w' ⟨rfl, rfl⟩) | (go_at_call 15; refine (recv_lo _ _ _ _ t0 t1 q0 q1 hq).mono ?_; rintro e w' ⟨rfl, rfl⟩) | (go_at_call 11; refine (split_in _ _ (by omega) (by omega)).mono ?_; rintro e w' ⟨rfl, rfl⟩))
            go_round
            case rel => exact ⟨18446744073709551615, j + 1, by omega, by omega, by omega, rfl, by go_num⟩
            case measure => simp [intOf]; omega
          · clear hr
            replace he : T ≤ 18446744073709551614 := by omega
            go_wp2_with (first | (go_at_call 13; refine (send_any _ _ _ t0 t1).mono ?_; rintro e w' ⟨rfl, rfl⟩) | (go_at_call 15; refine (recv_lo _ _ _ _ t0 t1 q0 q1 hq).mono ?_; rintro e w' ⟨rfl, rfl⟩) | (go_at_call 11; refine (split_in _ _ (by omega) (by omega)).mono ?_; rintro e w' ⟨rfl, rfl⟩))
            go_round
            case rel => exact ⟨T + 1, j + 1, by omega, by omega, by omega, rfl, by go_num⟩
            case measure => simp [intOf]; omega
      · clear w0 w1
        rcases sd_cases T m with ⟨hr, e1, e2⟩ | ⟨hr, ⟨m0, m1⟩, hg, e1, e2⟩ | ⟨hr, ⟨m0, m1⟩, hg, he, e1, e2⟩ | ⟨hr, ⟨m0, m1⟩, hg, he, e1, e2⟩
        · have hm : m < 0 ∨ 281474976710655 < m := by have := (rd_not m).1 hr; omega
          rcases hm with hm | hm
          all_goals
            go_wp2_with (first | (go_at_call 13; refine (send_any _ _ _ t0 t1).mono ?_; rintro e w' ⟨rfl, rfl⟩) | (go_at_call 15; refine (recv_lo _ _ _ _ t0 t1 t0 t1 (Int.le_refl _)).mono ?_; rintro e w' ⟨rfl, rfl⟩) | (go_at_call 11; refine (split_in _ _ (by omega) (by omega)).mono ?_; rintro e w' ⟨rfl, rfl⟩))
            go_round
            case rel => exact ⟨T, j + 1, by omega, by omega, by omega, rfl, by go_num⟩
            case measure => simp [intOf]; omega
        · clear hr
          go_wp2_with (first | (go_at_call 13; refine (send_any _ _ _ t0 t1).mono ?_; rintro e w' ⟨rfl, rfl⟩) | (go_at_call 15; refine (recv_lo _ _ _ _ t0 t1 t0 t1 (Int.le_refl _)).mono ?_; rintro e w' ⟨rfl, rfl⟩) | (go_at_call 11; refine (split_in _ _ (by omega) (by omega)).mono ?_; rintro e w' ⟨rfl, rfl⟩))
          go_round
          case rel => exact ⟨m * 65536, j + 1, by omega, by omega, by omega, rfl, by go_num⟩
          case measure => simp [intOf]; omega
        · clear hr
          subst he
          go_wp2_with (first | (go_at_call 13; refine (send_any _ _ _ t0 t1).mono ?_; rintro e w' ⟨rfl, rfl⟩) | (go_at_call 15; refine (recv_lo _ _ _ _ t0 t1 t0 t1 (Int.le_refl _)).mono ?_; rintro e w' ⟨rfl, rfl⟩) | (go_at_call 11; refine (split_in _ _ (by omega) (by omega)).mono ?_; rintro e w' ⟨rfl, rfl⟩))
          go_round
          case rel => exact ⟨18446744073709551615, j + 1, by omega, by omega, by omega, rfl, by go_num⟩
          case measure => simp [intOf]; omega
        · clear hr
          replace he : T ≤ 18446744073709551614 := by omega
          go_wp2_with (first | (go_at_call 13; refine (send_any _ _ _ t0 t1).mono ?_; rintro e w' ⟨rfl, rfl⟩) | (go_at_call 15; refine (recv_lo _ _ _ _ t0 t1 t0 t1 (Int.le_refl _)).mono ?_; rintro e w' ⟨rfl, rfl⟩) | (go_at_call 11; refine (split_in _ _ (by omega) (by omega)).mono ?_; rintro e w' ⟨rfl, rfl⟩))
          go_round
          case rel => exact ⟨T + 1, j + 1, by omega, by omega, by omega, rfl, by go_num⟩
          case measure => simp [intOf]; omega
    · go_wp2_with ((go_at_call 12; refine (awake_any _).mono ?_; rintro e w' ⟨rfl, rfl⟩))
      go_ret
      exact ⟨rfl, rfl⟩
end Go.Proofs.Ytclmbgikikikjaa.hlcC
