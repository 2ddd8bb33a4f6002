/- The walk of the statement HlcBounds: a clock is ahead of what it was given by no more than there were steps; it returns true, whatever is read and whatever comes. -/
import Derived.Test.YtclmbgikikikjaaHlcB
namespace Go.Proofs.Ytclmbgikikikjaa.hlcD
open Go.ChangeShapes Go.WideShapes Go.ChangeAt Go.RowKit
open hlcA hlcB

set_option maxRecDepth 100000 in
set_option maxHeartbeats 8000000 in
theorem bounds (a0 : Option Addr) (len0 cap0 : Nat) (z0 : List Int) (a1 : Option Addr) (len1 cap1 : Nat) (z1 : List Int) (w : World) (w0 : IsRow .i64 w a0 len0 cap0 z0) (w1 : IsRow .u64 w a1 len1 cap1 z1) :
    Calls Try.prog 6 #[.slice a0 len0 cap0, .slice a1 len1 cap1] w fun e w' => e = .returned (.bool true) ∧ w = w' := by
  have l0 := row_len w0
  have l1 := row_len w1
  go_enter Try.func6, Try.ntmps6
  go_wp2
  go_loop [5, 6, 14] (fun t p i => ∃ (T P : Int) (j : Nat), 0 ≤ T ∧ T ≤ 18446744073709551615 ∧ 0 ≤ P ∧ P ≤ 18446744073709551615 ∧ T ≤ P + j ∧ j ≤ len0 ∧ t = .int .u64 T ∧ p = .int .u64 P ∧ i = .int .i64 j) (fun _ _ i => len0 - (intOf i).toNat)
  case atStart => exact ⟨0, 0, 0, by omega, by omega, by omega, by omega, by omega, Nat.zero_le _, rfl, rfl, rfl⟩
  case round =>
    obtain ⟨T, P, j, t0, t1, p0, p1, hd, hj, rfl, rfl, rfl⟩ := hrel
    by_cases hlt : j < len0
    · obtain ⟨b0, o0, m, rfl, c0, wm⟩ := row_at w0 j hlt
      clear wm
      by_cases hr : rdB m = true
      · obtain ⟨m0, m1⟩ := (rd_iff m).1 hr
        clear hr
        by_cases hl1 : j < len1
        · obtain ⟨b1, o1, q, rfl, c1, wq⟩ := row_at w1 j hl1
          obtain ⟨q0, q1⟩ := bounds_u64 wq
          clear wq w0 w1
          by_cases hq : T < q
          · by_cases hp : P < q
            · by_cases hs : q < m * 65536
              · rcases sd_cases q m with ⟨hr, e1, e2⟩ | ⟨hr, _, hg, e1, e2⟩ | ⟨hr, _, hg, he, e1, e2⟩ | ⟨hr, _, hg, he, e1, e2⟩
                · exact absurd ((rd_iff m).2 ⟨m0, m1⟩) (by simp [hr])
                · clear hr
                  go_wp2_with ((go_at_call 15; refine (recv_hi _ _ _ _ t0 t1 q0 q1 hq).mono ?_; rintro e w' ⟨rfl, rfl⟩))
                  all_goals
                    go_round
                    case rel => exact ⟨m * 65536, m * 65536, j + 1, by omega, by omega, by omega, by omega, by omega, by omega, rfl, rfl, by go_num⟩
                    case measure => simp [intOf]; omega
                · clear hr he
                  by_cases hc : m * 65536 < T
                  all_goals
                    go_wp2_with ((go_at_call 15; refine (recv_hi _ _ _ _ t0 t1 q0 q1 hq).mono ?_; rintro e w' ⟨rfl, rfl⟩))
                    all_goals
                      go_round
                      case rel => exact ⟨T, m * 65536, j + 1, by omega, by omega, by omega, by omega, by omega, by omega, rfl, rfl, by go_num⟩
                      case measure => simp [intOf]; omega
                · clear hr
                  replace he : q ≤ 18446744073709551614 := by omega
                  by_cases hc : m * 65536 < q + 1
                  all_goals
                    go_wp2_with ((go_at_call 15; refine (recv_hi _ _ _ _ t0 t1 q0 q1 hq).mono ?_; rintro e w' ⟨rfl, rfl⟩))
                    all_goals
                      go_round
                      case rel => exact ⟨q + 1, m * 65536, j + 1, by omega, by omega, by omega, by omega, by omega, by omega, rfl, rfl, by go_num⟩
                      case measure => simp [intOf]; omega
              · rcases sd_cases q m with ⟨hr, e1, e2⟩ | ⟨hr, _, hg, e1, e2⟩ | ⟨hr, _, hg, he, e1, e2⟩ | ⟨hr, _, hg, he, e1, e2⟩
                · exact absurd ((rd_iff m).2 ⟨m0, m1⟩) (by simp [hr])
                · clear hr
                  go_wp2_with ((go_at_call 15; refine (recv_hi _ _ _ _ t0 t1 q0 q1 hq).mono ?_; rintro e w' ⟨rfl, rfl⟩))
                  all_goals
                    go_round
                    case rel => exact ⟨m * 65536, q, j + 1, by omega, by omega, by omega, by omega, by omega, by omega, rfl, rfl, by go_num⟩
                    case measure => simp [intOf]; omega
                · clear hr he
                  by_cases hc : q < T
                  all_goals
                    go_wp2_with ((go_at_call 15; refine (recv_hi _ _ _ _ t0 t1 q0 q1 hq).mono ?_; rintro e w' ⟨rfl, rfl⟩))
                    all_goals
                      go_round
                      case rel => exact ⟨T, q, j + 1, by omega, by omega, by omega, by omega, by omega, by omega, rfl, rfl, by go_num⟩
                      case measure => simp [intOf]; omega
                · clear hr
                  replace he : q ≤ 18446744073709551614 := by omega
                  by_cases hc : q < q + 1
                  all_goals
                    go_wp2_with ((go_at_call 15; refine (recv_hi _ _ _ _ t0 t1 q0 q1 hq).mono ?_; rintro e w' ⟨rfl, rfl⟩))
                    all_goals
                      go_round
                      case rel => exact ⟨q + 1, q, j + 1, by omega, by omega, by omega, by omega, by omega, by omega, rfl, rfl, by go_num⟩
                      case measure => simp [intOf]; omega
            · by_cases hs : P < m * 65536
              · rcases sd_cases q m with ⟨hr, e1, e2⟩ | ⟨hr, _, hg, e1, e2⟩ | ⟨hr, _, hg, he, e1, e2⟩ | ⟨hr, _, hg, he, e1, e2⟩
                · exact absurd ((rd_iff m).2 ⟨m0, m1⟩) (by simp [hr])
                · clear hr
                  go_wp2_with ((go_at_call 15; refine (recv_hi _ _ _ _ t0 t1 q0 q1 hq).mono ?_; rintro e w' ⟨rfl, rfl⟩))
                  all_goals
                    go_round
                    case rel => exact ⟨m * 65536, m * 65536, j + 1, by omega, by omega, by omega, by omega, by omega, by omega, rfl, rfl, by go_num⟩
                    case measure => simp [intOf]; omega
                · clear hr he
                  by_cases hc : m * 65536 < T
                  all_goals
                    go_wp2_with ((go_at_call 15; refine (recv_hi _ _ _ _ t0 t1 q0 q1 hq).mono ?_; rintro e w' ⟨rfl, rfl⟩))
                    all_goals
                      go_round
                      case rel => exact ⟨T, m * 65536, j + 1, by omega, by omega, by omega, by omega, by omega, by omega, rfl, rfl, by go_num⟩
                      case measure => simp [intOf]; omega
                · clear hr
                  replace he : q ≤ 18446744073709551614 := by omega
                  by_cases hc : m * 65536 < q + 1
                  all_goals
                    go_wp2_with ((go_at_call 15; refine (recv_hi _ _ _ _ t0 t1 q0 q1 hq).mono ?_; rintro e w' ⟨rfl, rfl⟩))
                    all_goals
                      go_round
                      case rel => exact ⟨q + 1, m * 65536, j + 1, by omega, by omega, by omega, by omega, by omega, by omega, rfl, rfl, by go_num⟩
                      case measure => simp [intOf]; omega
              · rcases sd_cases q m with ⟨hr, e1, e2⟩ | ⟨hr, _, hg, e1, e2⟩ | ⟨hr, _, hg, he, e1, e2⟩ | ⟨hr, _, hg, he, e1, e2⟩
                · exact absurd ((rd_iff m).2 ⟨m0, m1⟩) (by simp [hr])
                · clear hr
                  go_wp2_with ((go_at_call 15; refine (recv_hi _ _ _ _ t0 t1 q0 q1 hq).mono ?_; rintro e w' ⟨rfl, rfl⟩))
                  all_goals
                    go_round
                    case rel => exact ⟨m * 65536, P, j + 1, by omega, by omega, by omega, by omega, by omega, by omega, rfl, rfl, by go_num⟩
                    case measure => simp [intOf]; omega
                · clear hr he
                  by_cases hc : P < T
                  all_goals
                    go_wp2_with ((go_at_call 15; refine (recv_hi _ _ _ _ t0 t1 q0 q1 hq).mono ?_; rintro e w' ⟨rfl, rfl⟩))
                    all_goals
                      go_round
                      case rel => exact ⟨T, P, j + 1, by omega, by omega, by omega, by omega, by omega, by omega, rfl, rfl, by go_num⟩
                      case measure => simp [intOf]; omega
                · clear hr
                  replace he : q ≤ 18446744073709551614 := by omega
                  by_cases hc : P < q + 1
                  all_goals
                    go_wp2_with ((go_at_call 15; refine (recv_hi _ _ _ _ t0 t1 q0 q1 hq).mono ?_; rintro e w' ⟨rfl, rfl⟩))
                    all_goals
                      go_round
                      case rel => exact ⟨q + 1, P, j + 1, by omega, by omega, by omega, by omega, by omega, by omega, rfl, rfl, by go_num⟩
                      case measure => simp [intOf]; omega
          · replace hq : q ≤ T := by omega
            by_cases hp : P < q
            · by_cases hs : q < m * 65536
              · rcases sd_cases T m with ⟨hr, e1, e2⟩ | ⟨hr, _, hg, e1, e2⟩ | ⟨hr, _, hg, he, e1, e2⟩ | ⟨hr, _, hg, he, e1, e2⟩
                · exact absurd ((rd_iff m).2 ⟨m0, m1⟩) (by simp [hr])
                · clear hr
                  go_wp2_with ((go_at_call 15; refine (recv_lo _ _ _ _ t0 t1 q0 q1 hq).mono ?_; rintro e w' ⟨rfl, rfl⟩))
                  all_goals
                    go_round
                    case rel => exact ⟨m * 65536, m * 65536, j + 1, by omega, by omega, by omega, by omega, by omega, by omega, rfl, rfl, by go_num⟩
                    case measure => simp [intOf]; omega
                · clear hr he
                  by_cases hc : m * 65536 < T
                  all_goals
                    go_wp2_with ((go_at_call 15; refine (recv_lo _ _ _ _ t0 t1 q0 q1 hq).mono ?_; rintro e w' ⟨rfl, rfl⟩))
                    all_goals
                      go_round
                      case rel => exact ⟨T, m * 65536, j + 1, by omega, by omega, by omega, by omega, by omega, by omega, rfl, rfl, by go_num⟩
                      case measure => simp [intOf]; omega
                · clear hr
                  replace he : T ≤ 18446744073709551614 := by omega
                  by_cases hc : m * 65536 < T + 1
                  all_goals
                    go_wp2_with ((go_at_call 15; refine (recv_lo _ _ _ _ t0 t1 q0 q1 hq).mono ?_; rintro e w' ⟨rfl, rfl⟩))
                    all_goals
                      go_round
                      case rel => exact ⟨T + 1, m * 65536, j + 1, by omega, by omega, by omega, by omega, by omega, by omega, rfl, rfl, by go_num⟩
                      case measure => simp [intOf]; omega
              · rcases sd_cases T m with ⟨hr, e1, e2⟩ | ⟨hr, _, hg, e1, e2⟩ | ⟨hr, _, hg, he, e1, e2⟩ | ⟨hr, _, hg, he, e1, e2⟩
                · exact absurd ((rd_iff m).2 ⟨m0, m1⟩) (by simp [hr])
                · clear hr
                  go_wp2_with ((go_at_call 15; refine (recv_lo _ _ _ _ t0 t1 q0 q1 hq).mono ?_; rintro e w' ⟨rfl, rfl⟩))
                  all_goals
                    go_round
                    case rel => exact ⟨m * 65536, q, j + 1, by omega, by omega, by omega, by omega, by omega, by omega, rfl, rfl, by go_num⟩
                    case measure => simp [intOf]; omega
                · clear hr he
                  by_cases hc : q < T
                  all_goals
                    go_wp2_with ((go_at_call 15; refine (recv_lo _ _ _ _ t0 t1 q0 q1 hq).mono ?_; rintro e w' ⟨rfl, rfl⟩))
                    all_goals
                      go_round
                      case rel => exact ⟨T, q, j + 1, by omega, by omega, by omega, by omega, by omega, by omega, rfl, rfl, by go_num⟩
                      case measure => simp [intOf]; omega
                · clear hr
                  replace he : T ≤ 18446744073709551614 := by omega
                  by_cases hc : q < T + 1
                  all_goals
                    go_wp2_with ((go_at_call 15; refine (recv_lo _ _ _ _ t0 t1 q0 q1 hq).mono ?_; rintro e w' ⟨rfl, rfl⟩))
                    all_goals
                      go_round
                      case rel => exact ⟨T + 1, q, j + 1, by omega, by omega, by omega, by omega, by omega, by omega, rfl, rfl, by go_num⟩
                      case measure => simp [intOf]; omega
            · by_cases hs : P < m * 65536
              · rcases sd_cases T m with ⟨hr, e1, e2⟩ | ⟨hr, _, hg, e1, e2⟩ | ⟨hr, _, hg, he, e1, e2⟩ | ⟨hr, _, hg, he, e1, e2⟩
                · exact absurd ((rd_iff m).2 ⟨m0, m1⟩) (by simp [hr])
                · clear hr
                  go_wp2_with ((go_at_call 15; refine (recv_lo _ _ _ _ t0 t1 q0 q1 hq).mono ?_; rintro e w' ⟨rfl, rfl⟩))
                  all_goals
                    go_round
                    case rel => exact ⟨m * 65536, m * 65536, j + 1, by omega, by omega, by omega, by omega, by omega, by omega, rfl, rfl, by go_num⟩
                    case measure => simp [intOf]; omega
                · clear hr he
                  by_cases hc : m * 65536 < T
                  all_goals
                    go_wp2_with ((go_at_call 15; refine (recv_lo _ _ _ _ t0 t1 q0 q1 hq).mono ?_; rintro e w' ⟨rfl, rfl⟩))
                    all_goals
                      go_round
                      case rel => exact ⟨T, m * 65536, j + 1, by omega, by omega, by omega, by omega, by omega, by omega, rfl, rfl, by go_num⟩
                      case measure => simp [intOf]; omega
                · clear hr
                  replace he : T ≤ 18446744073709551614 := by omega
                  by_cases hc : m * 65536 < T + 1
                  all_goals
                    go_wp2_with ((go_at_call 15; refine (recv_lo _ _ _ _ t0 t1 q0 q1 hq).mono ?_; rintro e w' ⟨rfl, rfl⟩))
                    all_goals
                      go_round
                      case rel => exact ⟨T + 1, m * 65536, j + 1, by omega, by omega, by omega, by omega, by omega, by omega, rfl, rfl, by go_num⟩
                      case measure => simp [intOf]; omega
              · rcases sd_cases T m with ⟨hr, e1, e2⟩ | ⟨hr, _, hg, e1, e2⟩ | ⟨hr, _, hg, he, e1, e2⟩ | ⟨hr, _, hg, he, e1, e2⟩
                · exact absurd ((rd_iff m).2 ⟨m0, m1⟩) (by simp [hr])
                · clear hr
                  go_wp2_with ((go_at_call 15; refine (recv_lo _ _ _ _ t0 t1 q0 q1 hq).mono ?_; rintro e w' ⟨rfl, rfl⟩))
                  all_goals
                    go_round
                    case rel => exact ⟨m * 65536, P, j + 1, by omega, by omega, by omega, by omega, by omega, by omega, rfl, rfl, by go_num⟩
                    case measure => simp [intOf]; omega
                · clear hr he
                  by_cases hc : P < T
                  all_goals
                    go_wp2_with ((go_at_call 15; refine (recv_lo _ _ _ _ t0 t1 q0 q1 hq).mono ?_; rintro e w' ⟨rfl, rfl⟩))
                    all_goals
                      go_round
                      case rel => exact ⟨T, P, j + 1, by omega, by omega, by omega, by omega, by omega, by omega, rfl, rfl, by go_num⟩
                      case measure => simp [intOf]; omega
                · clear hr
                  replace he : T ≤ 18446744073709551614 := by omega
                  by_cases hc : P < T + 1
                  all_goals
                    go_wp2_with ((go_at_call 15; refine (recv_lo _ _ _ _ t0 t1 q0 q1 hq).mono ?_; rintro e w' ⟨rfl, rfl⟩))
                    all_goals
                      go_round
                      case rel => exact ⟨T + 1, P, j + 1, by omega, by omega, by omega, by omega, by omega, by omega, rfl, rfl, by go_num⟩
                      case measure => simp [intOf]; omega
        · clear w0 w1
          by_cases hs : P < m * 65536
          · rcases sd_cases T m with ⟨hr, e1, e2⟩ | ⟨hr, _, hg, e1, e2⟩ | ⟨hr, _, hg, he, e1, e2⟩ | ⟨hr, _, hg, he, e1, e2⟩
            · exact absurd ((rd_iff m).2 ⟨m0, m1⟩) (by simp [hr])
            · clear hr
              go_wp2_with ((go_at_call 15; refine (recv_lo _ _ _ _ t0 t1 (by omega) (by omega) t0).mono ?_; rintro e w' ⟨rfl, rfl⟩))
              all_goals
                go_round
                case rel => exact ⟨m * 65536, m * 65536, j + 1, by omega, by omega, by omega, by omega, by omega, by omega, rfl, rfl, by go_num⟩
                case measure => simp [intOf]; omega
            · clear hr he
              by_cases hc : m * 65536 < T
              all_goals
                go_wp2_with ((go_at_call 15; refine (recv_lo _ _ _ _ t0 t1 (by omega) (by omega) t0).mono ?_; rintro e w' ⟨rfl, rfl⟩))
                all_goals
                  go_round
                  case rel => exact ⟨T, m * 65536, j + 1, by omega, by omega, by omega, by omega, by omega, by omega, rfl, rfl, by go_num⟩
                  case measure => simp [intOf]; omega
            · clear hr
              replace he : T ≤ 18446744073709551614 := by omega
              by_cases hc : m * 65536 < T + 1
              all_goals
                go_wp2_with ((go_at_call 15; refine (recv_lo _ _ _ _ t0 t1 (by omega) (by omega) t0).mono ?_; rintro e w' ⟨rfl, rfl⟩))
                all_goals
                  go_round
                  case rel => exact ⟨T + 1, m * 65536, j + 1, by omega, by omega, by omega, by omega, by omega, by omega, rfl, rfl, by go_num⟩
                  case measure => simp [intOf]; omega
          · rcases sd_cases T m with ⟨hr, e1, e2⟩ | ⟨hr, _, hg, e1, e2⟩ | ⟨hr, _, hg, he, e1, e2⟩ | ⟨hr, _, hg, he, e1, e2⟩
            · exact absurd ((rd_iff m).2 ⟨m0, m1⟩) (by simp [hr])
            · clear hr
              go_wp2_with ((go_at_call 15; refine (recv_lo _ _ _ _ t0 t1 (by omega) (by omega) t0).mono ?_; rintro e w' ⟨rfl, rfl⟩))
              all_goals
                go_round
                case rel => exact ⟨m * 65536, P, j + 1, by omega, by omega, by omega, by omega, by omega, by omega, rfl, rfl, by go_num⟩
                case measure => simp [intOf]; omega
            · clear hr he
              by_cases hc : P < T
              all_goals
                go_wp2_with ((go_at_call 15; refine (recv_lo _ _ _ _ t0 t1 (by omega) (by omega) t0).mono ?_; rintro e w' ⟨rfl, rfl⟩))
                all_goals
                  go_round
                  case rel => exact ⟨T, P, j + 1, by omega, by omega, by omega, by omega, by omega, by omega, rfl, rfl, by go_num⟩
                  case measure => simp [intOf]; omega
            · clear hr
              replace he : T ≤ 18446744073709551614 := by omega
              by_cases hc : P < T + 1
              all_goals
                go_wp2_with ((go_at_call 15; refine (recv_lo _ _ _ _ t0 t1 (by omega) (by omega) t0).mono ?_; rintro e w' ⟨rfl, rfl⟩))
                all_goals
                  go_round
                  case rel => exact ⟨T + 1, P, j + 1, by omega, by omega, by omega, by omega, by omega, by omega, rfl, rfl, by go_num⟩
                  case measure => simp [intOf]; omega
      · have hm : m < 0 ∨ 281474976710655 < m := by have := (rd_not m).1 (by simpa using hr); omega
        clear hr
        rcases hm with hm | hm
        all_goals
          go_wp2
          go_round
          case rel => exact ⟨T, P, j + 1, by omega, by omega, by omega, by omega, by omega, by omega, rfl, rfl, by go_num⟩
          case measure => simp [intOf]; omega
    · go_wp2_with ((go_at_call 12; refine (awake_any _).mono ?_; rintro e w' ⟨rfl, rfl⟩))
      go_ret
      exact ⟨rfl, rfl⟩
end Go.Proofs.Ytclmbgikikikjaa.hlcD
