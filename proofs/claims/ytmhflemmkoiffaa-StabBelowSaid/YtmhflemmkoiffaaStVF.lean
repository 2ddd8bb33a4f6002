/- The contract of Least. -/
import Derived.Test.YtmhflemmkoiffaaStVD
set_option linter.unusedVariables false
set_option linter.unusedSimpArgs false
namespace Go.Proofs.Ytmhflemmkoiffaa.stVF
open Go.ChangeShapes Go.WideShapes Go.ChangeAt Go.RowKit Go.Deep
open stVA stVB stVC stVD

/-- the least time of the first j, and whether there is one -/
def lsS (v : V) : Nat → Int × Bool
  | 0 => (0, false)
  | j + 1 => if hb v j = true ∧ ((lsS v j).2 = false ∨ tt v j < (lsS v j).1) then (tt v j, true) else lsS v j
theorem ls_up {v : V} {j : Nat} (h : hb v j = true) (h2 : (lsS v j).2 = false ∨ tt v j < (lsS v j).1) : lsS v (j + 1) = (tt v j, true) := by
  show (if _ then _ else _) = _
  rw [if_pos ⟨h, h2⟩]
theorem ls_same {v : V} {j : Nat} (h : ¬ (hb v j = true ∧ ((lsS v j).2 = false ∨ tt v j < (lsS v j).1))) : lsS v (j + 1) = lsS v j := by
  show (if _ then _ else _) = _
  rw [if_neg h]
set_option maxRecDepth 100000 in
theorem least_any (v : V) (w : World) : Calls Try.prog 25 #[vV v] w fun r w' => r = .returned (.tuple #[.int .u64 (lsS v 4).1, .bool (lsS v 4).2]) ∧ Below w.heap.size w w' := by
  have hi := Lib.hid (fun (j : Nat) (h : j < 4) (wx : World) => ix v h wx)
  have hR := Lib.hid (R9.new w v 42)
  have hB := Lib.hid (al0 w (.cells (aV v) 42))
  obtain ⟨S, hS⟩ : ∃ S, lsS v 4 = S := ⟨_, rfl⟩
  rw [hS]
  replace hS := Lib.hid hS
  go_enter Try.func25, Try.ntmps25
  go_wp2
  generalize w.alloc (.cells #[.int .i64 v.e, .bool v.h0, .bool v.h1, .bool v.h2, .bool v.h3, .int .u64 v.t0, .int .u64 v.t1, .int .u64 v.t2, .int .u64 v.t3] 42) = wr at *
  go_loop [4, 5, 10] (fun x y i => ∃ j : Nat, j ≤ 4 ∧ x = .int .u64 (lsS v j).1 ∧ y = .bool (lsS v j).2 ∧ i = .int .i64 j) (fun _ _ i => 4 - (intOf i).toNat)
  case atStart => exact ⟨0, by omega, rfl, rfl, rfl⟩
  case round =>
    obtain ⟨j, hj, rfl, rfl, rfl⟩ := hrel
    by_cases hlt : j < 4
    · have hx := hi.out j hlt
      have hc := R9.tcell hR.out hlt
      have e1 := Lib.hid (@ls_up v j)
      have e2 := Lib.hid (@ls_same v j)
      generalize hb v j = h at *
      generalize tt v j = t at *
      generalize lsS v j = s at *
      obtain ⟨x, y⟩ := s
      cases h
      · have e := Lib.hid (e2.out (by simp))
        go_wp2
        go_round
        case rel => exact ⟨j + 1, by omega, by rw [e.out], by rw [e.out], by go_num⟩
        case measure => simp [intOf]; omega
      · cases y
        · have e := Lib.hid (e1.out rfl (.inl rfl))
          go_wp2
          go_round
          case rel => exact ⟨j + 1, by omega, by rw [e.out], by rw [e.out], by go_num⟩
          case measure => simp [intOf]; omega
        · by_cases htx : t < x
          · have e := Lib.hid (e1.out rfl (.inr htx))
            go_wp2
            go_round
            case rel => exact ⟨j + 1, by omega, by rw [e.out], by rw [e.out], by go_num⟩
            case measure => simp [intOf]; omega
          · have e := Lib.hid (e2.out (by simp [htx]))
            go_wp2
            go_round
            case rel => exact ⟨j + 1, by omega, by rw [e.out], by rw [e.out], by go_num⟩
            case measure => simp [intOf]; omega
    · obtain rfl : j = 4 := by omega
      clear hi
      rw [hS.out]
      go_wp2
      go_ret2
      exact ⟨rfl, hB.out⟩
/-! ### awake -/
theorem hb_0 (v : V) : hb v 0 = v.h0 := rfl
theorem hb_1 (v : V) : hb v 1 = v.h1 := rfl
theorem hb_2 (v : V) : hb v 2 = v.h2 := rfl
theorem hb_3 (v : V) : hb v 3 = v.h3 := rfl
theorem tt_0 (v : V) : tt v 0 = v.t0 := rfl
theorem tt_1 (v : V) : tt v 1 = v.t1 := rfl
theorem tt_2 (v : V) : tt v 2 = v.t2 := rfl
theorem tt_3 (v : V) : tt v 3 = v.t3 := rfl
/-- what the least of the first j is -/
theorem ls_spec (v : V) (j : Nat) : ((lsS v j).2 = false ∧ (lsS v j).1 = 0 ∧ ∀ i, i < j → hb v i = false) ∨ ((lsS v j).2 = true ∧ (∃ i, i < j ∧ hb v i = true ∧ tt v i = (lsS v j).1) ∧ ∀ i, i < j → hb v i = true → (lsS v j).1 ≤ tt v i) := by
  induction j with
  | zero => exact .inl ⟨rfl, rfl, fun i hi => by omega⟩
  | succ j ih =>
    by_cases h : hb v j = true ∧ ((lsS v j).2 = false ∨ tt v j < (lsS v j).1)
    · rw [ls_up h.1 h.2]
      refine .inr ⟨rfl, ⟨j, by omega, h.1, rfl⟩, fun i hi hb' => ?_⟩
      by_cases hij : i = j
      · rw [hij]; exact Int.le_refl _
      · rcases ih with ⟨a, b, c⟩ | ⟨a, b, c⟩
        · rw [c i (by omega)] at hb'; cases hb'
        · have h1 := c i (by omega) hb'
          rcases h.2 with h2 | h2
          · rw [a] at h2; cases h2
          · show tt v j ≤ tt v i; omega
    · rw [ls_same h]
      rcases ih with ⟨a, b, c⟩ | ⟨a, ⟨i, b1, b2, b3⟩, c⟩
      · refine .inl ⟨a, b, fun i hi => ?_⟩
        by_cases hij : i = j
        · subst hij
          cases e : hb v i
          · rfl
          · exact absurd ⟨e, .inl a⟩ h
        · exact c i (by omega)
      · refine .inr ⟨a, ⟨i, by omega, b2, b3⟩, fun k hk hk' => ?_⟩
        by_cases hij : k = j
        · subst hij
          have : ¬ tt v k < (lsS v k).1 := fun e => h ⟨hk', .inr e⟩
          omega
        · exact c k (by omega) hk'
end Go.Proofs.Ytmhflemmkoiffaa.stVF