/- The contracts of Least, in the program and in the document's own answer; awake. -/
import Derived.Test.YtoeafdpknjeojaaVecE
set_option linter.unusedVariables false
set_option linter.unusedSimpArgs false
namespace Go.Proofs.Ytoeafdpknjeojaa.vecF
open Go.ChangeShapes Go.WideShapes Go.ChangeAt Go.RowKit Go.Deep
open vecA vecB vecC vecD vecE

/-- the least time of the first j, and whether there is one -/
def lsS (v : V) : Nat → Int × Bool
  | 0 => (0, false)
  | j + 1 => if hb v j = true ∧ ((lsS v j).2 = false ∨ tt v j < (lsS v j).1) then (tt v j, true) else lsS v j
theorem ls_up {v : V} {j : Nat} (h : hb v j = true) (h2 : (lsS v j).2 = false ∨ tt v j < (lsS v j).1) : lsS v (j + 1) = (tt v j, true) := by
  show (if _ then _ else _) = _
  rw [if_pos ⟨h, h2⟩]
theorem ls_same {v : V} {j : Nat} (h : ¬ (hb v j = true ∧ ((lsS v j).2 = false ∨ tt v j < (lsS v j).1))) : lsS v (j + 1) = lsS v j := by
  show (if _ then _ else _) = _
  rw [if_neg h]
set_option maxRecDepth 100000 in
theorem least_any (v : V) (w : World) : Calls Try.prog 7 #[vV v] w fun r w' => r = .returned (.tuple #[.int .u64 (lsS v 4).1, .bool (lsS v 4).2]) ∧ Below w.heap.size w w' := by
  have hi := Lib.hid (fun (j : Nat) (h : j < 4) (wx : World) => ix v h wx)
  have hR := Lib.hid (R9.new w v 26)
  have hB := Lib.hid (al0 w (.cells (aV v) 26))
  obtain ⟨S, hS⟩ : ∃ S, lsS v 4 = S := ⟨_, rfl⟩
  rw [hS]
  replace hS := Lib.hid hS
  go_enter Try.func7, Try.ntmps7
  go_wp2
  generalize w.alloc (.cells #[.int .i64 v.e, .bool v.h0, .bool v.h1, .bool v.h2, .bool v.h3, .int .u64 v.t0, .int .u64 v.t1, .int .u64 v.t2, .int .u64 v.t3] 26) = wr at *
  go_loop [4, 5, 10] (fun x y i => ∃ j : Nat, j ≤ 4 ∧ x = .int .u64 (lsS v j).1 ∧ y = .bool (lsS v j).2 ∧ i = .int .i64 j) (fun _ _ i => 4 - (intOf i).toNat)
  case atStart => exact ⟨0, by omega, rfl, rfl, rfl⟩
  case round =>
    obtain ⟨j, hj, rfl, rfl, rfl⟩ := hrel
    by_cases hlt : j < 4
    · have hx := hi.out j hlt
      have hc := R9.tcell hR.out hlt
      have e1 := Lib.hid (@ls_up v j)
      have e2 := Lib.hid (@ls_same v j)
      generalize hb v j = h at *
      generalize tt v j = t at *
      generalize lsS v j = s at *
      obtain ⟨x, y⟩ := s
      cases h
      · have e := Lib.hid (e2.out (by simp))
        go_wp2
        go_round
        case rel => exact ⟨j + 1, by omega, by rw [e.out], by rw [e.out], by go_num⟩
        case measure => simp [intOf]; omega
      · cases y
        · have e := Lib.hid (e1.out rfl (.inl rfl))
          go_wp2
          go_round
          case rel => exact ⟨j + 1, by omega, by rw [e.out], by rw [e.out], by go_num⟩
          case measure => simp [intOf]; omega
        · by_cases htx : t < x
          · have e := Lib.hid (e1.out rfl (.inr htx))
            go_wp2
            go_round
            case rel => exact ⟨j + 1, by omega, by rw [e.out], by rw [e.out], by go_num⟩
            case measure => simp [intOf]; omega
          · have e := Lib.hid (e2.out (by simp [htx]))
            go_wp2
            go_round
            case rel => exact ⟨j + 1, by omega, by rw [e.out], by rw [e.out], by go_num⟩
            case measure => simp [intOf]; omega
    · obtain rfl : j = 4 := by omega
      clear hi
      rw [hS.out]
      go_wp2
      go_ret2
      exact ⟨rfl, hB.out⟩
/-! ### awake -/
abbrev wk : V := ⟨0, true, true, false, false, 5, 3, 0, 0⟩
theorem wk_ls : lsS wk 4 = (3, true) := by simp [lsS, hb, tt]
set_option maxRecDepth 100000 in
theorem awake_any (w : World) : Calls Try.prog 13 #[] w fun r w' => r = .returned (.bool true) ∧ Below w.heap.size w w' := by
  have hl := (least_any wk w)
  rw [wk_ls] at hl
  replace hl := Lib.hid hl
  go_enter Try.func13, Try.ntmps13
  go_wp2_with (fail)
  refine hl.out.mono ?_
  rintro e w1 ⟨rfl, hB⟩
  replace hB := Lib.hid hB
  go_wp2
  go_ret
  exact ⟨rfl, hB.out⟩
/-! ### The document's own -/
def lk (v : V) (i : Nat) : Nat → Bool
  | 0 => hb v i
  | k + 1 => lk v i k && (!hb v k || decide (tt v i ≤ tt v k))
theorem hb_0 (v : V) : hb v 0 = v.h0 := rfl
theorem hb_1 (v : V) : hb v 1 = v.h1 := rfl
theorem hb_2 (v : V) : hb v 2 = v.h2 := rfl
theorem hb_3 (v : V) : hb v 3 = v.h3 := rfl
theorem tt_0 (v : V) : tt v 0 = v.t0 := rfl
theorem tt_1 (v : V) : tt v 1 = v.t1 := rfl
theorem tt_2 (v : V) : tt v 2 = v.t2 := rfl
theorem tt_3 (v : V) : tt v 3 = v.t3 := rfl
/-- what the least of the first j is -/
theorem ls_spec (v : V) (j : Nat) : ((lsS v j).2 = false ∧ (lsS v j).1 = 0 ∧ ∀ i, i < j → hb v i = false) ∨ ((lsS v j).2 = true ∧ (∃ i, i < j ∧ hb v i = true ∧ tt v i = (lsS v j).1) ∧ ∀ i, i < j → hb v i = true → (lsS v j).1 ≤ tt v i) := by
  induction j with
  | zero => exact .inl ⟨rfl, rfl, fun i hi => by omega⟩
  | succ j ih =>
    by_cases h : hb v j = true ∧ ((lsS v j).2 = false ∨ tt v j < (lsS v j).1)
    · rw [ls_up h.1 h.2]
      refine .inr ⟨rfl, ⟨j, by omega, h.1, rfl⟩, fun i hi hb' => ?_⟩
      by_cases hij : i = j
      · rw [hij]; exact Int.le_refl _
      · rcases ih with ⟨a, b, c⟩ | ⟨a, b, c⟩
        · rw [c i (by omega)] at hb'; cases hb'
        · have h1 := c i (by omega) hb'
          rcases h.2 with h2 | h2
          · rw [a] at h2; cases h2
          · show tt v j ≤ tt v i; omega
    · rw [ls_same h]
      rcases ih with ⟨a, b, c⟩ | ⟨a, ⟨i, b1, b2, b3⟩, c⟩
      · refine .inl ⟨a, b, fun i hi => ?_⟩
        by_cases hij : i = j
        · subst hij
          cases e : hb v i
          · rfl
          · exact absurd ⟨e, .inl a⟩ h
        · exact c i (by omega)
      · refine .inr ⟨a, ⟨i, by omega, b2, b3⟩, fun k hk hk' => ?_⟩
        by_cases hij : k = j
        · subst hij
          have : ¬ tt v k < (lsS v k).1 := fun e => h ⟨hk', .inr e⟩
          omega
        · exact c k (by omega) hk'
theorem lk_spec (v : V) (i k : Nat) : lk v i k = true ↔ hb v i = true ∧ ∀ j, j < k → hb v j = true → tt v i ≤ tt v j := by
  induction k with
  | zero => exact ⟨fun h => ⟨h, fun j hj => by omega⟩, fun h => h.1⟩
  | succ k ih =>
    show (lk v i k && (!hb v k || decide (tt v i ≤ tt v k))) = true ↔ _
    rw [Bool.and_eq_true, ih]
    constructor
    · rintro ⟨⟨a, b⟩, c⟩
      refine ⟨a, fun j hj hj' => ?_⟩
      by_cases hjk : j = k
      · subst hjk; rw [hj'] at c; simpa using c
      · exact b j (by omega) hj'
    · rintro ⟨a, b⟩
      refine ⟨⟨a, fun j hj => b j (by omega)⟩, ?_⟩
      cases e : hb v k
      · rfl
      · simpa using b k (by omega) e
theorem lk_yes {v : V} {i : Nat} (hi : i < 4) (h : lk v i 4 = true) : lsS v 4 = (tt v i, true) := by
  obtain ⟨h1, h2⟩ := (lk_spec v i 4).1 h
  rcases ls_spec v 4 with ⟨a, b, c⟩ | ⟨a, ⟨j, b1, b2, b3⟩, c⟩
  · rw [c i hi] at h1; cases h1
  · have e1 := h2 j b1 b2
    have e2 := c i hi h1
    exact Prod.ext (by show _ = tt v i; omega) a
theorem lk_none {v : V} (h : ∀ i, i < 4 → lk v i 4 = false) : lsS v 4 = (0, false) := by
  rcases ls_spec v 4 with ⟨a, b, c⟩ | ⟨a, ⟨j, b1, b2, b3⟩, c⟩
  · exact Prod.ext b a
  · have := (lk_spec v j 4).2 ⟨b2, fun k hk hk' => by have := c k hk hk'; omega⟩
    rw [h j b1] at this; cases this
set_option maxRecDepth 100000 in
set_option maxHeartbeats 1000000 in
theorem rleast_any (v : V) (w : World) : Calls Try.prog 8 #[vV v] w fun r w' => r = .returned (.tuple #[.int .u64 (lsS v 4).1, .bool (lsS v 4).2]) ∧ Below w.heap.size w w' := by
  have hR := Lib.hid (R9.new w v 30)
  have hB := Lib.hid (al0 w (.cells (aV v) 30))
  obtain ⟨s, hs⟩ : ∃ s, lsS v 4 = s := ⟨_, rfl⟩
  have hyes := Lib.hid (fun (i : Nat) (hi : i < 4) (h : lk v i 4 = true) => hs.symm.trans (lk_yes hi h))
  have hno := Lib.hid (fun (h : ∀ i, i < 4 → lk v i 4 = false) => hs.symm.trans (lk_none h))
  rw [hs]
  clear hs
  go_enter Try.func8, Try.ntmps8
  go_wp2
  go_loopw [4] (fun i wr => ∃ j : Nat, j ≤ 4 ∧ i = .int .i64 j ∧ Hid (∀ i, i < j → lk v i 4 = false) ∧ Hid (R9 30 w.heap.size v wr) ∧ Hid (Below w.heap.size w wr)) (fun i _ => 4 - (intOf i).toNat)
  case atStart => exact ⟨0, by omega, rfl, Lib.hid (fun i hi => by omega), hR, hB⟩
  case round =>
    clear hR hB
    obtain ⟨j, hj, rfl, hn, hR, hB⟩ := hrel
    by_cases hlt : j < 4
    · have hc : wr.cell? ⟨w.heap.size, 1 + j, none⟩ = some (.bool (hb v j)) := R9.hcell hR.out hlt
      go_wp2
      clear hc
      obtain ⟨wo, rfl⟩ : ∃ wo : World, wo = wr := ⟨_, rfl⟩
      go_loopw [5, 6] (fun l i wr => ∃ k : Nat, k ≤ 4 ∧ l = .bool (lk v j k) ∧ i = .int .i64 k ∧ Hid (R9 30 w.heap.size v wr) ∧ Hid (Below w.heap.size w wr)) (fun _ i _ => 4 - (intOf i).toNat)
      case atStart => exact ⟨0, by omega, rfl, rfl, hR, hB⟩
      case round =>
        clear hR hB
        obtain ⟨k, hk, rfl, rfl, hR, hB⟩ := hrel
        by_cases hkl : k < 4
        · have e := Lib.hid (show lk v j (k + 1) = (lk v j k && (!hb v k || decide (tt v j ≤ tt v k))) from rfl)
          have hc : wr.cell? ⟨w.heap.size, 1 + k, none⟩ = some (.bool (hb v k)) := R9.hcell hR.out hkl
          have ht : wr.cell? ⟨w.heap.size, 5 + j, none⟩ = some (.int .u64 (tt v j)) := R9.tcell hR.out hlt
          have hu : wr.cell? ⟨w.heap.size, 5 + k, none⟩ = some (.int .u64 (tt v k)) := R9.tcell hR.out hkl
          generalize lk v j k = y at *
          generalize hb v k = h at *
          generalize tt v j = a at *
          generalize tt v k = b at *
          have hd : decide (a ≤ b) = true ∨ decide (a ≤ b) = false := by cases decide (a ≤ b) <;> simp
          cases y
          · go_wp2
            go_quiet (fail)
            have hR' := Lib.hid (show R9 30 w.heap.size v (wr.drewN nq) from hR.out)
            have hB' := Lib.hid (bdrN nq hB.out)
            clear hR hB
            go_wp2
            go_roundw
            case rel => exact ⟨k + 1, by omega, by rw [e.out]; rfl, by go_num, hR', hB'⟩
            case measure => simp [intOf]; omega
          · cases h
            · go_wp2
              go_quiet (fail)
              have hR' := Lib.hid (show R9 30 w.heap.size v (wr.drewN nq) from hR.out)
              have hB' := Lib.hid (bdrN nq hB.out)
              clear hR hB
              go_wp2
              go_roundw
              case rel => exact ⟨k + 1, by omega, by rw [e.out]; rfl, by go_num, hR', hB'⟩
              case measure => simp [intOf]; omega
            · rcases hd with hd | hd
              all_goals
                have e' : Hid (lk v j (k + 1) = decide (a ≤ b)) := Lib.hid e.out
                rw [hd] at e'
                have hd' := Lib.hid hd
                go_wp2
                go_quiet (fail)
                have hR' := Lib.hid (show R9 30 w.heap.size v (wr.drewN nq) from hR.out)
                have hB' := Lib.hid (bdrN nq hB.out)
                clear hR hB
                go_wp2
                go_roundw
                case rel => exact ⟨k + 1, by omega, by rw [e'.out], by go_num, hR', hB'⟩
                case measure => simp [intOf]; omega
        · obtain rfl : k = 4 := by omega
          have ht : wr.cell? ⟨w.heap.size, 5 + j, none⟩ = some (.int .u64 (tt v j)) := R9.tcell hR.out hlt
          generalize hl : lk v j 4 = y at *
          cases y
          · have hn' : Hid (∀ i, i < j + 1 → lk v i 4 = false) := Lib.hid (fun i hi => by
              by_cases hij : i = j
              · rw [hij]; exact hl
              · exact hn.out i (by omega))
            clear hl hn
            go_wp2
            go_roundw
            case rel => exact ⟨j + 1, by omega, by go_num, hn', hR, hB⟩
            case measure => simp [intOf]; omega
          · have he := hyes.out j hlt hl
            subst he
            clear hl
            go_wp2
            go_ret2
            exact ⟨rfl, hB.out⟩
    · obtain rfl : j = 4 := by omega
      have he := hno.out hn.out
      subst he
      go_wp2
      go_ret2
      exact ⟨rfl, hB.out⟩
end Go.Proofs.Ytoeafdpknjeojaa.vecF
