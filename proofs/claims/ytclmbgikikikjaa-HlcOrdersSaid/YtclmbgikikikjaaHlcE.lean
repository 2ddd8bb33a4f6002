/- The contracts of the comparisons of marks: cmp.Compare, cmp.Or, Cmp, Less, Of: what each answers; they make memory and change none. -/
import Derived.Test.YtclmbgikikikjaaHlcA
import Derived.LoopTactic
import Derived.Below
import Derived.WalkLawsBesides
import Derived.Deep.RegionHeld3
import Derived.Deep.DrawnRows
import Derived.WalkSpells
namespace Go.Proofs.Ytclmbgikikikjaa.hlcE
open Go.ChangeShapes Go.WideShapes Go.ChangeAt Go.RowKit
open hlcA
attribute [local go_sem ↓] Go.wp_at_zero Go.wp_at_succ

/-- What lay there before a call that only makes memory lies there behind it. -/
theorem bcell {W w1 : World} (hb : Below W.heap.size W w1) : (∀ b o, b < W.heap.size → w1.cell? ⟨b, o, none⟩ = W.cell? ⟨b, o, none⟩) ∧ (∀ b o, b < W.heap.size → w1.frozen? ⟨b, o, none⟩ = W.frozen? ⟨b, o, none⟩) :=
  ⟨fun b o h => hb.cell (p := ⟨b, o, none⟩) h, fun b o h => hb.frozen (p := ⟨b, o, none⟩) h⟩

/-- a cell of the block that was made last, behind a draw -/
theorem cell_new_drew (W : World) (C : Array Value) (t : TypeId) (n j : Nat) (hn : n = W.heap.size) : ((W.alloc (.cells C t)).drew).cell? ⟨n, j, none⟩ = C[j]? := by
  subst hn; simp

/-! ### The plain answers -/
def c3 (x y : Int) : Int := if x < y then -1 else if y < x then 1 else 0
def or3 (x y z : Int) : Int := if x = 0 then (if y = 0 then z else y) else x
/-- the order of two marks -/
def cm (a b : Int × Int × Int) : Int := or3 (c3 a.1 b.1) (c3 a.2.1 b.2.1) (c3 a.2.2 b.2.2)
/-- a mark as a value -/
abbrev mk (a : Int × Int × Int) : Value := .agg #[.int .u64 a.1, .int .i64 a.2.1, .int .i64 a.2.2]

theorem c3_bd (x y : Int) : -1 ≤ c3 x y ∧ c3 x y ≤ 1 := by unfold c3; split <;> (try split) <;> omega

theorem nan_u (x : Int) (w : World) : Calls Try.prog 30 #[.int .u64 x] w fun e w' => e = .returned (.bool false) ∧ w = w' := by
  go_enter Try.func30, Try.ntmps30
  go_wp2
  go_ret
  exact ⟨rfl, rfl⟩
theorem nan_i (x : Int) (w : World) : Calls Try.prog 31 #[.int .i64 x] w fun e w' => e = .returned (.bool false) ∧ w = w' := by
  go_enter Try.func31, Try.ntmps31
  go_wp2
  go_ret
  exact ⟨rfl, rfl⟩

theorem compare_u (x y : Int) (w : World) : Calls Try.prog 28 #[.int .u64 x, .int .u64 y] w fun e w' => e = .returned (.int .i64 (c3 x y)) ∧ w = w' := by
  rcases (by omega : x < y ∨ (y < x ∧ ¬ x < y) ∨ (¬ y < x ∧ ¬ x < y)) with h | ⟨h, h'⟩ | ⟨h, h'⟩
  · have e1 : c3 x y = -1 := by unfold c3; rw [if_pos h]
    rw [e1]; clear e1
    go_enter Try.func28, Try.ntmps28
    go_wp2_with (go_at_call 30; refine (nan_u _ _).mono ?_; rintro e w' ⟨rfl, rfl⟩)
    go_ret
    exact ⟨rfl, rfl⟩
  · have e1 : c3 x y = 1 := by unfold c3; rw [if_neg h', if_pos h]
    rw [e1]; clear e1
    go_enter Try.func28, Try.ntmps28
    go_wp2_with (go_at_call 30; refine (nan_u _ _).mono ?_; rintro e w' ⟨rfl, rfl⟩)
    go_ret
    exact ⟨rfl, rfl⟩
  · have e1 : c3 x y = 0 := by unfold c3; rw [if_neg h', if_neg h]
    rw [e1]; clear e1
    go_enter Try.func28, Try.ntmps28
    go_wp2_with (go_at_call 30; refine (nan_u _ _).mono ?_; rintro e w' ⟨rfl, rfl⟩)
    go_ret
    exact ⟨rfl, rfl⟩
theorem compare_i (x y : Int) (w : World) : Calls Try.prog 29 #[.int .i64 x, .int .i64 y] w fun e w' => e = .returned (.int .i64 (c3 x y)) ∧ w = w' := by
  rcases (by omega : x < y ∨ (y < x ∧ ¬ x < y) ∨ (¬ y < x ∧ ¬ x < y)) with h | ⟨h, h'⟩ | ⟨h, h'⟩
  · have e1 : c3 x y = -1 := by unfold c3; rw [if_pos h]
    rw [e1]; clear e1
    go_enter Try.func29, Try.ntmps29
    go_wp2_with (go_at_call 31; refine (nan_i _ _).mono ?_; rintro e w' ⟨rfl, rfl⟩)
    go_ret
    exact ⟨rfl, rfl⟩
  · have e1 : c3 x y = 1 := by unfold c3; rw [if_neg h', if_pos h]
    rw [e1]; clear e1
    go_enter Try.func29, Try.ntmps29
    go_wp2_with (go_at_call 31; refine (nan_i _ _).mono ?_; rintro e w' ⟨rfl, rfl⟩)
    go_ret
    exact ⟨rfl, rfl⟩
  · have e1 : c3 x y = 0 := by unfold c3; rw [if_neg h', if_neg h]
    rw [e1]; clear e1
    go_enter Try.func29, Try.ntmps29
    go_wp2_with (go_at_call 31; refine (nan_i _ _).mono ?_; rintro e w' ⟨rfl, rfl⟩)
    go_ret
    exact ⟨rfl, rfl⟩

/-- how far Or has come: all before place j are zero -/
def OrAt (x y z : Int) (j : Nat) : Prop := j = 0 ∨ (j = 1 ∧ x = 0) ∨ (j = 2 ∧ x = 0 ∧ y = 0) ∨ (j = 3 ∧ x = 0 ∧ y = 0 ∧ z = 0)

theorem or_any (b : Nat) (x y z : Int) (w : World) (hx : w.cell? ⟨b, 0, none⟩ = some (.int .i64 x)) (hy : w.cell? ⟨b, 1, none⟩ = some (.int .i64 y)) (hz : w.cell? ⟨b, 2, none⟩ = some (.int .i64 z)) :
    Calls Try.prog 27 #[.slice (some ⟨b, 0, none⟩) 3 3] w fun e w' => e = .returned (.int .i64 (or3 x y z)) ∧ w = w' := by
  go_enter Try.func27, Try.ntmps27
  go_wp2
  go_loop [8] (fun i => ∃ j : Nat, OrAt x y z j ∧ i = .int .i64 j) (fun i => 3 - (intOf i).toNat)
  case atStart => exact ⟨0, .inl rfl, rfl⟩
  case round =>
    obtain ⟨j, hj, rfl⟩ := hrel
    rcases hj with rfl | ⟨rfl, hx0⟩ | ⟨rfl, hx0, hy0⟩ | ⟨rfl, hx0, hy0, hz0⟩
    · by_cases h : x = 0
      · have hs : OrAt x y z 1 := .inr (.inl ⟨rfl, h⟩)
        have hb : (x == 0) = true := by simpa using h
        clear h
        go_wp2
        go_round
        case rel => exact ⟨1, hs, rfl⟩
        case measure => simp [intOf]
      · have hb : (x == 0) = false := by simpa using h
        have e1 : or3 x y z = x := by unfold or3; rw [if_neg h]
        clear h
        go_wp2
        go_ret
        exact ⟨rfl, rfl⟩
    · by_cases h : y = 0
      · have hs : OrAt x y z 2 := .inr (.inr (.inl ⟨rfl, hx0, h⟩))
        have hb : (y == 0) = true := by simpa using h
        clear h hx0
        go_wp2
        go_round
        case rel => exact ⟨2, hs, rfl⟩
        case measure => simp [intOf]
      · have hb : (y == 0) = false := by simpa using h
        have e1 : or3 x y z = y := by unfold or3; rw [if_pos hx0, if_neg h]
        clear h hx0
        go_wp2
        go_ret
        exact ⟨rfl, rfl⟩
    · by_cases h : z = 0
      · have hs : OrAt x y z 3 := .inr (.inr (.inr ⟨rfl, hx0, hy0, h⟩))
        have hb : (z == 0) = true := by simpa using h
        clear h hx0 hy0
        go_wp2
        go_round
        case rel => exact ⟨3, hs, rfl⟩
        case measure => simp [intOf]
      · have hb : (z == 0) = false := by simpa using h
        have e1 : or3 x y z = z := by unfold or3; rw [if_pos hx0, if_pos hy0]
        clear h hx0 hy0
        go_wp2
        go_ret
        exact ⟨rfl, rfl⟩
    · have e1 : or3 x y z = 0 := by unfold or3; rw [if_pos hx0, if_pos hy0, hz0]
      clear hx0 hy0 hz0
      go_wp2
      go_ret
      exact ⟨rfl, rfl⟩

theorem cmp_any (a b : Int × Int × Int) (w : World) :
    Calls Try.prog 19 #[mk a, mk b] w fun e w' => e = .returned (.int .i64 (cm a b)) ∧ Below w.heap.size w w' := by
  obtain ⟨a1, a2, a3⟩ := a
  obtain ⟨b1, b2, b3⟩ := b
  go_enter Try.func19, Try.ntmps19
  go_wp2
  go_region_held3 (fun w' => w'.cell? ⟨w.heap.size, 0, none⟩ = some (.int .u64 a1) ∧ w'.cell? ⟨w.heap.size, 1, none⟩ = some (.int .i64 a2) ∧ w'.cell? ⟨w.heap.size, 2, none⟩ = some (.int .i64 a3) ∧ w'.cell? ⟨w.heap.size + 1, 0, none⟩ = some (.int .u64 b1) ∧ w'.cell? ⟨w.heap.size + 1, 1, none⟩ = some (.int .i64 b2) ∧ w'.cell? ⟨w.heap.size + 1, 2, none⟩ = some (.int .i64 b3))
    (go_keep)
    (first | (go_at_call 28; refine (compare_u _ _ _).mono ?_; rintro e w' ⟨rfl, rfl⟩) | (go_at_call 29; refine (compare_i _ _ _).mono ?_; rintro e w' ⟨rfl, rfl⟩) | (go_at_call 27; refine (or_any _ (c3 a1 b1) (c3 a2 b2) (c3 a3 b3) _ ?_ ?_ ?_).mono ?_; (exact (cell_new_drew _ _ _ _ _ (by simp)).trans rfl); (exact (cell_new_drew _ _ _ _ _ (by simp)).trans rfl); (exact (cell_new_drew _ _ _ _ _ (by simp)).trans rfl); rintro e w' ⟨rfl, rfl⟩))
  go_wp2
  go_ret
  exact ⟨rfl, ((((Below.refl _ _).alloc (Nat.le_refl _) _).alloc (by simp) _).alloc (by simp; omega) _).drew⟩

/-! ### The order of marks -/
theorem cm_bd (a b : Int × Int × Int) : -1 ≤ cm a b ∧ cm a b ≤ 1 := by
  have h1 := c3_bd a.1 b.1
  have h2 := c3_bd a.2.1 b.2.1
  have h3 := c3_bd a.2.2 b.2.2
  unfold cm or3
  split <;> (try split) <;> omega
theorem c3_cases (x y : Int) : (x < y ∧ c3 x y = -1) ∨ (y < x ∧ c3 x y = 1) ∨ (x = y ∧ c3 x y = 0) := by
  unfold c3; split <;> (try split) <;> omega
theorem or3_cases (x y z : Int) : (x ≠ 0 ∧ or3 x y z = x) ∨ (x = 0 ∧ y ≠ 0 ∧ or3 x y z = y) ∨ (x = 0 ∧ y = 0 ∧ or3 x y z = z) := by
  unfold or3; split <;> (try split) <;> simp_all
/-- the order, by its parts -/
theorem cm_cases (a b : Int × Int × Int) :
    ((a.1 < b.1 ∨ (a.1 = b.1 ∧ a.2.1 < b.2.1) ∨ (a.1 = b.1 ∧ a.2.1 = b.2.1 ∧ a.2.2 < b.2.2)) ∧ cm a b = -1) ∨
    ((b.1 < a.1 ∨ (a.1 = b.1 ∧ b.2.1 < a.2.1) ∨ (a.1 = b.1 ∧ a.2.1 = b.2.1 ∧ b.2.2 < a.2.2)) ∧ cm a b = 1) ∨
    ((a.1 = b.1 ∧ a.2.1 = b.2.1 ∧ a.2.2 = b.2.2) ∧ cm a b = 0) := by
  have h1 := c3_cases a.1 b.1
  have h2 := c3_cases a.2.1 b.2.1
  have h3 := c3_cases a.2.2 b.2.2
  have h4 := or3_cases (c3 a.1 b.1) (c3 a.2.1 b.2.1) (c3 a.2.2 b.2.2)
  unfold cm
  omega
theorem cm_anti (a b : Int × Int × Int) : cm b a = - cm a b := by
  have h1 := cm_cases a b
  have h2 := cm_cases b a
  omega
theorem cm_zero (a b : Int × Int × Int) (h : cm a b = 0) : a = b := by
  have h1 := cm_cases a b
  obtain ⟨a1, a2, a3⟩ := a
  obtain ⟨b1, b2, b3⟩ := b
  simp only at h1
  have : a1 = b1 ∧ a2 = b2 ∧ a3 = b3 := by omega
  obtain ⟨rfl, rfl, rfl⟩ := this
  rfl
theorem cm_self (a : Int × Int × Int) : cm a a = 0 := by
  have h1 := cm_cases a a
  omega
theorem cm_le (a b c : Int × Int × Int) (h1 : cm a b ≤ 0) (h2 : cm b c ≤ 0) : cm a c ≤ 0 := by
  have := cm_cases a b
  have := cm_cases b c
  have := cm_cases a c
  omega
theorem cm_lt (a b c : Int × Int × Int) (h1 : cm a b < 0) (h2 : cm b c ≤ 0) : cm a c < 0 := by
  have := cm_cases a b
  have := cm_cases b c
  have := cm_cases a c
  omega
theorem cm_1 (a b : Int × Int × Int) (h : a.1 ≠ b.1) : decide (cm a b < 0) = decide (a.1 < b.1) := by
  have := cm_cases a b
  rw [decide_eq_decide]; omega
theorem cm_2 (a b : Int × Int × Int) (h : a.1 = b.1) (g : a.2.1 ≠ b.2.1) : decide (cm a b < 0) = decide (a.2.1 < b.2.1) := by
  have := cm_cases a b
  rw [decide_eq_decide]; omega
theorem cm_3 (a b : Int × Int × Int) (h : a.1 = b.1) (g : a.2.1 = b.2.1) : decide (cm a b < 0) = decide (a.2.2 < b.2.2) := by
  have := cm_cases a b
  rw [decide_eq_decide]; omega
/-- is a ahead of b? -/
def isAhead (a b : Int × Int × Int) : Bool := decide (cm a b < 0)

theorem less_any (a b : Int × Int × Int) (w : World) :
    Calls Try.prog 20 #[mk a, mk b] w fun e w' => e = .returned (.bool (isAhead a b)) ∧ Below w.heap.size w w' := by
  have h1 := cm_1 a b
  have h2 := cm_2 a b
  have h3 := cm_3 a b
  unfold isAhead
  obtain ⟨a1, a2, a3⟩ := a
  obtain ⟨b1, b2, b3⟩ := b
  simp only at h1 h2 h3
  by_cases e1 : a1 = b1
  · subst e1
    clear h1
    replace h2 := h2 rfl
    replace h3 := h3 rfl
    by_cases e2 : a2 = b2
    · subst e2
      clear h2
      rw [h3 rfl]
      clear h3
      go_enter Try.func20, Try.ntmps20
      go_wp2
      go_ret
      exact ⟨rfl, ((Below.refl _ _).alloc (Nat.le_refl _) _).alloc (by simp) _⟩
    · rw [h2 e2]
      clear h2 h3
      have hb : (a2 == b2) = false := by simpa using e2
      have hb' : (a2 != b2) = true := by simpa using e2
      clear e2
      go_enter Try.func20, Try.ntmps20
      go_wp2
      go_ret
      exact ⟨rfl, ((Below.refl _ _).alloc (Nat.le_refl _) _).alloc (by simp) _⟩
  · rw [h1 e1]
    clear h1 h2 h3
    have hb : (a1 == b1) = false := by simpa using e1
    have hb' : (a1 != b1) = true := by simpa using e1
    clear e1
    go_enter Try.func20, Try.ntmps20
    go_wp2
    go_ret
    exact ⟨rfl, ((Below.refl _ _).alloc (Nat.le_refl _) _).alloc (by simp) _⟩
end Go.Proofs.Ytclmbgikikikjaa.hlcE
