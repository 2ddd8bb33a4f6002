/- The walk of the statement HlcOrders: marks are in the document's order, and the order is one; it returns true for any three marks. -/
import Derived.Test.YtclmbgikikikjaaHlcE
import Derived.Laws.StructEq
namespace Go.Proofs.Ytclmbgikikikjaa.hlcF
open Go.ChangeShapes Go.WideShapes Go.ChangeAt Go.RowKit
open hlcA hlcE
attribute [local go_sem ↓] Go.wp_at_zero Go.wp_at_succ

/-- The three marks' boxes lie at the places n, n + 1, n + 2 of the world w', which is w with more memory. -/
def Bx (w : World) (a b c : Int × Int × Int) (w' : World) : Prop :=
  Below w.heap.size w w' ∧ w.heap.size + 3 ≤ w'.heap.size ∧
  w'.cell? ⟨w.heap.size, 0, none⟩ = some (.int .u64 a.1) ∧ w'.cell? ⟨w.heap.size, 1, none⟩ = some (.int .i64 a.2.1) ∧ w'.cell? ⟨w.heap.size, 2, none⟩ = some (.int .i64 a.2.2) ∧
  w'.cell? ⟨w.heap.size + 1, 0, none⟩ = some (.int .u64 b.1) ∧ w'.cell? ⟨w.heap.size + 1, 1, none⟩ = some (.int .i64 b.2.1) ∧ w'.cell? ⟨w.heap.size + 1, 2, none⟩ = some (.int .i64 b.2.2) ∧
  w'.cell? ⟨w.heap.size + 2, 0, none⟩ = some (.int .u64 c.1) ∧ w'.cell? ⟨w.heap.size + 2, 1, none⟩ = some (.int .i64 c.2.1) ∧ w'.cell? ⟨w.heap.size + 2, 2, none⟩ = some (.int .i64 c.2.2)

theorem Bx.step {w W w1 : World} {a b c : Int × Int × Int} (hb : Below W.heap.size W w1) (h : Bx w a b c W) : Bx w a b c w1 := by
  obtain ⟨h1, h2, c1, c2, c3, c4, c5, c6, c7, c8, c9⟩ := h
  obtain ⟨hk, _⟩ := bcell hb
  have hz := hb.size
  refine ⟨h1.trans (hb.mono (by omega)), by omega, ?_, ?_, ?_, ?_, ?_, ?_, ?_, ?_, ?_⟩
  all_goals (rw [hk _ _ (by omega)]; assumption)

theorem Bx.start (w : World) (a b c : Int × Int × Int) : Bx w a b c ((((w.alloc (.cells #[.int .u64 a.1, .int .i64 a.2.1, .int .i64 a.2.2] 38)).alloc (.cells #[.int .u64 b.1, .int .i64 b.2.1, .int .i64 b.2.2] 38)).alloc (.cells #[.int .u64 c.1, .int .i64 c.2.1, .int .i64 c.2.2] 38)).drew) := by
  refine ⟨((((Below.refl _ _).alloc (Nat.le_refl _) _).alloc (by simp) _).alloc (by simp; omega) _).drew, by simp, ?_, ?_, ?_, ?_, ?_, ?_, ?_, ?_, ?_⟩
  all_goals go_simp

theorem Bx.below {w w' : World} {a b c : Int × Int × Int} (h : Bx w a b c w') : Below w.heap.size w w' := h.1

set_option maxHeartbeats 4000000 in
set_option maxRecDepth 100000 in
theorem orders_gt (a b c : Int × Int × Int) (w : World) (hx : cm a b = 1) (hne : ¬ (a.1 = b.1 ∧ a.2.1 = b.2.1 ∧ a.2.2 = b.2.2)) :
    Calls Try.prog 7 #[mk a, mk b, mk c] w fun e w' => e = .returned (.bool true) ∧ Below w.heap.size w w' := by
  have h1 : isAhead a b = false := by unfold isAhead; rw [hx]; rfl
  have hy : cm b a = -1 := by rw [cm_anti, hx]
  have h2 : isAhead b a = true := by unfold isAhead; rw [hy]; rfl
  go_enter Try.func7, Try.ntmps7
  go_wp2
  go_region_held3 (fun w' => Below w.heap.size w w' ∧ w.heap.size + 3 ≤ w'.heap.size ∧
  w'.cell? ⟨w.heap.size, 0, none⟩ = some (.int .u64 a.1) ∧ w'.cell? ⟨w.heap.size, 1, none⟩ = some (.int .i64 a.2.1) ∧ w'.cell? ⟨w.heap.size, 2, none⟩ = some (.int .i64 a.2.2) ∧
  w'.cell? ⟨w.heap.size + 1, 0, none⟩ = some (.int .u64 b.1) ∧ w'.cell? ⟨w.heap.size + 1, 1, none⟩ = some (.int .i64 b.2.1) ∧ w'.cell? ⟨w.heap.size + 1, 2, none⟩ = some (.int .i64 b.2.2) ∧
  w'.cell? ⟨w.heap.size + 2, 0, none⟩ = some (.int .u64 c.1) ∧ w'.cell? ⟨w.heap.size + 2, 1, none⟩ = some (.int .i64 c.2.1) ∧ w'.cell? ⟨w.heap.size + 2, 2, none⟩ = some (.int .i64 c.2.2))
    (first | exact Bx.start w a b c | exact Bx.step (by assumption) (by assumption))
    (first | (go_at_call 19; refine (cmp_any _ _ _).mono ?_; rintro e w' ⟨rfl, hb⟩))
  rename_i hHeld
  have hB : Bx w a b c w' := hHeld
  clear hb
  obtain ⟨_, _, k1, k2, k3, k4, k5, k6, k7, k8, k9⟩ := hHeld
  go_wp2_with (first | (go_at_call 20; refine (less_any _ _ _).mono ?_; rintro e w2 ⟨rfl, hb2⟩; have hB2 := Bx.step hb2 (by assumption); have hH2 := hB2; clear hb2; obtain ⟨_, _, d1, d2, d3, d4, d5, d6, d7, d8, d9⟩ := hH2) | (go_at_call 19; refine (cmp_any _ _ _).mono ?_; rintro e w2 ⟨rfl, hb2⟩; have hB2 := Bx.step hb2 (by assumption); have hH2 := hB2; clear hb2; obtain ⟨_, _, d1, d2, d3, d4, d5, d6, d7, d8, d9⟩ := hH2) | (go_at_call 12; refine (awake_any _).mono ?_; rintro e w' ⟨rfl, rfl⟩))
  all_goals first | (go_ret; exact ⟨rfl, Bx.below (by assumption : Bx w a b c _)⟩) | (exfalso; omega)

set_option maxHeartbeats 4000000 in
set_option maxRecDepth 100000 in
theorem orders_eq1 (a c : Int × Int × Int) (w : World) (hc : 0 < cm a c) :
    Calls Try.prog 7 #[mk a, mk a, mk c] w fun e w' => e = .returned (.bool true) ∧ Below w.heap.size w w' := by
  have h1 : isAhead a a = false := by unfold isAhead; rw [cm_self]; rfl
  have hx := cm_self a
  go_enter Try.func7, Try.ntmps7
  go_wp2
  go_region_held3 (fun w' => Below w.heap.size w w' ∧ w.heap.size + 3 ≤ w'.heap.size ∧
  w'.cell? ⟨w.heap.size, 0, none⟩ = some (.int .u64 a.1) ∧ w'.cell? ⟨w.heap.size, 1, none⟩ = some (.int .i64 a.2.1) ∧ w'.cell? ⟨w.heap.size, 2, none⟩ = some (.int .i64 a.2.2) ∧
  w'.cell? ⟨w.heap.size + 1, 0, none⟩ = some (.int .u64 a.1) ∧ w'.cell? ⟨w.heap.size + 1, 1, none⟩ = some (.int .i64 a.2.1) ∧ w'.cell? ⟨w.heap.size + 1, 2, none⟩ = some (.int .i64 a.2.2) ∧
  w'.cell? ⟨w.heap.size + 2, 0, none⟩ = some (.int .u64 c.1) ∧ w'.cell? ⟨w.heap.size + 2, 1, none⟩ = some (.int .i64 c.2.1) ∧ w'.cell? ⟨w.heap.size + 2, 2, none⟩ = some (.int .i64 c.2.2))
    (first | exact Bx.start w a a c | exact Bx.step (by assumption) (by assumption))
    (first | (go_at_call 19; refine (cmp_any _ _ _).mono ?_; rintro e w' ⟨rfl, hb⟩))
  rename_i hHeld
  have hB : Bx w a a c w' := hHeld
  clear hb
  obtain ⟨_, _, k1, k2, k3, k4, k5, k6, k7, k8, k9⟩ := hHeld
  go_wp2_with (first | (go_at_call 20; refine (less_any _ _ _).mono ?_; rintro e w2 ⟨rfl, hb2⟩; have hB2 := Bx.step hb2 (by assumption); have hH2 := hB2; clear hb2; obtain ⟨_, _, d1, d2, d3, d4, d5, d6, d7, d8, d9⟩ := hH2) | (go_at_call 19; refine (cmp_any _ _ _).mono ?_; rintro e w2 ⟨rfl, hb2⟩; have hB2 := Bx.step hb2 (by assumption); have hH2 := hB2; clear hb2; obtain ⟨_, _, d1, d2, d3, d4, d5, d6, d7, d8, d9⟩ := hH2) | (go_at_call 12; refine (awake_any _).mono ?_; rintro e w' ⟨rfl, rfl⟩))
  all_goals first | (go_ret; exact ⟨rfl, Bx.below (by assumption : Bx w a a c _)⟩) | (exfalso; omega)

set_option maxHeartbeats 4000000 in
set_option maxRecDepth 100000 in
theorem orders_eq2 (a c : Int × Int × Int) (w : World) (hc : cm a c ≤ 0) :
    Calls Try.prog 7 #[mk a, mk a, mk c] w fun e w' => e = .returned (.bool true) ∧ Below w.heap.size w w' := by
  have h1 : isAhead a a = false := by unfold isAhead; rw [cm_self]; rfl
  have hx := cm_self a
  go_enter Try.func7, Try.ntmps7
  go_wp2
  go_region_held3 (fun w' => Below w.heap.size w w' ∧ w.heap.size + 3 ≤ w'.heap.size ∧
  w'.cell? ⟨w.heap.size, 0, none⟩ = some (.int .u64 a.1) ∧ w'.cell? ⟨w.heap.size, 1, none⟩ = some (.int .i64 a.2.1) ∧ w'.cell? ⟨w.heap.size, 2, none⟩ = some (.int .i64 a.2.2) ∧
  w'.cell? ⟨w.heap.size + 1, 0, none⟩ = some (.int .u64 a.1) ∧ w'.cell? ⟨w.heap.size + 1, 1, none⟩ = some (.int .i64 a.2.1) ∧ w'.cell? ⟨w.heap.size + 1, 2, none⟩ = some (.int .i64 a.2.2) ∧
  w'.cell? ⟨w.heap.size + 2, 0, none⟩ = some (.int .u64 c.1) ∧ w'.cell? ⟨w.heap.size + 2, 1, none⟩ = some (.int .i64 c.2.1) ∧ w'.cell? ⟨w.heap.size + 2, 2, none⟩ = some (.int .i64 c.2.2))
    (first | exact Bx.start w a a c | exact Bx.step (by assumption) (by assumption))
    (first | (go_at_call 19; refine (cmp_any _ _ _).mono ?_; rintro e w' ⟨rfl, hb⟩))
  rename_i hHeld
  have hB : Bx w a a c w' := hHeld
  clear hb
  obtain ⟨_, _, k1, k2, k3, k4, k5, k6, k7, k8, k9⟩ := hHeld
  go_wp2_with (first | (go_at_call 20; refine (less_any _ _ _).mono ?_; rintro e w2 ⟨rfl, hb2⟩; have hB2 := Bx.step hb2 (by assumption); have hH2 := hB2; clear hb2; obtain ⟨_, _, d1, d2, d3, d4, d5, d6, d7, d8, d9⟩ := hH2) | (go_at_call 19; refine (cmp_any _ _ _).mono ?_; rintro e w2 ⟨rfl, hb2⟩; have hB2 := Bx.step hb2 (by assumption); have hH2 := hB2; clear hb2; obtain ⟨_, _, d1, d2, d3, d4, d5, d6, d7, d8, d9⟩ := hH2) | (go_at_call 12; refine (awake_any _).mono ?_; rintro e w' ⟨rfl, rfl⟩))
  all_goals first | (go_ret; exact ⟨rfl, Bx.below (by assumption : Bx w a a c _)⟩) | (exfalso; omega)

set_option maxHeartbeats 4000000 in
set_option maxRecDepth 100000 in
theorem orders_lt1 (a b c : Int × Int × Int) (w : World) (hx : cm a b = -1) (hne : ¬ (a.1 = b.1 ∧ a.2.1 = b.2.1 ∧ a.2.2 = b.2.2)) (hc : 0 < cm b c) :
    Calls Try.prog 7 #[mk a, mk b, mk c] w fun e w' => e = .returned (.bool true) ∧ Below w.heap.size w w' := by
  have h1 : isAhead a b = true := by unfold isAhead; rw [hx]; rfl
  have hy : cm b a = 1 := by rw [cm_anti, hx]; rfl
  have h2 : isAhead b a = false := by unfold isAhead; rw [hy]; rfl
  go_enter Try.func7, Try.ntmps7
  go_wp2
  go_region_held3 (fun w' => Below w.heap.size w w' ∧ w.heap.size + 3 ≤ w'.heap.size ∧
  w'.cell? ⟨w.heap.size, 0, none⟩ = some (.int .u64 a.1) ∧ w'.cell? ⟨w.heap.size, 1, none⟩ = some (.int .i64 a.2.1) ∧ w'.cell? ⟨w.heap.size, 2, none⟩ = some (.int .i64 a.2.2) ∧
  w'.cell? ⟨w.heap.size + 1, 0, none⟩ = some (.int .u64 b.1) ∧ w'.cell? ⟨w.heap.size + 1, 1, none⟩ = some (.int .i64 b.2.1) ∧ w'.cell? ⟨w.heap.size + 1, 2, none⟩ = some (.int .i64 b.2.2) ∧
  w'.cell? ⟨w.heap.size + 2, 0, none⟩ = some (.int .u64 c.1) ∧ w'.cell? ⟨w.heap.size + 2, 1, none⟩ = some (.int .i64 c.2.1) ∧ w'.cell? ⟨w.heap.size + 2, 2, none⟩ = some (.int .i64 c.2.2))
    (first | exact Bx.start w a b c | exact Bx.step (by assumption) (by assumption))
    (first | (go_at_call 19; refine (cmp_any _ _ _).mono ?_; rintro e w' ⟨rfl, hb⟩))
  rename_i hHeld
  have hB : Bx w a b c w' := hHeld
  clear hb
  obtain ⟨_, _, k1, k2, k3, k4, k5, k6, k7, k8, k9⟩ := hHeld
  go_wp2_with (first | (go_at_call 20; refine (less_any _ _ _).mono ?_; rintro e w2 ⟨rfl, hb2⟩; have hB2 := Bx.step hb2 (by assumption); have hH2 := hB2; clear hb2; obtain ⟨_, _, d1, d2, d3, d4, d5, d6, d7, d8, d9⟩ := hH2) | (go_at_call 19; refine (cmp_any _ _ _).mono ?_; rintro e w2 ⟨rfl, hb2⟩; have hB2 := Bx.step hb2 (by assumption); have hH2 := hB2; clear hb2; obtain ⟨_, _, d1, d2, d3, d4, d5, d6, d7, d8, d9⟩ := hH2) | (go_at_call 12; refine (awake_any _).mono ?_; rintro e w' ⟨rfl, rfl⟩))
  all_goals first | (go_ret; exact ⟨rfl, Bx.below (by assumption : Bx w a b c _)⟩) | (exfalso; omega)

set_option maxHeartbeats 4000000 in
set_option maxRecDepth 100000 in
theorem orders_lt2 (a b c : Int × Int × Int) (w : World) (hx : cm a b = -1) (hne : ¬ (a.1 = b.1 ∧ a.2.1 = b.2.1 ∧ a.2.2 = b.2.2)) (hc : cm b c ≤ 0) (hd : cm a c = -1) :
    Calls Try.prog 7 #[mk a, mk b, mk c] w fun e w' => e = .returned (.bool true) ∧ Below w.heap.size w w' := by
  have h1 : isAhead a b = true := by unfold isAhead; rw [hx]; rfl
  have hy : cm b a = 1 := by rw [cm_anti, hx]; rfl
  have h2 : isAhead b a = false := by unfold isAhead; rw [hy]; rfl
  go_enter Try.func7, Try.ntmps7
  go_wp2
  go_region_held3 (fun w' => Below w.heap.size w w' ∧ w.heap.size + 3 ≤ w'.heap.size ∧
  w'.cell? ⟨w.heap.size, 0, none⟩ = some (.int .u64 a.1) ∧ w'.cell? ⟨w.heap.size, 1, none⟩ = some (.int .i64 a.2.1) ∧ w'.cell? ⟨w.heap.size, 2, none⟩ = some (.int .i64 a.2.2) ∧
  w'.cell? ⟨w.heap.size + 1, 0, none⟩ = some (.int .u64 b.1) ∧ w'.cell? ⟨w.heap.size + 1, 1, none⟩ = some (.int .i64 b.2.1) ∧ w'.cell? ⟨w.heap.size + 1, 2, none⟩ = some (.int .i64 b.2.2) ∧
  w'.cell? ⟨w.heap.size + 2, 0, none⟩ = some (.int .u64 c.1) ∧ w'.cell? ⟨w.heap.size + 2, 1, none⟩ = some (.int .i64 c.2.1) ∧ w'.cell? ⟨w.heap.size + 2, 2, none⟩ = some (.int .i64 c.2.2))
    (first | exact Bx.start w a b c | exact Bx.step (by assumption) (by assumption))
    (first | (go_at_call 19; refine (cmp_any _ _ _).mono ?_; rintro e w' ⟨rfl, hb⟩))
  rename_i hHeld
  have hB : Bx w a b c w' := hHeld
  clear hb
  obtain ⟨_, _, k1, k2, k3, k4, k5, k6, k7, k8, k9⟩ := hHeld
  go_wp2_with (first | (go_at_call 20; refine (less_any _ _ _).mono ?_; rintro e w2 ⟨rfl, hb2⟩; have hB2 := Bx.step hb2 (by assumption); have hH2 := hB2; clear hb2; obtain ⟨_, _, d1, d2, d3, d4, d5, d6, d7, d8, d9⟩ := hH2) | (go_at_call 19; refine (cmp_any _ _ _).mono ?_; rintro e w2 ⟨rfl, hb2⟩; have hB2 := Bx.step hb2 (by assumption); have hH2 := hB2; clear hb2; obtain ⟨_, _, d1, d2, d3, d4, d5, d6, d7, d8, d9⟩ := hH2) | (go_at_call 12; refine (awake_any _).mono ?_; rintro e w' ⟨rfl, rfl⟩))
  all_goals first | (go_ret; exact ⟨rfl, Bx.below (by assumption : Bx w a b c _)⟩) | (exfalso; omega)

theorem orders (a b c : Int × Int × Int) (w : World) :
    Calls Try.prog 7 #[mk a, mk b, mk c] w fun e w' => e = .returned (.bool true) ∧ Below w.heap.size w w' := by
  rcases cm_cases a b with ⟨h, hx⟩ | ⟨h, hx⟩ | ⟨h, hx⟩
  · by_cases hc : 0 < cm b c
    · exact orders_lt1 a b c w hx (by omega) hc
    · exact orders_lt2 a b c w hx (by omega) (by omega) (by have := cm_lt a b c (by omega) (by omega); have := cm_bd a c; omega)
  · exact orders_gt a b c w hx (by omega)
  · have := cm_zero a b hx
    subst this
    by_cases hc : 0 < cm a c
    · exact orders_eq1 a c w hc
    · exact orders_eq2 a c w (by omega)
end Go.Proofs.Ytclmbgikikikjaa.hlcF
