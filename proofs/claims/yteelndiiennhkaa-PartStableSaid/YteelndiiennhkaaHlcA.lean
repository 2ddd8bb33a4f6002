/- The contracts of the functions of the hlc layer that reckon with numbers alone, and of the document's own answers: what each answers, for all numbers of their kinds. -/
import Derived.Test.YteelndiiennhkaaRows
import Derived.WalkKit
import Derived.ProofKit
import Derived.OpenShut
namespace Go.Proofs.Yteelndiiennhkaa.hlcA
open Go.ChangeShapes Go.WideShapes Go.ChangeAt Go.RowKit

theorem ret_eq {a b : Value} (h : a = b) : Ending.returned a = Ending.returned b := by rw [h]

/-! ### The plain answers -/
def rdB (x : Int) : Bool := decide (0 ≤ x ∧ x ≤ 281474976710655)
theorem rd_iff (x : Int) : rdB x = true ↔ 0 ≤ x ∧ x ≤ 281474976710655 := by simp [rdB]
theorem rd_not (x : Int) : rdB x = false ↔ ¬ (0 ≤ x ∧ x ≤ 281474976710655) := by simp [rdB]
def pkB (m l : Int) : Bool := rdB m && decide (0 ≤ l ∧ l ≤ 65535)
theorem pk_iff (m l : Int) : pkB m l = true ↔ (0 ≤ m ∧ m ≤ 281474976710655) ∧ 0 ≤ l ∧ l ≤ 65535 := by simp [pkB, rdB]
def pkN (m l : Int) : Int := if pkB m l = true then m * 65536 + l else 0
def pkE (m l : Int) : Int := if pkB m l = true then 0 else 1
/-- which of the four answers Send gives: 0 no reading, 1 the reading's stamp, 2 the end, 3 one more -/
def sdW (t m : Int) : Nat := if rdB m = false then 0 else if t < m * 65536 then 1 else if t = 18446744073709551615 then 2 else 3
def sdN (t m : Int) : Int := match sdW t m with | 1 => m * 65536 | 3 => t + 1 | _ => 0
def sdE (t m : Int) : Int := match sdW t m with | 0 => 1 | 2 => 10 | _ => 0
def mx (a b : Int) : Int := if a < b then b else a
def rsN (t m : Int) : Int := if rdB m = true then mx t (m * 65536) else 0
def rsE (m : Int) : Int := if rdB m = true then 0 else 1
theorem mx_bd (a b : Int) (h0 : 0 ≤ a) (h1 : a ≤ 18446744073709551615) (g0 : 0 ≤ b) (g1 : b ≤ 18446744073709551615) : 0 ≤ mx a b ∧ mx a b ≤ 18446744073709551615 := by
  unfold mx; split <;> omega
theorem sd_zero (t m : Int) (h : rdB m = false) : sdN t m = 0 ∧ sdE t m = 1 := by simp [sdN, sdE, sdW, h]
theorem sd_one (t m : Int) (h : rdB m = true) (g : t < m * 65536) : sdN t m = m * 65536 ∧ sdE t m = 0 := by simp [sdN, sdE, sdW, h, g]
theorem sd_two (t m : Int) (h : rdB m = true) (g : ¬ t < m * 65536) (e : t = 18446744073709551615) : sdN t m = 0 ∧ sdE t m = 10 := by
  have e1 : sdW t m = 2 := by unfold sdW; rw [if_neg (by simp [h]), if_neg g, if_pos e]
  simp [sdN, sdE, e1]
theorem sd_three (t m : Int) (h : rdB m = true) (g : ¬ t < m * 65536) (e : ¬ t = 18446744073709551615) : sdN t m = t + 1 ∧ sdE t m = 0 := by
  have e1 : sdW t m = 3 := by unfold sdW; rw [if_neg (by simp [h]), if_neg g, if_neg e]
  simp [sdN, sdE, e1]

/-! ### Bits -/
theorem wraps_u64 (n : Int) (h₀ : 0 ≤ n) (h₁ : n < 2 ^ 64) : IntKind.u64.wrap n = n := by rw [IntKind.wrap_u64]; omega
/-! ### The walks -/
theorem reads_any (x : Int) (w : World) :
    Calls Try.prog 27 #[.int .i64 x] w fun e w' => e = .returned (.bool (rdB x)) ∧ w = w' := by
  go_enter Try.func27, Try.ntmps27
  go_wp2
  all_goals
    go_ret
    exact ⟨ret_eq (by simp [rdB]; omega), rfl⟩

theorem rreads_any (x : Int) (w : World) :
    Calls Try.prog 23 #[.int .i64 x] w fun e w' => e = .returned (.bool (rdB x)) ∧ w = w' := by
  go_enter Try.func23, Try.ntmps23
  go_wp2
  all_goals
    go_ret
    exact ⟨ret_eq (by simp [rdB]; omega), rfl⟩

theorem stamp_in (x : Int) (w : World) (h0 : 0 ≤ x) (h1 : x ≤ 281474976710655) :
    Calls Try.prog 28 #[.int .i64 x] w fun e w' => e = .returned (.int .u64 (x * 65536)) ∧ w = w' := by
  go_enter Try.func28, Try.ntmps28
  go_wp2
  go_ret
  exact ⟨rfl, rfl⟩

theorem send_any (t m : Int) (w : World) (t0 : 0 ≤ t) (t1 : t ≤ 18446744073709551615) :
    Calls Try.prog 25 #[.int .u64 t, .int .i64 m] w fun e w' => e = .returned (.tuple #[.int .u64 (sdN t m), .int .i64 (sdE t m)]) ∧ w = w' := by
  by_cases hr : rdB m = true
  · obtain ⟨h0, h1⟩ := (rd_iff m).1 hr
    by_cases hg : t < m * 65536
    · obtain ⟨e1, e2⟩ := sd_one t m hr hg
      rw [e1, e2]
      clear e1 e2
      go_enter Try.func25, Try.ntmps25
      go_wp2_with (first | (go_at_call 27; refine (reads_any _ _).mono ?_; rintro e w' ⟨rfl, rfl⟩) | (go_at_call 28; refine (stamp_in _ _ h0 h1).mono ?_; rintro e w' ⟨rfl, rfl⟩))
      go_ret2
      exact ⟨rfl, rfl⟩
    · by_cases he : t = 18446744073709551615
      · obtain ⟨e1, e2⟩ := sd_two t m hr hg he
        rw [e1, e2]
        clear e1 e2
        subst he
        go_enter Try.func25, Try.ntmps25
        go_wp2_with (first | (go_at_call 27; refine (reads_any _ _).mono ?_; rintro e w' ⟨rfl, rfl⟩) | (go_at_call 28; refine (stamp_in _ _ h0 h1).mono ?_; rintro e w' ⟨rfl, rfl⟩))
        go_ret2
        exact ⟨rfl, rfl⟩
      · obtain ⟨e1, e2⟩ := sd_three t m hr hg he
        rw [e1, e2]
        clear e1 e2
        have he' : (t == 18446744073709551615) = false := by simpa using he
        have hlt : t ≤ 18446744073709551614 := by omega
        clear he
        go_enter Try.func25, Try.ntmps25
        go_wp2_with (first | (go_at_call 27; refine (reads_any _ _).mono ?_; rintro e w' ⟨rfl, rfl⟩) | (go_at_call 28; refine (stamp_in _ _ h0 h1).mono ?_; rintro e w' ⟨rfl, rfl⟩))
        go_ret2
        exact ⟨rfl, rfl⟩
  · replace hr : rdB m = false := by simpa using hr
    obtain ⟨e1, e2⟩ := sd_zero t m hr
    rw [e1, e2]
    clear e1 e2
    go_enter Try.func25, Try.ntmps25
    go_wp2_with ((go_at_call 27; refine (reads_any _ _).mono ?_; rintro e w' ⟨rfl, rfl⟩))
    go_ret2
    exact ⟨rfl, rfl⟩

theorem rsend_any (t m : Int) (w : World) (t0 : 0 ≤ t) (t1 : t ≤ 18446744073709551615) :
    Calls Try.prog 26 #[.int .u64 t, .int .i64 m] w fun e w' => e = .returned (.tuple #[.int .u64 (sdN t m), .int .i64 (sdE t m)]) ∧ w = w' := by
  by_cases hr : rdB m = true
  · obtain ⟨h0, h1⟩ := (rd_iff m).1 hr
    by_cases hg : t < m * 65536
    · obtain ⟨e1, e2⟩ := sd_one t m hr hg
      rw [e1, e2]
      clear e1 e2
      go_enter Try.func26, Try.ntmps26
      go_wp2_with ((go_at_call 23; refine (rreads_any _ _).mono ?_; rintro e w' ⟨rfl, rfl⟩))
      go_ret2
      exact ⟨rfl, rfl⟩
    · by_cases he : t = 18446744073709551615
      · obtain ⟨e1, e2⟩ := sd_two t m hr hg he
        rw [e1, e2]
        clear e1 e2
        subst he
        go_enter Try.func26, Try.ntmps26
        go_wp2_with ((go_at_call 23; refine (rreads_any _ _).mono ?_; rintro e w' ⟨rfl, rfl⟩))
        go_ret2
        exact ⟨rfl, rfl⟩
      · obtain ⟨e1, e2⟩ := sd_three t m hr hg he
        rw [e1, e2]
        clear e1 e2
        have he' : (t == 18446744073709551615) = false := by simpa using he
        have hlt : t ≤ 18446744073709551614 := by omega
        clear he
        go_enter Try.func26, Try.ntmps26
        go_wp2_with ((go_at_call 23; refine (rreads_any _ _).mono ?_; rintro e w' ⟨rfl, rfl⟩))
        go_ret2
        exact ⟨rfl, rfl⟩
  · replace hr : rdB m = false := by simpa using hr
    obtain ⟨e1, e2⟩ := sd_zero t m hr
    rw [e1, e2]
    clear e1 e2
    go_enter Try.func26, Try.ntmps26
    go_wp2_with ((go_at_call 23; refine (rreads_any _ _).mono ?_; rintro e w' ⟨rfl, rfl⟩))
    go_ret2
    exact ⟨rfl, rfl⟩

theorem recv_any (t g m : Int) (w : World) (t0 : 0 ≤ t) (t1 : t ≤ 18446744073709551615) (g0 : 0 ≤ g) (g1 : g ≤ 18446744073709551615) :
    Calls Try.prog 19 #[.int .u64 t, .int .u64 g, .int .i64 m] w fun e w' => e = .returned (.tuple #[.int .u64 (sdN (mx t g) m), .int .i64 (sdE (mx t g) m)]) ∧ w = w' := by
  by_cases h : t < g
  · have e1 : mx t g = g := by simp [mx, h]
    rw [e1]
    clear e1
    go_enter Try.func19, Try.ntmps19
    go_wp2_with ((go_at_call 25; refine (send_any _ _ _ (by omega) (by omega)).mono ?_; rintro e w' ⟨rfl, rfl⟩))
    go_ret2
    exact ⟨rfl, rfl⟩
  · have e1 : mx t g = t := by simp [mx, h]
    rw [e1]
    clear e1
    go_enter Try.func19, Try.ntmps19
    go_wp2_with ((go_at_call 25; refine (send_any _ _ _ (by omega) (by omega)).mono ?_; rintro e w' ⟨rfl, rfl⟩))
    go_ret2
    exact ⟨rfl, rfl⟩

theorem rrecv_any (t g m : Int) (w : World) (t0 : 0 ≤ t) (t1 : t ≤ 18446744073709551615) (g0 : 0 ≤ g) (g1 : g ≤ 18446744073709551615) :
    Calls Try.prog 21 #[.int .u64 t, .int .u64 g, .int .i64 m] w fun e w' => e = .returned (.tuple #[.int .u64 (sdN (mx t g) m), .int .i64 (sdE (mx t g) m)]) ∧ w = w' := by
  by_cases h : t < g
  · have e1 : mx t g = g := by simp [mx, h]
    rw [e1]
    clear e1
    go_enter Try.func21, Try.ntmps21
    go_wp2_with ((go_at_call 26; refine (rsend_any _ _ _ (by omega) (by omega)).mono ?_; rintro e w' ⟨rfl, rfl⟩))
    go_ret2
    exact ⟨rfl, rfl⟩
  · have e1 : mx t g = t := by simp [mx, h]
    rw [e1]
    clear e1
    go_enter Try.func21, Try.ntmps21
    go_wp2_with ((go_at_call 26; refine (rsend_any _ _ _ (by omega) (by omega)).mono ?_; rintro e w' ⟨rfl, rfl⟩))
    go_ret2
    exact ⟨rfl, rfl⟩

theorem raise_any (t m : Int) (w : World) :
    Calls Try.prog 22 #[.int .u64 t, .int .i64 m] w fun e w' => e = .returned (.tuple #[.int .u64 (rsN t m), .int .i64 (rsE m)]) ∧ w = w' := by
  by_cases hr : rdB m = true
  · obtain ⟨h0, h1⟩ := (rd_iff m).1 hr
    have e2 : rsE m = 0 := by simp [rsE, hr]
    by_cases hg : t < m * 65536
    · have e1 : rsN t m = m * 65536 := by simp [rsN, hr, mx, hg]
      rw [e1, e2]
      clear e1 e2
      go_enter Try.func22, Try.ntmps22
      go_wp2_with (first | (go_at_call 27; refine (reads_any _ _).mono ?_; rintro e w' ⟨rfl, rfl⟩) | (go_at_call 28; refine (stamp_in _ _ h0 h1).mono ?_; rintro e w' ⟨rfl, rfl⟩))
      go_ret2
      exact ⟨rfl, rfl⟩
    · have e1 : rsN t m = t := by simp [rsN, hr, mx, hg]
      rw [e1, e2]
      clear e1 e2
      go_enter Try.func22, Try.ntmps22
      go_wp2_with (first | (go_at_call 27; refine (reads_any _ _).mono ?_; rintro e w' ⟨rfl, rfl⟩) | (go_at_call 28; refine (stamp_in _ _ h0 h1).mono ?_; rintro e w' ⟨rfl, rfl⟩))
      go_ret2
      exact ⟨rfl, rfl⟩
  · replace hr : rdB m = false := by simpa using hr
    have e1 : rsN t m = 0 := by simp [rsN, hr]
    have e2 : rsE m = 1 := by simp [rsE, hr]
    rw [e1, e2]
    clear e1 e2
    go_enter Try.func22, Try.ntmps22
    go_wp2_with ((go_at_call 27; refine (reads_any _ _).mono ?_; rintro e w' ⟨rfl, rfl⟩))
    go_ret2
    exact ⟨rfl, rfl⟩

theorem rraise_any (t m : Int) (w : World) :
    Calls Try.prog 24 #[.int .u64 t, .int .i64 m] w fun e w' => e = .returned (.tuple #[.int .u64 (rsN t m), .int .i64 (rsE m)]) ∧ w = w' := by
  by_cases hr : rdB m = true
  · obtain ⟨h0, h1⟩ := (rd_iff m).1 hr
    have e2 : rsE m = 0 := by simp [rsE, hr]
    by_cases hg : t < m * 65536
    · have e1 : rsN t m = m * 65536 := by simp [rsN, hr, mx, hg]
      rw [e1, e2]
      clear e1 e2
      go_enter Try.func24, Try.ntmps24
      go_wp2_with ((go_at_call 23; refine (rreads_any _ _).mono ?_; rintro e w' ⟨rfl, rfl⟩))
      go_ret2
      exact ⟨rfl, rfl⟩
    · have e1 : rsN t m = t := by simp [rsN, hr, mx, hg]
      rw [e1, e2]
      clear e1 e2
      go_enter Try.func24, Try.ntmps24
      go_wp2_with ((go_at_call 23; refine (rreads_any _ _).mono ?_; rintro e w' ⟨rfl, rfl⟩))
      go_ret2
      exact ⟨rfl, rfl⟩
  · replace hr : rdB m = false := by simpa using hr
    have e1 : rsN t m = 0 := by simp [rsN, hr]
    have e2 : rsE m = 1 := by simp [rsE, hr]
    rw [e1, e2]
    clear e1 e2
    go_enter Try.func24, Try.ntmps24
    go_wp2_with ((go_at_call 23; refine (rreads_any _ _).mono ?_; rintro e w' ⟨rfl, rfl⟩))
    go_ret2
    exact ⟨rfl, rfl⟩
end Go.Proofs.Yteelndiiennhkaa.hlcA
