/- The contracts of the functions of the hlc layer that reckon with numbers alone, and of the document's own answers: what each answers, for all numbers of their kinds. -/
import Derived.Test.YtclmbgikikikjaaRows
import Derived.WalkKit
import Derived.ProofKit
import Derived.OpenShut
namespace Go.Proofs.Ytclmbgikikikjaa.hlcA
open Go.ChangeShapes Go.WideShapes Go.ChangeAt Go.RowKit

theorem ret_eq {a b : Value} (h : a = b) : Ending.returned a = Ending.returned b := by rw [h]

/-! ### The plain answers -/
def rdB (x : Int) : Bool := decide (0 ≤ x ∧ x ≤ 281474976710655)
theorem rd_iff (x : Int) : rdB x = true ↔ 0 ≤ x ∧ x ≤ 281474976710655 := by simp [rdB]
theorem rd_not (x : Int) : rdB x = false ↔ ¬ (0 ≤ x ∧ x ≤ 281474976710655) := by simp [rdB]
def pkB (m l : Int) : Bool := rdB m && decide (0 ≤ l ∧ l ≤ 65535)
theorem pk_iff (m l : Int) : pkB m l = true ↔ (0 ≤ m ∧ m ≤ 281474976710655) ∧ 0 ≤ l ∧ l ≤ 65535 := by simp [pkB, rdB]
def pkN (m l : Int) : Int := if pkB m l = true then m * 65536 + l else 0
def pkE (m l : Int) : Int := if pkB m l = true then 0 else 1
/-- which of the four answers Send gives: 0 no reading, 1 the reading's stamp, 2 the end, 3 one more -/
def sdW (t m : Int) : Nat := if rdB m = false then 0 else if t < m * 65536 then 1 else if t = 18446744073709551615 then 2 else 3
def sdN (t m : Int) : Int := match sdW t m with | 1 => m * 65536 | 3 => t + 1 | _ => 0
def sdE (t m : Int) : Int := match sdW t m with | 0 => 1 | 2 => 10 | _ => 0
def mx (a b : Int) : Int := if a < b then b else a
def rsN (t m : Int) : Int := if rdB m = true then mx t (m * 65536) else 0
def rsE (m : Int) : Int := if rdB m = true then 0 else 1
theorem mx_bd (a b : Int) (h0 : 0 ≤ a) (h1 : a ≤ 18446744073709551615) (g0 : 0 ≤ b) (g1 : b ≤ 18446744073709551615) : 0 ≤ mx a b ∧ mx a b ≤ 18446744073709551615 := by
  unfold mx; split <;> omega
theorem sd_zero (t m : Int) (h : rdB m = false) : sdN t m = 0 ∧ sdE t m = 1 := by simp [sdN, sdE, sdW, h]
theorem sd_one (t m : Int) (h : rdB m = true) (g : t < m * 65536) : sdN t m = m * 65536 ∧ sdE t m = 0 := by simp [sdN, sdE, sdW, h, g]
theorem sd_two (t m : Int) (h : rdB m = true) (g : ¬ t < m * 65536) (e : t = 18446744073709551615) : sdN t m = 0 ∧ sdE t m = 10 := by
  have e1 : sdW t m = 2 := by unfold sdW; rw [if_neg (by simp [h]), if_neg g, if_pos e]
  simp [sdN, sdE, e1]
theorem sd_three (t m : Int) (h : rdB m = true) (g : ¬ t < m * 65536) (e : ¬ t = 18446744073709551615) : sdN t m = t + 1 ∧ sdE t m = 0 := by
  have e1 : sdW t m = 3 := by unfold sdW; rw [if_neg (by simp [h]), if_neg g, if_neg e]
  simp [sdN, sdE, e1]

/-! ### Bits -/
theorem wraps_u64 (n : Int) (h₀ : 0 ≤ n) (h₁ : n < 2 ^ 64) : IntKind.u64.wrap n = n := by rw [IntKind.wrap_u64]; omega
theorem and_low16 (x : Int) (h0 : 0 ≤ x) (h1 : x ≤ 18446744073709551615) : bits .and .u64 x 65535 = x % 65536 := bits_mask .u64 64 (by decide) wraps_u64 16 (by decide) x h0 (by omega)
theorem or_join (x l : Int) (h0 : 0 ≤ x) (h1 : x ≤ 281474976710655) (g0 : 0 ≤ l) (g1 : l ≤ 65535) : bits .or .u64 (x * 65536) l = x * 65536 + l :=
  bits_join .u64 64 (by decide) wraps_u64 16 _ _ (by omega) (by omega) (by omega) (by omega) (by omega) (by omega)

/-! ### The walks -/
theorem reads_any (x : Int) (w : World) :
    Calls Try.prog 24 #[.int .i64 x] w fun e w' => e = .returned (.bool (rdB x)) ∧ w = w' := by
  go_enter Try.func24, Try.ntmps24
  go_wp2
  all_goals
    go_ret
    exact ⟨ret_eq (by simp [rdB]; omega), rfl⟩

theorem rreads_any (x : Int) (w : World) :
    Calls Try.prog 26 #[.int .i64 x] w fun e w' => e = .returned (.bool (rdB x)) ∧ w = w' := by
  go_enter Try.func26, Try.ntmps26
  go_wp2
  all_goals
    go_ret
    exact ⟨ret_eq (by simp [rdB]; omega), rfl⟩

theorem stamp_in (x : Int) (w : World) (h0 : 0 ≤ x) (h1 : x ≤ 281474976710655) :
    Calls Try.prog 25 #[.int .i64 x] w fun e w' => e = .returned (.int .u64 (x * 65536)) ∧ w = w' := by
  go_enter Try.func25, Try.ntmps25
  go_wp2
  go_ret
  exact ⟨rfl, rfl⟩

theorem split_in (x : Int) (w : World) (h0 : 0 ≤ x) (h1 : x ≤ 18446744073709551615) :
    Calls Try.prog 11 #[.int .u64 x] w fun e w' => e = .returned (.tuple #[.int .i64 (x / 65536), .int .i64 (x % 65536)]) ∧ w = w' := by
  have ha := and_low16 x h0 h1
  go_enter Try.func11, Try.ntmps11
  go_wp2
  go_ret2
  exact ⟨rfl, rfl⟩

theorem pack_any (m l : Int) (w : World) :
    Calls Try.prog 9 #[.int .i64 m, .int .i64 l] w fun e w' => e = .returned (.tuple #[.int .u64 (pkN m l), .int .i64 (pkE m l)]) ∧ w = w' := by
  by_cases hp : pkB m l = true
  · obtain ⟨⟨h0, h1⟩, g0, g1⟩ := (pk_iff m l).1 hp
    have hr : rdB m = true := (rd_iff m).2 ⟨h0, h1⟩
    have ho := or_join m l h0 h1 g0 g1
    have e1 : pkN m l = m * 65536 + l := by simp [pkN, hp]
    have e2 : pkE m l = 0 := by simp [pkE, hp]
    rw [e1, e2]
    clear e1 e2 hp
    go_enter Try.func9, Try.ntmps9
    go_wp2_with (first | (go_at_call 24; refine (reads_any _ _).mono ?_; rintro e w' ⟨rfl, rfl⟩) | (go_at_call 25; refine (stamp_in _ _ h0 h1).mono ?_; rintro e w' ⟨rfl, rfl⟩))
    go_ret2
    exact ⟨rfl, rfl⟩
  · have hn : ¬ ((0 ≤ m ∧ m ≤ 281474976710655) ∧ 0 ≤ l ∧ l ≤ 65535) := fun h => hp ((pk_iff m l).2 h)
    have e1 : pkN m l = 0 := by simp [pkN, hp]
    have e2 : pkE m l = 1 := by simp [pkE, hp]
    rw [e1, e2]
    clear e1 e2 hp
    by_cases hr : rdB m = true
    · have h := (rd_iff m).1 hr
      have hn2 : l < 0 ∨ 65535 < l := by omega
      clear hn
      rcases hn2 with hn2 | hn2
      all_goals
        go_enter Try.func9, Try.ntmps9
        go_wp2_with ((go_at_call 24; refine (reads_any _ _).mono ?_; rintro e w' ⟨rfl, rfl⟩))
        go_ret2
        exact ⟨rfl, rfl⟩
    · replace hr : rdB m = false := by simpa using hr
      clear hn
      go_enter Try.func9, Try.ntmps9
      go_wp2_with ((go_at_call 24; refine (reads_any _ _).mono ?_; rintro e w' ⟨rfl, rfl⟩))
      go_ret2
      exact ⟨rfl, rfl⟩

theorem rpack_any (m l : Int) (w : World) :
    Calls Try.prog 10 #[.int .i64 m, .int .i64 l] w fun e w' => e = .returned (.tuple #[.int .u64 (pkN m l), .int .i64 (pkE m l)]) ∧ w = w' := by
  by_cases hp : pkB m l = true
  · obtain ⟨⟨h0, h1⟩, g0, g1⟩ := (pk_iff m l).1 hp
    have hr : rdB m = true := (rd_iff m).2 ⟨h0, h1⟩
    have e1 : pkN m l = m * 65536 + l := by simp [pkN, hp]
    have e2 : pkE m l = 0 := by simp [pkE, hp]
    rw [e1, e2]
    clear e1 e2 hp
    go_enter Try.func10, Try.ntmps10
    go_wp2_with ((go_at_call 26; refine (rreads_any _ _).mono ?_; rintro e w' ⟨rfl, rfl⟩))
    go_ret2
    exact ⟨rfl, rfl⟩
  · have hn : ¬ ((0 ≤ m ∧ m ≤ 281474976710655) ∧ 0 ≤ l ∧ l ≤ 65535) := fun h => hp ((pk_iff m l).2 h)
    have e1 : pkN m l = 0 := by simp [pkN, hp]
    have e2 : pkE m l = 1 := by simp [pkE, hp]
    rw [e1, e2]
    clear e1 e2 hp
    by_cases hr : rdB m = true
    · have h := (rd_iff m).1 hr
      have hn2 : l < 0 ∨ 65535 < l := by omega
      clear hn
      rcases hn2 with hn2 | hn2
      all_goals
        go_enter Try.func10, Try.ntmps10
        go_wp2_with ((go_at_call 26; refine (rreads_any _ _).mono ?_; rintro e w' ⟨rfl, rfl⟩))
        go_ret2
        exact ⟨rfl, rfl⟩
    · replace hr : rdB m = false := by simpa using hr
      clear hn
      go_enter Try.func10, Try.ntmps10
      go_wp2_with ((go_at_call 26; refine (rreads_any _ _).mono ?_; rintro e w' ⟨rfl, rfl⟩))
      go_ret2
      exact ⟨rfl, rfl⟩

theorem awake_any (w : World) :
    Calls Try.prog 12 #[] w fun e w' => e = .returned (.bool true) ∧ w = w' := by
  have hN : pkN 1 2 = 65538 := by decide
  have hE : pkE 1 2 = 0 := by decide
  go_enter Try.func12, Try.ntmps12
  go_wp2_with ((go_at_call 9; refine (pack_any _ _ _).mono ?_; rintro e w' ⟨rfl, rfl⟩))
  go_ret
  exact ⟨rfl, rfl⟩

theorem send_any (t m : Int) (w : World) (t0 : 0 ≤ t) (t1 : t ≤ 18446744073709551615) :
    Calls Try.prog 13 #[.int .u64 t, .int .i64 m] w fun e w' => e = .returned (.tuple #[.int .u64 (sdN t m), .int .i64 (sdE t m)]) ∧ w = w' := by
  by_cases hr : rdB m = true
  · obtain ⟨h0, h1⟩ := (rd_iff m).1 hr
    by_cases hg : t < m * 65536
    · obtain ⟨e1, e2⟩ := sd_one t m hr hg
      rw [e1, e2]
      clear e1 e2
      go_enter Try.func13, Try.ntmps13
      go_wp2_with (first | (go_at_call 24; refine (reads_any _ _).mono ?_; rintro e w' ⟨rfl, rfl⟩) | (go_at_call 25; refine (stamp_in _ _ h0 h1).mono ?_; rintro e w' ⟨rfl, rfl⟩))
      go_ret2
      exact ⟨rfl, rfl⟩
    · by_cases he : t = 18446744073709551615
      · obtain ⟨e1, e2⟩ := sd_two t m hr hg he
        rw [e1, e2]
        clear e1 e2
        subst he
        go_enter Try.func13, Try.ntmps13
        go_wp2_with (first | (go_at_call 24; refine (reads_any _ _).mono ?_; rintro e w' ⟨rfl, rfl⟩) | (go_at_call 25; refine (stamp_in _ _ h0 h1).mono ?_; rintro e w' ⟨rfl, rfl⟩))
        go_ret2
        exact ⟨rfl, rfl⟩
      · obtain ⟨e1, e2⟩ := sd_three t m hr hg he
        rw [e1, e2]
        clear e1 e2
        have he' : (t == 18446744073709551615) = false := by simpa using he
        have hlt : t ≤ 18446744073709551614 := by omega
        clear he
        go_enter Try.func13, Try.ntmps13
        go_wp2_with (first | (go_at_call 24; refine (reads_any _ _).mono ?_; rintro e w' ⟨rfl, rfl⟩) | (go_at_call 25; refine (stamp_in _ _ h0 h1).mono ?_; rintro e w' ⟨rfl, rfl⟩))
        go_ret2
        exact ⟨rfl, rfl⟩
  · replace hr : rdB m = false := by simpa using hr
    obtain ⟨e1, e2⟩ := sd_zero t m hr
    rw [e1, e2]
    clear e1 e2
    go_enter Try.func13, Try.ntmps13
    go_wp2_with ((go_at_call 24; refine (reads_any _ _).mono ?_; rintro e w' ⟨rfl, rfl⟩))
    go_ret2
    exact ⟨rfl, rfl⟩

theorem rsend_any (t m : Int) (w : World) (t0 : 0 ≤ t) (t1 : t ≤ 18446744073709551615) :
    Calls Try.prog 14 #[.int .u64 t, .int .i64 m] w fun e w' => e = .returned (.tuple #[.int .u64 (sdN t m), .int .i64 (sdE t m)]) ∧ w = w' := by
  by_cases hr : rdB m = true
  · obtain ⟨h0, h1⟩ := (rd_iff m).1 hr
    by_cases hg : t < m * 65536
    · obtain ⟨e1, e2⟩ := sd_one t m hr hg
      rw [e1, e2]
      clear e1 e2
      go_enter Try.func14, Try.ntmps14
      go_wp2_with ((go_at_call 26; refine (rreads_any _ _).mono ?_; rintro e w' ⟨rfl, rfl⟩))
      go_ret2
      exact ⟨rfl, rfl⟩
    · by_cases he : t = 18446744073709551615
      · obtain ⟨e1, e2⟩ := sd_two t m hr hg he
        rw [e1, e2]
        clear e1 e2
        subst he
        go_enter Try.func14, Try.ntmps14
        go_wp2_with ((go_at_call 26; refine (rreads_any _ _).mono ?_; rintro e w' ⟨rfl, rfl⟩))
        go_ret2
        exact ⟨rfl, rfl⟩
      · obtain ⟨e1, e2⟩ := sd_three t m hr hg he
        rw [e1, e2]
        clear e1 e2
        have he' : (t == 18446744073709551615) = false := by simpa using he
        have hlt : t ≤ 18446744073709551614 := by omega
        clear he
        go_enter Try.func14, Try.ntmps14
        go_wp2_with ((go_at_call 26; refine (rreads_any _ _).mono ?_; rintro e w' ⟨rfl, rfl⟩))
        go_ret2
        exact ⟨rfl, rfl⟩
  · replace hr : rdB m = false := by simpa using hr
    obtain ⟨e1, e2⟩ := sd_zero t m hr
    rw [e1, e2]
    clear e1 e2
    go_enter Try.func14, Try.ntmps14
    go_wp2_with ((go_at_call 26; refine (rreads_any _ _).mono ?_; rintro e w' ⟨rfl, rfl⟩))
    go_ret2
    exact ⟨rfl, rfl⟩

theorem recv_any (t g m : Int) (w : World) (t0 : 0 ≤ t) (t1 : t ≤ 18446744073709551615) (g0 : 0 ≤ g) (g1 : g ≤ 18446744073709551615) :
    Calls Try.prog 15 #[.int .u64 t, .int .u64 g, .int .i64 m] w fun e w' => e = .returned (.tuple #[.int .u64 (sdN (mx t g) m), .int .i64 (sdE (mx t g) m)]) ∧ w = w' := by
  by_cases h : t < g
  · have e1 : mx t g = g := by simp [mx, h]
    rw [e1]
    clear e1
    go_enter Try.func15, Try.ntmps15
    go_wp2_with ((go_at_call 13; refine (send_any _ _ _ (by omega) (by omega)).mono ?_; rintro e w' ⟨rfl, rfl⟩))
    go_ret2
    exact ⟨rfl, rfl⟩
  · have e1 : mx t g = t := by simp [mx, h]
    rw [e1]
    clear e1
    go_enter Try.func15, Try.ntmps15
    go_wp2_with ((go_at_call 13; refine (send_any _ _ _ (by omega) (by omega)).mono ?_; rintro e w' ⟨rfl, rfl⟩))
    go_ret2
    exact ⟨rfl, rfl⟩

theorem rrecv_any (t g m : Int) (w : World) (t0 : 0 ≤ t) (t1 : t ≤ 18446744073709551615) (g0 : 0 ≤ g) (g1 : g ≤ 18446744073709551615) :
    Calls Try.prog 16 #[.int .u64 t, .int .u64 g, .int .i64 m] w fun e w' => e = .returned (.tuple #[.int .u64 (sdN (mx t g) m), .int .i64 (sdE (mx t g) m)]) ∧ w = w' := by
  by_cases h : t < g
  · have e1 : mx t g = g := by simp [mx, h]
    rw [e1]
    clear e1
    go_enter Try.func16, Try.ntmps16
    go_wp2_with ((go_at_call 14; refine (rsend_any _ _ _ (by omega) (by omega)).mono ?_; rintro e w' ⟨rfl, rfl⟩))
    go_ret2
    exact ⟨rfl, rfl⟩
  · have e1 : mx t g = t := by simp [mx, h]
    rw [e1]
    clear e1
    go_enter Try.func16, Try.ntmps16
    go_wp2_with ((go_at_call 14; refine (rsend_any _ _ _ (by omega) (by omega)).mono ?_; rintro e w' ⟨rfl, rfl⟩))
    go_ret2
    exact ⟨rfl, rfl⟩

theorem raise_any (t m : Int) (w : World) :
    Calls Try.prog 17 #[.int .u64 t, .int .i64 m] w fun e w' => e = .returned (.tuple #[.int .u64 (rsN t m), .int .i64 (rsE m)]) ∧ w = w' := by
  by_cases hr : rdB m = true
  · obtain ⟨h0, h1⟩ := (rd_iff m).1 hr
    have e2 : rsE m = 0 := by simp [rsE, hr]
    by_cases hg : t < m * 65536
    · have e1 : rsN t m = m * 65536 := by simp [rsN, hr, mx, hg]
      rw [e1, e2]
      clear e1 e2
      go_enter Try.func17, Try.ntmps17
      go_wp2_with (first | (go_at_call 24; refine (reads_any _ _).mono ?_; rintro e w' ⟨rfl, rfl⟩) | (go_at_call 25; refine (stamp_in _ _ h0 h1).mono ?_; rintro e w' ⟨rfl, rfl⟩))
      go_ret2
      exact ⟨rfl, rfl⟩
    · have e1 : rsN t m = t := by simp [rsN, hr, mx, hg]
      rw [e1, e2]
      clear e1 e2
      go_enter Try.func17, Try.ntmps17
      go_wp2_with (first | (go_at_call 24; refine (reads_any _ _).mono ?_; rintro e w' ⟨rfl, rfl⟩) | (go_at_call 25; refine (stamp_in _ _ h0 h1).mono ?_; rintro e w' ⟨rfl, rfl⟩))
      go_ret2
      exact ⟨rfl, rfl⟩
  · replace hr : rdB m = false := by simpa using hr
    have e1 : rsN t m = 0 := by simp [rsN, hr]
    have e2 : rsE m = 1 := by simp [rsE, hr]
    rw [e1, e2]
    clear e1 e2
    go_enter Try.func17, Try.ntmps17
    go_wp2_with ((go_at_call 24; refine (reads_any _ _).mono ?_; rintro e w' ⟨rfl, rfl⟩))
    go_ret2
    exact ⟨rfl, rfl⟩

theorem rraise_any (t m : Int) (w : World) :
    Calls Try.prog 18 #[.int .u64 t, .int .i64 m] w fun e w' => e = .returned (.tuple #[.int .u64 (rsN t m), .int .i64 (rsE m)]) ∧ w = w' := by
  by_cases hr : rdB m = true
  · obtain ⟨h0, h1⟩ := (rd_iff m).1 hr
    have e2 : rsE m = 0 := by simp [rsE, hr]
    by_cases hg : t < m * 65536
    · have e1 : rsN t m = m * 65536 := by simp [rsN, hr, mx, hg]
      rw [e1, e2]
      clear e1 e2
      go_enter Try.func18, Try.ntmps18
      go_wp2_with ((go_at_call 26; refine (rreads_any _ _).mono ?_; rintro e w' ⟨rfl, rfl⟩))
      go_ret2
      exact ⟨rfl, rfl⟩
    · have e1 : rsN t m = t := by simp [rsN, hr, mx, hg]
      rw [e1, e2]
      clear e1 e2
      go_enter Try.func18, Try.ntmps18
      go_wp2_with ((go_at_call 26; refine (rreads_any _ _).mono ?_; rintro e w' ⟨rfl, rfl⟩))
      go_ret2
      exact ⟨rfl, rfl⟩
  · replace hr : rdB m = false := by simpa using hr
    have e1 : rsN t m = 0 := by simp [rsN, hr]
    have e2 : rsE m = 1 := by simp [rsE, hr]
    rw [e1, e2]
    clear e1 e2
    go_enter Try.func18, Try.ntmps18
    go_wp2_with ((go_at_call 26; refine (rreads_any _ _).mono ?_; rintro e w' ⟨rfl, rfl⟩))
    go_ret2
    exact ⟨rfl, rfl⟩
end Go.Proofs.Ytclmbgikikikjaa.hlcA
