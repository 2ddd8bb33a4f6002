/- The walk of the statement WireAgrees. -/
import Derived.Test.YtkbhmeajgmecoaaWirN
namespace Go.Proofs.Ytkbhmeajgmecoaa.wirO
open Go.ChangeShapes Go.WideShapes Go.ChangeAt Go.RowKit
open numM numN rowA byt numA numB numC numD numE wirM wirA wirN

def agr (a b : Int) : Int := if (a = 1 ∨ a = 2 ∨ a = 3) ∧ (b = 1 ∨ b = 2 ∨ b = 3) then (if a ≠ 1 ∧ b ≠ 1 then 2 else if a ≠ 3 ∧ b ≠ 3 then 1 else 0) else 0
def tks (m v : Int) : Bool := decide ((m = 1 ∧ v = 1) ∨ (m = 2 ∧ (v = 1 ∨ v = 2)) ∨ (m = 3 ∧ v = 2))
def mod (a : Int) : Bool := decide (a = 1 ∨ a = 2 ∨ a = 3)
theorem mode_cases (a : Int) : a = 1 ∨ a = 2 ∨ a = 3 ∨ ((a == 1) = false ∧ (a == 2) = false ∧ (a == 3) = false) := by
  simp only [beq_eq_false_iff_ne]; omega
theorem isMode_any (a : Int) (w : World) : Calls Try.prog 43 #[.int .i64 a] w fun e w' => e = .returned (.bool (mod a)) ∧ w = w' := by
  rcases mode_cases a with rfl | rfl | rfl | ⟨h1, h2, h3⟩
  all_goals
    go_enter Try.func43, Try.ntmps43
    go_wp2
    go_ret
    refine ⟨ret_eq (congrArg Value.bool ?_), rfl⟩
    first | rfl | (simp only [beq_eq_false_iff_ne] at *; unfold mod; simp [*])
theorem isMode_yes (a : Int) (w : World) (h : mod a = true) : Calls Try.prog 43 #[.int .i64 a] w fun e w' => e = .returned (.bool true) ∧ w = w' := by rw [← h]; exact isMode_any a w
theorem isMode_no (a : Int) (w : World) (h : mod a = false) : Calls Try.prog 43 #[.int .i64 a] w fun e w' => e = .returned (.bool false) ∧ w = w' := by rw [← h]; exact isMode_any a w
theorem takes_any (a v : Int) (w : World) : Calls Try.prog 25 #[.int .i64 a, .int .i64 v] w fun e w' => e = .returned (.bool (tks a v)) ∧ w = w' := by
  rcases mode_cases a with rfl | rfl | rfl | ⟨h1, h2, h3⟩ <;> rcases mode_cases v with rfl | rfl | rfl | ⟨g1, g2, g3⟩
  all_goals
    go_enter Try.func25, Try.ntmps25
    go_wp2
    go_ret
    refine ⟨ret_eq (congrArg Value.bool ?_), rfl⟩
    first | rfl | (simp only [beq_eq_false_iff_ne] at *; unfold tks; simp [*])
theorem rtakes_any (a v : Int) (w : World) : Calls Try.prog 26 #[.int .i64 a, .int .i64 v] w fun e w' => e = .returned (.bool (tks a v)) ∧ w = w' := by
  rcases mode_cases a with rfl | rfl | rfl | ⟨h1, h2, h3⟩ <;> rcases mode_cases v with rfl | rfl | rfl | ⟨g1, g2, g3⟩
  all_goals
    try (by_cases hav : a = v; · subst hav)
    all_goals
      try have hav2 : (a == v) = false := beq_eq_false_iff_ne.2 (by assumption)
      go_enter Try.func26, Try.ntmps26
      go_wp2
      all_goals
        go_ret
        refine ⟨ret_eq (congrArg Value.bool ?_), rfl⟩
        first | rfl | (simp only [beq_eq_false_iff_ne] at *; unfold tks; simp [*])
theorem agree_any (a b : Int) (w : World) : Calls Try.prog 23 #[.int .i64 a, .int .i64 b] w fun e w' => e = .returned (.int .i64 (agr a b)) ∧ w = w' := by
  rcases mode_cases a with rfl | rfl | rfl | ⟨h1, h2, h3⟩ <;> rcases mode_cases b with rfl | rfl | rfl | ⟨g1, g2, g3⟩
  all_goals
    go_enter Try.func23, Try.ntmps23
    go_wp2
    go_ret
    refine ⟨ret_eq (congrArg (Value.int .i64) ?_), rfl⟩
    first | rfl | (simp only [beq_eq_false_iff_ne] at *; unfold agr; simp [*])
theorem ragree_any (a b : Int) (w : World) : Calls Try.prog 24 #[.int .i64 a, .int .i64 b] w fun e w' => e = .returned (.int .i64 (agr a b)) ∧ w = w' := by
  have ha : a = 1 ∨ a = 2 ∨ a = 3 ∨ a < 1 ∨ 3 < a := by omega
  have hb : b = 1 ∨ b = 2 ∨ b = 3 ∨ b < 1 ∨ 3 < b := by omega
  rcases ha with rfl | rfl | rfl | h1 | h1 <;> rcases hb with rfl | rfl | rfl | g1 | g1
  all_goals
    go_enter Try.func24, Try.ntmps24
    go_wp2
    all_goals (try (exfalso; omega))
    all_goals
      go_ret
      refine ⟨ret_eq (congrArg (Value.int .i64) ?_), rfl⟩
      first | rfl | (unfold agr; (try rw [if_neg (by omega)]); (try rfl))
theorem agr_comm (a b : Int) : agr a b = agr b a := by unfold agr; split <;> split <;> (try split) <;> (try split) <;> omega
theorem agr_takes (a b v : Int) : (agr a b = 0 ∧ (tks a v && tks b v) = false) ∨ (agr a b ≠ 0 ∧ tks a (agr a b) = true ∧ tks b (agr a b) = true) := by
  unfold agr
  split
  · split
    · right; unfold tks; simp; omega
    · split
      · right; unfold tks; simp; omega
      · left; unfold tks; simp; omega
  · left; unfold tks; simp; omega

/-- What a function of two numbers answers, whatever the world. -/
abbrev Ans (F : Nat) (x y : Int) (r : Value) : Prop := ∀ w : World, Calls Try.prog F #[.int .i64 x, .int .i64 y] w fun e w' => e = .returned r ∧ w = w'
set_option maxRecDepth 100000 in
set_option maxHeartbeats 1000000 in
theorem agrees_of (a b v g : Int) (p q : Bool) (w : World) (hA : Ans 23 a b (.int .i64 g)) (hA2 : Ans 23 b a (.int .i64 g)) (hR : Ans 24 a b (.int .i64 g))
    (hT : Ans 25 a v (.bool p)) (hU : Ans 26 a v (.bool p)) (hV : Ans 25 b v (.bool q))
    (h : (g = 0 ∧ (p && q) = false) ∨ (g ≠ 0 ∧ Ans 25 a g (.bool true) ∧ Ans 25 b g (.bool true))) :
    Calls Try.prog 9 #[.int .i64 a, .int .i64 b, .int .i64 v] w fun e w' => e = .returned (.bool true) ∧ Below w.heap.size w w' := by
  replace hA := Lib.hid hA
  replace hA2 := Lib.hid hA2
  replace hR := Lib.hid hR
  replace hT := Lib.hid hT
  replace hU := Lib.hid hU
  replace hV := Lib.hid hV
  rcases h with ⟨rfl, hpq⟩ | ⟨hg, h1, h2⟩
  · cases p <;> cases q <;> (try (exfalso; simp at hpq; done))
    all_goals
      clear hpq
      go_enter Try.func9, Try.ntmps9
      go_wp2_with (first
        | (go_at_call 23; ((with_reducible refine (hA.out _).mono ?_); rintro e w' ⟨rfl, rfl⟩))
        | (go_at_call 23; ((with_reducible refine (hA2.out _).mono ?_); rintro e w' ⟨rfl, rfl⟩))
        | (go_at_call 24; ((with_reducible refine (hR.out _).mono ?_); rintro e w' ⟨rfl, rfl⟩))
        | (go_at_call 25; ((with_reducible refine (hT.out _).mono ?_); rintro e w' ⟨rfl, rfl⟩))
        | (go_at_call 25; ((with_reducible refine (hV.out _).mono ?_); rintro e w' ⟨rfl, rfl⟩))
        | (go_at_call 26; ((with_reducible refine (hU.out _).mono ?_); rintro e w' ⟨rfl, rfl⟩))
        | (go_at_call 13; ((with_reducible refine (awake_any _).mono ?_); rintro e w4 ⟨rfl, hB4⟩))
        | fail)
      go_ret
      exact ⟨rfl, hB4⟩
  · have hg0 : (g == 0) = false := beq_eq_false_iff_ne.2 hg
    have hg1 : (g != 0) = true := bne_iff_ne.2 hg
    replace h1 := Lib.hid h1
    replace h2 := Lib.hid h2
    clear hg
    cases p <;> cases q
    all_goals
      go_enter Try.func9, Try.ntmps9
      go_wp2_with (first
        | (go_at_call 23; ((with_reducible refine (hA.out _).mono ?_); rintro e w' ⟨rfl, rfl⟩))
        | (go_at_call 23; ((with_reducible refine (hA2.out _).mono ?_); rintro e w' ⟨rfl, rfl⟩))
        | (go_at_call 24; ((with_reducible refine (hR.out _).mono ?_); rintro e w' ⟨rfl, rfl⟩))
        | (go_at_call 25; ((with_reducible refine (hT.out _).mono ?_); rintro e w' ⟨rfl, rfl⟩))
        | (go_at_call 25; ((with_reducible refine (hV.out _).mono ?_); rintro e w' ⟨rfl, rfl⟩))
        | (go_at_call 25; ((with_reducible refine (h1.out _).mono ?_); rintro e w' ⟨rfl, rfl⟩))
        | (go_at_call 25; ((with_reducible refine (h2.out _).mono ?_); rintro e w' ⟨rfl, rfl⟩))
        | (go_at_call 26; ((with_reducible refine (hU.out _).mono ?_); rintro e w' ⟨rfl, rfl⟩))
        | (go_at_call 13; ((with_reducible refine (awake_any _).mono ?_); rintro e w4 ⟨rfl, hB4⟩))
        | fail)
      go_ret
      exact ⟨rfl, hB4⟩
theorem agrees (a b v : Int) (w : World) : Calls Try.prog 9 #[.int .i64 a, .int .i64 b, .int .i64 v] w fun e w' => e = .returned (.bool true) ∧ Below w.heap.size w w' := by
  refine agrees_of a b v (agr a b) (tks a v) (tks b v) w (agree_any a b) (by rw [agr_comm]; exact agree_any b a) (ragree_any a b) (takes_any a v) (rtakes_any a v) (takes_any b v) ?_
  rcases agr_takes a b v with ⟨h1, h2⟩ | ⟨h1, h2, h3⟩
  · exact .inl ⟨h1, h2⟩
  · refine .inr ⟨h1, ?_, ?_⟩
    · rw [← h2]; exact takes_any a _
    · rw [← h3]; exact takes_any b _
end Go.Proofs.Ytkbhmeajgmecoaa.wirO
