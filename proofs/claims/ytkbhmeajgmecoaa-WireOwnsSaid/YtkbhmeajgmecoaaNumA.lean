/- The contracts of TakeUvar, in the program and in the document's own answer, and of what they call. -/
import Derived.Test.YtkbhmeajgmecoaaByt
import Derived.LoopTactic
import Derived.WalkLawsBesides
import Derived.Lib.Hide
import Derived.Outline
import Derived.WalkSpells
import Derived.Laws.BitsAllLaws
namespace Go.Proofs.Ytkbhmeajgmecoaa.numA
open Go.ChangeShapes Go.WideShapes Go.ChangeAt Go.RowKit
open numM rowA byt

theorem ret_eq {a b : Value} (h : a = b) : Ending.returned a = Ending.returned b := by rw [h]

theorem ret3 {a b c a' b' c' : Value} (h1 : a = a') (h2 : b = b') (h3 : c = c') : Ending.returned (.tuple #[a, b, c]) = Ending.returned (.tuple #[a', b', c']) := by rw [h1, h2, h3]
theorem ret2 {a b a' b' : Value} (h1 : a = a') (h2 : b = b') : Ending.returned (.tuple #[a, b]) = Ending.returned (.tuple #[a', b']) := by rw [h1, h2]

/-! ### Bits -/
theorem wrap64_nat (n : Nat) (h : n < 18446744073709551616) : IntKind.u64.wrap (n : Int) = (n : Int) := by
  rw [IntKind.wrap_u64]; exact Int.emod_eq_of_lt (Int.natCast_nonneg n) (Int.ofNat_lt.2 h)
theorem low7 (c : Nat) (hc : c < 256) : bits .andNot .u8 (c : Int) 128 = ((c % 128 : Nat) : Int) := by
  have h := u8_andNot_nat c 128 hc (by decide)
  rw [show ((128 : Nat) : Int) = 128 from rfl] at h
  rw [h, show 255 - 128 = 2 ^ 7 - 1 from rfl, Nat.and_two_pow_sub_one_eq_mod]
theorem pow7 (j : Nat) : (2 : Nat) ^ (7 * j) = 128 ^ j := by rw [Nat.pow_mul]
theorem acc_lt (x c j : Nat) (hx : x < 128 ^ j) (hj : j ≤ 9) (hc : c < 128) (h9 : j = 9 → c ≤ 1) : x + c * 128 ^ j < 18446744073709551616 := by
  by_cases h : j = 9
  · subst h
    have e : (128 : Nat) ^ 9 = 9223372036854775808 := by decide
    have := h9 rfl
    rw [e] at hx ⊢; omega
  · have h8 : (128 : Nat) ^ 8 = 72057594037927936 := by decide
    have hp : (128 : Nat) ^ j ≤ 128 ^ 8 := Nat.pow_le_pow_right (by decide) (by omega)
    have : c * 128 ^ j ≤ 127 * 128 ^ 8 := Nat.mul_le_mul (by omega) hp
    omega
theorem acc_eq (x c j : Nat) (hx : x < 128 ^ j) (hj : j ≤ 9) (hc : c < 256) (h9 : j = 9 → c % 128 ≤ 1) :
    bits .or .u64 (x : Int) (IntKind.u64.wrap (IntKind.u64.wrap (bits .andNot .u8 (c : Int) 128) * 2 ^ (7 * j))) = ((x + (c % 128) * 128 ^ j : Nat) : Int) := by
  have hb := acc_lt x (c % 128) j hx hj (by omega) h9
  have e : ((c % 128 : Nat) : Int) * 2 ^ (7 * j) = (((c % 128) * 128 ^ j : Nat) : Int) := by
    rw [Int.natCast_mul, ← pow7, Int.natCast_pow]; rfl
  rw [low7 c hc, wrap64_nat _ (by omega), e, wrap64_nat _ (by omega), u64_or_nat _ _ (by omega) (by omega)]
  congr 1
  rw [Nat.or_comm, ← pow7, Nat.mul_comm (c % 128), ← Nat.two_pow_add_eq_or_of_lt (by rw [pow7]; exact hx), Nat.add_comm]

/-! ### May a byte stand at a place? -/
def msa (c i : Nat) : Bool := (i == 0 || c != 0) && (i != 9 || decide (c ≤ 1))
theorem msa_iff (c i : Nat) : msa c i = false ↔ (0 < i ∧ c = 0) ∨ (i = 9 ∧ 1 < c) := by
  unfold msa
  rw [Bool.and_eq_false_iff, Bool.or_eq_false_iff, Bool.or_eq_false_iff]
  simp; omega
theorem msa_any (c i : Nat) (w : World) :
    Calls Try.prog 98 #[.int .u8 c, .int .i64 i] w fun e w' => e = .returned (.bool (msa c i)) ∧ w = w' := by
  go_enter Try.func98, Try.ntmps98
  go_wp2
  all_goals
    go_ret
    refine ⟨ret_eq (congrArg Value.bool ?_), rfl⟩
    unfold msa
    rw [Bool.eq_iff_iff]
    simp
    try omega
theorem msa_yes (c i : Nat) (w : World) (h : ¬ ((0 < i ∧ c = 0) ∨ (i = 9 ∧ 1 < c))) :
    Calls Try.prog 98 #[.int .u8 c, .int .i64 i] w fun e w' => e = .returned (.bool true) ∧ w = w' := by
  have := msa_any c i w
  rw [← msa_iff, Bool.not_eq_false] at h
  rwa [h] at this
theorem msa_no (c i : Nat) (w : World) (h : (0 < i ∧ c = 0) ∨ (i = 9 ∧ 1 < c)) :
    Calls Try.prog 98 #[.int .u8 c, .int .i64 i] w fun e w' => e = .returned (.bool false) ∧ w = w' := by
  have := msa_any c i w
  rw [← msa_iff] at h
  rwa [h] at this

set_option maxRecDepth 100000 in
theorem tuv_any (a : Option Addr) (n cap : Nat) (l : List Nat) (w : World) (hb : BL w a n l) :
    Calls Try.prog 95 #[.slice a n cap] w fun e w' => e = .returned (.tuple #[.int .u64 (tkv l), .int .i64 (tkn l), .int .i64 (tke l)]) ∧ w = w' := by
  have hl := hb.2.1
  have hn := Lib.hid hb.1
  have hlt := Lib.hid hb.lt
  go_enter Try.func95, Try.ntmps95
  go_wp2
  go_loop [5, 10] (fun u i => ∃ j x : Nat, j ≤ n ∧ j ≤ 9 ∧ Tk l j x ∧ u = .int .u64 x ∧ i = .int .i64 j) (fun _ i => n - (intOf i).toNat)
  case atStart => exact ⟨0, 0, by omega, by omega, Tk.start l, rfl, rfl⟩
  case round =>
    obtain ⟨j, x, hj, hj9, ht, rfl, rfl⟩ := hrel
    replace ht := Lib.hid ht
    by_cases hlt1 : j < n
    · obtain ⟨b, off, rfl, hc⟩ := hb.at hlt1
      have hc8 := nth_lt hlt.out (show j < l.length by have := hn.out; omega)
      have hjl : j < l.length := by have := hn.out; omega
      by_cases hbad : (0 < j ∧ nth l j = 0) ∨ (j = 9 ∧ 1 < nth l j)
      · have hfin := Lib.hid (ht.out.bad hjl hbad)
        replace hbad := Lib.hid hbad
        clear hb hjl
        go_wp2_with ((go_at_call 98; ((with_reducible refine (msa_no _ _ _ hbad.out).mono ?_); rintro e w' ⟨rfl, rfl⟩)))
        go_ret3
        exact ⟨by rw [hfin.out.1, hfin.out.2.1, hfin.out.2.2]; rfl, rfl⟩
      · by_cases h2 : nth l j < 128
        · have hfin := Lib.hid (ht.out.last hjl hbad h2)
          replace hbad := Lib.hid hbad
          clear hb hjl
          go_wp2_with ((go_at_call 98; ((with_reducible refine (msa_yes _ _ _ hbad.out).mono ?_); rintro e w' ⟨rfl, rfl⟩)))
          go_ret3
          exact ⟨ret3 (congrArg (Value.int .u64) (by rw [hfin.out.1, acc_eq x (nth l j) j ht.out.1 hj9 hc8 (by have := hbad.out; omega), Nat.mod_eq_of_lt h2])) (congrArg (Value.int .i64) (by rw [hfin.out.2.1]; omega)) (congrArg (Value.int .i64) (by rw [hfin.out.2.2]; rfl)), rfl⟩
        · have hfin := Lib.hid (ht.out.next hjl hbad h2 hc8)
          replace hbad := Lib.hid hbad
          clear hb hjl
          go_wp2_with ((go_at_call 98; ((with_reducible refine (msa_yes _ _ _ hbad.out).mono ?_); rintro e w' ⟨rfl, rfl⟩)))
          go_round
          case rel => exact ⟨j + 1, x + (nth l j - 128) * 128 ^ j, by omega, by have := hbad.out; omega, hfin.out, by rw [acc_eq x (nth l j) j ht.out.1 hj9 hc8 (by have := hbad.out; omega), show nth l j % 128 = nth l j - 128 by omega], by go_num⟩
          case measure => simp [intOf]; omega
    · have hfin := Lib.hid (ht.out.short (show l.length ≤ j by have := hn.out; omega))
      clear hb
      go_wp2
      go_ret3
      exact ⟨ret3 (congrArg (Value.int .u64) (by rw [hfin.out.1]; rfl)) (congrArg (Value.int .i64) (by rw [hfin.out.2.1]; rfl)) (congrArg (Value.int .i64) (by rw [hfin.out.2.2]; rfl)), rfl⟩

/-! ### The document's own -/
theorem acc2_eq (x c p : Nat) (h : x + c % 128 * p < 18446744073709551616) : IntKind.u64.wrap ((x : Int) + IntKind.u64.wrap ((p : Int) * ((c : Int) % 128))) = ((x + c % 128 * p : Nat) : Int) := by
  have e : (p : Int) * ((c : Int) % 128) = ((c % 128 * p : Nat) : Int) := by
    rw [Int.natCast_mul, Int.natCast_emod, Int.mul_comm]; rfl
  rw [e, wrap64_nat _ (by omega), ← Int.natCast_add, wrap64_nat _ h]
theorem p9 : (128 : Nat) ^ 9 = 9223372036854775808 := by decide
set_option maxRecDepth 100000 in
theorem rtuv_any (a : Option Addr) (n cap : Nat) (l : List Nat) (w : World) (hb : BL w a n l) :
    Calls Try.prog 97 #[.slice a n cap] w fun e w' => e = .returned (.tuple #[.int .u64 (tkv l), .int .i64 (tkn l), .int .i64 (tke l)]) ∧ w = w' := by
  have hl := hb.2.1
  have hn := Lib.hid hb.1
  have hlt := Lib.hid hb.lt
  go_enter Try.func97, Try.ntmps97
  go_wp2
  go_loop [5, 6, 7] (fun u by_ i => ∃ j x : Nat, j ≤ n ∧ j ≤ 9 ∧ Tk l j x ∧ u = .int .u64 x ∧ by_ = .int .u64 ((128 ^ j : Nat) : Int) ∧ i = .int .i64 j) (fun _ _ i => n - (intOf i).toNat)
  case atStart => exact ⟨0, 0, by omega, by omega, Tk.start l, rfl, rfl, rfl⟩
  case round =>
    obtain ⟨j, x, hj, hj9, ht, rfl, rfl, rfl⟩ := hrel
    replace ht := Lib.hid ht
    by_cases hlt1 : j < n
    · obtain ⟨b, off, rfl, hc⟩ := hb.at hlt1
      have hc8 := nth_lt hlt.out (show j < l.length by have := hn.out; omega)
      have hjl : j < l.length := by have := hn.out; omega
      by_cases h9 : j = 9
      · subst h9
        rw [show (128 : Nat) ^ 9 = 9223372036854775808 from by decide]
        by_cases h2 : nth l 9 = 0
        · have hfin := Lib.hid (ht.out.bad hjl (.inl ⟨by omega, h2⟩))
          clear hb hjl
          go_wp2
          all_goals
            go_ret3
            exact ⟨ret3 (congrArg (Value.int .u64) (by rw [hfin.out.1]; rfl)) (congrArg (Value.int .i64) (by rw [hfin.out.2.1]; rfl)) (congrArg (Value.int .i64) (by rw [hfin.out.2.2]; rfl)), rfl⟩
        · by_cases h3 : 1 < nth l 9
          · have hfin := Lib.hid (ht.out.bad hjl (.inr ⟨rfl, h3⟩))
            clear hb hjl
            go_wp2
            all_goals
              go_ret3
              exact ⟨ret3 (congrArg (Value.int .u64) (by rw [hfin.out.1]; rfl)) (congrArg (Value.int .i64) (by rw [hfin.out.2.1]; rfl)) (congrArg (Value.int .i64) (by rw [hfin.out.2.2]; rfl)), rfl⟩
          · obtain h4 : nth l 9 = 1 := by omega
            have hfin := Lib.hid (ht.out.last hjl (by omega) (by omega))
            clear hb hjl h2 h3
            go_wp2
            go_ret3
            exact ⟨ret3 (congrArg (Value.int .u64) (by rw [hfin.out.1, h4]; have e := acc2_eq x 1 9223372036854775808 (by have := ht.out.1; rw [p9] at this; omega); rw [p9]; exact e)) (congrArg (Value.int .i64) (by rw [hfin.out.2.1]; rfl)) (congrArg (Value.int .i64) (by rw [hfin.out.2.2]; rfl)), rfl⟩
      · have hp1 : 128 ^ j ≤ 72057594037927936 := by
          have h8 : (128 : Nat) ^ 8 = 72057594037927936 := by decide
          rw [← h8]; exact Nat.pow_le_pow_right (by decide) (by omega)
        have hx1 := ht.out.1
        have hpe := Lib.hid (Nat.pow_succ 128 j)
        have hfb := Lib.hid (ht.out.bad hjl)
        have hfl := Lib.hid (ht.out.last hjl)
        have hfn := Lib.hid (ht.out.next hjl)
        generalize 128 ^ j = p at *
        have hm : nth l j % 128 * p ≤ 127 * 72057594037927936 := Nat.mul_le_mul (by omega) hp1
        have hsum := Lib.hid (show x + nth l j % 128 * p < 18446744073709551616 by omega)
        by_cases h0 : j = 0
        · subst h0
          have hc0 : w.cell? ⟨b, off, none⟩ = some (.int .u8 (nth l 0)) := hc
          by_cases h2 : nth l 0 < 128
          · have hfin := Lib.hid (hfl.out (by omega) h2)
            clear hb hjl hm
            go_wp2
            all_goals
              go_ret3
              exact ⟨ret3 (congrArg (Value.int .u64) (by first | rw [hfin.out.1, acc2_eq x _ p hsum.out, Nat.mod_eq_of_lt h2] | (rw [hfin.out.1, show nth l 0 = 0 by assumption, Nat.zero_mul]; rfl))) (congrArg (Value.int .i64) (by rw [hfin.out.2.1]; rfl)) (congrArg (Value.int .i64) (by rw [hfin.out.2.2]; rfl)), rfl⟩
          · have hfin := Lib.hid (hfn.out (by omega) h2 hc8)
            clear hb hjl hm
            go_wp2
            all_goals
              go_round
              case rel => exact ⟨1, x + (nth l 0 - 128) * p, by omega, by omega, hfin.out, by rw [acc2_eq x _ p hsum.out, show nth l 0 % 128 = nth l 0 - 128 by omega], by rw [hpe.out, Int.natCast_mul]; rfl, rfl⟩
              case measure => simp [intOf]; omega
        · have hj1 : 0 < j := by omega
          by_cases h2 : nth l j = 0
          · have hfin := Lib.hid (hfb.out (.inl ⟨hj1, h2⟩))
            clear hb hjl hm
            go_wp2
            all_goals
              go_ret3
              exact ⟨ret3 (congrArg (Value.int .u64) (by rw [hfin.out.1]; rfl)) (congrArg (Value.int .i64) (by rw [hfin.out.2.1]; rfl)) (congrArg (Value.int .i64) (by rw [hfin.out.2.2]; rfl)), rfl⟩
          · by_cases h3 : nth l j < 128
            · have hfin := Lib.hid (hfl.out (by omega) h3)
              clear hb hjl hm
              go_wp2
              all_goals
                go_ret3
                exact ⟨ret3 (congrArg (Value.int .u64) (by rw [hfin.out.1, acc2_eq x _ p hsum.out, Nat.mod_eq_of_lt h3])) (congrArg (Value.int .i64) (by rw [hfin.out.2.1]; rfl)) (congrArg (Value.int .i64) (by rw [hfin.out.2.2]; rfl)), rfl⟩
            · have hfin := Lib.hid (hfn.out (by omega) h3 hc8)
              clear hb hjl hm
              go_wp2
              all_goals
                go_round
                case rel => exact ⟨j + 1, x + (nth l j - 128) * p, by omega, by omega, hfin.out, by rw [acc2_eq x _ p hsum.out, show nth l j % 128 = nth l j - 128 by omega], by rw [hpe.out, Int.natCast_mul]; rfl, by go_num⟩
                case measure => simp [intOf]; omega
    · have hfin := Lib.hid (ht.out.short (show l.length ≤ j by have := hn.out; omega))
      clear hb
      go_wp2
      go_ret3
      exact ⟨ret3 (congrArg (Value.int .u64) (by rw [hfin.out.1]; rfl)) (congrArg (Value.int .i64) (by rw [hfin.out.2.1]; rfl)) (congrArg (Value.int .i64) (by rw [hfin.out.2.2]; rfl)), rfl⟩
end Go.Proofs.Ytkbhmeajgmecoaa.numA
