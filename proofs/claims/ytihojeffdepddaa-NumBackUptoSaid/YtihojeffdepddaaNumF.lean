/- The walk of the statement NumBack: what is written is read back, whatever is behind it; for texts and slices that are no longer than a bound. -/
import Derived.Test.YtihojeffdepddaaNumE
namespace Go.Proofs.Ytihojeffdepddaa.numF
open Go.ChangeShapes Go.WideShapes Go.ChangeAt Go.RowKit
open numM numN rowA byt numA numB numC numD numE

theorem tt_back (s : ByteArray) (m : List Nat) (hs : s.size ≤ 140737488351232) : Tt (tx s ++ m) s.size = .tuple #[.string s, .int .i64 ((tx s).length : Nat), .int .i64 0] := by
  have h64 : s.size < 18446744073709551616 := by omega
  have h2 := tk_back h64 (sl s ++ m)
  have e : tx s ++ m = uv s.size ++ (sl s ++ m) := by unfold tx; rw [List.append_assoc]
  have e0 : tte (tx s ++ m) s.size = 0 := by
    rw [e]
    unfold tte
    rw [if_neg (by omega), if_neg (by rw [h2.2.2]; decide), h2.1, h2.2.1, if_neg (by omega), if_neg]
    rw [List.length_append, List.length_append, sl_len]
    omega
  have e1 : ttl (tx s ++ m) s.size = sl s := by
    unfold ttl
    rw [if_pos e0, e, h2.1, h2.2.1, List.drop_left, ← sl_len s, List.take_left]
  have e2 : ttn (tx s ++ m) s.size = (tx s).length := by
    unfold ttn
    rw [if_pos e0, e, h2.1, h2.2.1]
    unfold tx
    rw [List.length_append, sl_len]
  unfold Tt
  rw [e0, e1, e2, str_sl]; rfl
theorem ttext_back (s : ByteArray) (m : List Nat) (a : Option Addr) (k cap : Nat) (w : World) (hs : s.size ≤ 140737488351232) (hcap : k ≤ cap) (h9 : cap ≤ 9223372036854775807) (hb : BL w a k (tx s ++ m)) (Y : Nat) (hY : (tx s).length = Y) :
    Calls Try.prog 23 #[.slice a k cap, .int .i64 s.size] w fun e w' => e = .returned (.tuple #[.string s, .int .i64 Y, .int .i64 0]) ∧ w = w' := by
  subst hY
  have h := ttext_any a k cap s.size _ w hb hcap h9 (by omega)
  rw [tt_back s m hs] at h
  exact h
theorem tuv_back (n : Nat) (m : List Nat) (a : Option Addr) (k cap : Nat) (w : World) (hn : n < 18446744073709551616) (hb : BL w a k (uv n ++ m)) (X : Nat) (hX : (uv n).length = X) :
    Calls Try.prog 17 #[.slice a k cap] w fun e w' => e = .returned (.tuple #[.int .u64 n, .int .i64 X, .int .i64 0]) ∧ w = w' := by
  subst hX
  have h := tuv_any a k cap _ w hb
  have e := tk_back hn m
  rw [e.1, e.2.1, e.2.2] at h
  exact h
theorem tfixed_back (n k : Nat) (m : List Nat) (a : Option Addr) (x cap : Nat) (w : World) (h1 : 1 ≤ k) (h8 : k ≤ 8) (hn : n < 256 ^ k) (hcap : x ≤ cap) (h9 : cap ≤ 9223372036854775807) (hb : BL w a x (fx k n ++ m)) :
    Calls Try.prog 13 #[.slice a x cap, .int .i64 k] w fun e w' => e = .returned (.tuple #[.int .u64 n, .int .i64 0]) ∧ w = w' := by
  have h := tfixed_any a x cap k _ w hb hcap h9
  have hl : (fx k n ++ m).length = k + m.length := by rw [List.length_append, fx_len]
  have e1 : tfv (fx k n ++ m) k = n := by
    unfold tfv
    rw [if_neg (by omega), Int.toNat_natCast, if_neg (by omega)]
    have e : (fx k n ++ m).take k = fx k n := by
      conv => lhs; rw [show k = (fx k n).length from (fx_len k n).symm]
      rw [fx_len, List.take_left' (fx_len k n)]
    rw [e, bv_fx hn]
  have e2 : tfe (fx k n ++ m) k = 0 := by
    unfold tfe
    rw [if_neg (by omega), Int.toNat_natCast, if_neg (by omega)]
  rw [e1, e2] at h
  exact h

/-- What stands of a call's own rows and of a slice that came in. -/
theorem own_slice {w : World} {base n c : Nat} {A : Option Addr} {l : List Nat} (h : Own w base (.slice A n c) n l) : n ≤ c ∧ c ≤ 9223372036854775807 ∧ BL w A n l := by
  obtain ⟨_, _, e0, x1, x2, _, _, hb⟩ := h.form
  cases e0
  exact ⟨x1, x2, hb⟩

set_option maxRecDepth 100000 in
theorem back (n : Nat) (s : ByteArray) (k : Int) (a : Option Addr) (M cap : Nat) (l : List Nat) (w : World) (hn : n < 18446744073709551616) (hs : s.size ≤ 1048576) (hM : M ≤ 1048576) (hb : BL w a M l) :
    Calls Try.prog 6 #[.int .u64 n, .string s, .int .i64 k, .slice a M cap] w fun e w' => e = .returned (.bool true) ∧ Below w.heap.size w w' := by
  obtain ⟨i0, hi, hz0, hz1, hz2⟩ := info_parts bytes8
  have hn' := Lib.hid hn
  have hs' := Lib.hid hs
  replace hb := Lib.hid hb
  have hX2 := uv_len10 hn
  clear hn
  go_enter Try.func6, Try.ntmps6
  go_wp2_with (fail)
  refine (uvar_any n _ hn'.out).mono ?_
  rintro e w1 ⟨A1, c1, rfl, ho1, hB1⟩
  have b1 := Lib.hid (hb.out.below hB1)
  have hsz1 := Lib.hid hB1.size
  replace ho1 := Lib.hid ho1
  generalize hXe : (uv n).length = X at *
  replace hXe := Lib.hid hXe
  go_wp2_with (at_builtin; (refine wpList_app rfl _ _ 23 rfl w.heap.size i0 Try.underlying23 hi hz0 hz1 hz2 _ _ (uv n) rfl ho1.out a M cap l rfl b1.out ?c1 ?c2 ?_))
  case c1 => omega
  case c2 => exact hsz1.out
  intro v2 w2 ho2 hg2
  have hB2 := Lib.hid (ho1.out.grown hB1 hg2 hsz1.out)
  obtain ⟨A2, c2, rfl, p1, p2, _, _, q2⟩ := ho2.form
  replace q2 := Lib.hid q2
  clear ho1 ho2 hg2 hB1 b1
  have t1 : ((X : Int) + M - X != M) = false := by rw [bne_eq_false_iff_eq]; omega
  go_wp2_with ((go_at_call 17; ((with_reducible refine (tuv_back n l _ _ _ _ hn'.out q2.out X hXe.out).mono ?_); rintro e w' ⟨rfl, rfl⟩)))
  refine (text_ok s s.size _ (Int.le_refl _) (by omega)).mono ?_
  rintro e w3 ⟨A3, c3, rfl, ho3, hB3⟩
  have b3 := Lib.hid (hb.out.below (trans0 hB2.out hB3))
  have hB3' := Lib.hid (trans0 hB2.out hB3)
  have hsz3 := Lib.hid hB3.size
  replace ho3 := Lib.hid ho3
  have hY2 : (tx s).length ≤ 1048586 := by unfold tx; rw [List.length_append, sl_len]; have := uv_len10 (show s.size < 18446744073709551616 by omega); omega
  generalize hYe : (tx s).length = Y at *
  replace hYe := Lib.hid hYe
  go_wp2_with (at_builtin; (refine wpList_app rfl _ _ 23 rfl w2.heap.size i0 Try.underlying23 hi hz0 hz1 hz2 _ _ (tx s) rfl ho3.out a M cap l rfl b3.out ?c3 ?c4 ?_))
  case c3 => omega
  case c4 => exact hsz3.out
  intro v4 w4 ho4 hg4
  have hB4 := Lib.hid (trans0 hB2.out (ho3.out.grown hB3 hg4 hsz3.out))
  obtain ⟨A4, c4, rfl, p3, p4, _, _, q4⟩ := ho4.form
  replace q4 := Lib.hid q4
  clear ho3 ho4 hg4 hB3 b3
  go_wp2_with ((go_at_call 23; ((with_reducible refine (ttext_back s l _ _ _ _ (by have := hs'.out; omega) p3 p4 q4.out Y hYe.out).mono ?_); rintro e w' ⟨rfl, rfl⟩)))
  by_cases hk : k < 1 ∨ 8 < k
  · refine (fixed_arg n k _ hk).mono ?_
    rintro e w' ⟨rfl, rfl⟩
    go_wp2_with ((go_at_call 15; ((with_reducible refine (awake_any _).mono ?_); rintro e w5 ⟨rfl, hB5⟩)))
    go_ret
    exact ⟨rfl, trans0 hB4.out hB5⟩
  · obtain ⟨k, rfl⟩ := Int.eq_ofNat_of_zero_le (show 0 ≤ k by omega)
    by_cases hlt : n < 256 ^ k
    · refine (fixed_ok n k _ (by omega) (by omega) hlt).mono ?_
      rintro e w5 ⟨A5, c5, rfl, ho5, hB5⟩
      have b5 := Lib.hid (hb.out.below (trans0 hB4.out hB5))
      have hsz5 := Lib.hid hB5.size
      replace ho5 := Lib.hid ho5
      replace hlt := Lib.hid hlt
      have hk1 : 1 ≤ k := by omega
      have hk8 : k ≤ 8 := by omega
      clear hk
      rw [fx_len] at ho5 ⊢
      go_wp2_with (at_builtin; (refine wpList_app rfl _ _ 23 rfl w4.heap.size i0 Try.underlying23 hi hz0 hz1 hz2 _ _ (fx k n) rfl ho5.out a M cap l rfl b5.out ?c5 ?c6 ?_))
      case c5 => omega
      case c6 => exact hsz5.out
      intro v6 w6 ho6 hg6
      have hB6 := Lib.hid (trans0 hB4.out (ho5.out.grown hB5 hg6 hsz5.out))
      obtain ⟨A6, c6, rfl, p5, p6, _, _, q6⟩ := ho6.form
      replace q6 := Lib.hid q6
      clear ho5 ho6 hg6 hB5 b5
      go_wp2_with ((go_at_call 13; ((with_reducible refine (tfixed_back n k l _ _ _ _ hk1 hk8 hlt.out p5 p6 q6.out).mono ?_); rintro e w' ⟨rfl, rfl⟩)))
      go_wp2_with ((go_at_call 15; ((with_reducible refine (awake_any _).mono ?_); rintro e w7 ⟨rfl, hB7⟩)))
      go_ret
      exact ⟨rfl, trans0 hB6.out hB7⟩
    · refine (fixed_long n k _ (by omega) (by omega) (by omega)).mono ?_
      rintro e w' ⟨rfl, rfl⟩
      go_wp2_with ((go_at_call 15; ((with_reducible refine (awake_any _).mono ?_); rintro e w5 ⟨rfl, hB5⟩)))
      go_ret
      exact ⟨rfl, trans0 hB4.out hB5⟩
theorem back_row (a0 : Int) (s : ByteArray) (a2 : Int) (a3 : Option Addr) (len3 cap3 : Nat) (z3 : List Int) (w : World) (w0 : (Lit.int .u64 a0).wf = true) (hs : s.size ≤ 1048576) (w3 : IsRow .u8 w a3 len3 cap3 z3) (hM : cap3 ≤ 1048576) :
    Calls Try.prog 6 #[.int .u64 a0, .string s, .int .i64 a2, .slice a3 len3 cap3] w fun e w' => e = .returned (.bool true) ∧ Below w.heap.size w w' := by
  obtain ⟨h0, h1⟩ := bounds_u64 w0
  obtain ⟨n, rfl⟩ := Int.eq_ofNat_of_zero_le h0
  exact back n s a2 a3 len3 cap3 _ w (by omega) hs (by have := (row_len w3).1; omega) (row_bl w3)
end Go.Proofs.Ytihojeffdepddaa.numF
