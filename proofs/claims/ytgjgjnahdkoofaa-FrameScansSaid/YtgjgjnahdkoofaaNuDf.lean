/- The contracts of Fixed and TakeFixed, in the program and in the document's own answer. -/
import Derived.Test.YtgjgjnahdkoofaaFraA
import Derived.Test.YtgjgjnahdkoofaaNumN
namespace Go.Proofs.Ytgjgjnahdkoofaa.numD
open Go.ChangeShapes Go.WideShapes Go.ChangeAt Go.RowKit
open numM numN rowA byt numA numB numC

theorem Own.set {w : World} {base g n cap : Nat} {l : List Nat} (h : Own w base (.slice (some ⟨g, 0, none⟩) n cap) n l) (j c : Nat) (hc : c < 256) : Own (w.setCell ⟨g, j, none⟩ (.int .u8 c)) base (.slice (some ⟨g, 0, none⟩) n cap) n (l.set j c) := by
  refine ⟨by rw [List.length_set]; exact h.1, ?_, h.2.2.1, ?_⟩
  · intro x hx
    rcases List.mem_or_eq_of_mem_set hx with hx | rfl
    · exact h.2.1 x hx
    · exact hc
  · have e : ub (l.set j c) = (ub l).set j (.int .u8 c) := by unfold ub; rw [List.map_set]
    rw [e]
    exact (h.2.2.2.stored j (.int .u8 c)).1

theorem isw_yes (k : Nat) (w : World) (h1 : 1 ≤ k) (h8 : k ≤ 8) :
    Calls Try.prog 26 #[.int .i64 k] w fun e w' => e = .returned (.bool true) ∧ w = w' := by
  go_enter Try.func26, Try.ntmps26
  go_wp2
  go_ret
  exact ⟨ret_eq (congrArg Value.bool (by rw [decide_eq_true_eq]; omega)), rfl⟩
theorem isw_no (k : Int) (w : World) (h : k < 1 ∨ 8 < k) :
    Calls Try.prog 26 #[.int .i64 k] w fun e w' => e = .returned (.bool false) ∧ w = w' := by
  rcases h with h | h
  all_goals
    go_enter Try.func26, Try.ntmps26
    go_wp2
    all_goals
      go_ret
      first
        | exact ⟨rfl, rfl⟩
        | exact ⟨ret_eq (congrArg Value.bool (by rw [decide_eq_false_iff_not]; omega)), rfl⟩

theorem fixed_arg (n k : Int) (w : World) (h : k < 1 ∨ 8 < k) :
    Calls Try.prog 18 #[.int .u64 n, .int .i64 k] w fun e w' => e = .returned (.tuple #[.slice none 0 0, .int .i64 1]) ∧ w = w' := by
  go_enter Try.func18, Try.ntmps18
  go_wp2_with ((go_at_call 26; ((with_reducible refine (isw_no _ _ h).mono ?_); rintro e w' ⟨rfl, rfl⟩)))
  go_ret2
  exact ⟨rfl, rfl⟩
theorem tfixed_arg (a : Option Addr) (m cap : Nat) (k : Int) (w : World) (h : k < 1 ∨ 8 < k) :
    Calls Try.prog 28 #[.slice a m cap, .int .i64 k] w fun e w' => e = .returned (.tuple #[.int .u64 0, .int .i64 1]) ∧ w = w' := by
  go_enter Try.func28, Try.ntmps28
  go_wp2_with ((go_at_call 26; ((with_reducible refine (isw_no _ _ h).mono ?_); rintro e w' ⟨rfl, rfl⟩)))
  go_ret2
  exact ⟨rfl, rfl⟩
theorem rfixed_arg (n k : Int) (w : World) (h : k < 1 ∨ 8 < k) :
    Calls Try.prog 10 #[.int .u64 n, .int .i64 k] w fun e w' => e = .returned (.tuple #[.slice none 0 0, .int .i64 1]) ∧ w = w' := by
  rcases h with h | h
  all_goals
    go_enter Try.func10, Try.ntmps10
    go_wp2
    all_goals
      go_ret2
      exact ⟨rfl, rfl⟩
theorem rtfixed_arg (a : Option Addr) (m cap : Nat) (k : Int) (w : World) (h : k < 1 ∨ 8 < k) :
    Calls Try.prog 25 #[.slice a m cap, .int .i64 k] w fun e w' => e = .returned (.tuple #[.int .u64 0, .int .i64 1]) ∧ w = w' := by
  rcases h with h | h
  all_goals
    go_enter Try.func25, Try.ntmps25
    go_wp2
    all_goals
      go_ret2
      exact ⟨rfl, rfl⟩

theorem shr_eq (n k : Nat) : (n : Int) / 2 ^ (8 * k) = ((n / 256 ^ k : Nat) : Int) := by
  rw [← pow_bits, Int.natCast_ediv, Int.natCast_pow]; rfl
theorem shr_yes {n k : Nat} (h : 256 ^ k ≤ n) : ((n : Int) / 2 ^ (8 * k) != 0) = true := by
  rw [shr_eq, bne_iff_ne]
  have : 0 < n / 256 ^ k := Nat.div_pos h (Nat.pow_pos (by decide))
  omega
theorem shr_no {n k : Nat} (h : n < 256 ^ k) : ((n : Int) / 2 ^ (8 * k) != 0) = false := by
  rw [shr_eq, bne_eq_false_iff_eq, Nat.div_eq_of_lt h]; rfl

set_option maxRecDepth 100000 in
theorem fixed_long (n k : Nat) (w : World) (h1 : 1 ≤ k) (h8 : k ≤ 8) (hn : 256 ^ k ≤ n) :
    Calls Try.prog 18 #[.int .u64 n, .int .i64 k] w fun e w' => e = .returned (.tuple #[.slice none 0 0, .int .i64 6]) ∧ w = w' := by
  have ht := shr_yes hn
  clear hn
  go_enter Try.func18, Try.ntmps18
  go_wp2_with ((go_at_call 26; ((with_reducible refine (isw_yes _ _ h1 h8).mono ?_); rintro e w' ⟨rfl, rfl⟩)))
  go_ret2
  exact ⟨rfl, rfl⟩
/-- What a call answers that makes a row of bytes, and no error. -/
def Makes2 (w : World) (l : List Nat) (e : Ending) (w' : World) : Prop := ∃ A cap, e = .returned (.tuple #[.slice A l.length cap, .int .i64 0]) ∧ Own w' w.heap.size (.slice A l.length cap) l.length l ∧ Below w.heap.size w w'
theorem Makes2.of {w w' : World} {l : List Nat} {v : Value} {n : Nat} (hn : l.length = n) (h : Own w' w.heap.size v n l) (hB : Below w.heap.size w w') : Makes2 w l (.returned (.tuple #[v, .int .i64 0])) w' := by
  subst hn
  obtain ⟨A, cap, rfl, _⟩ := h.form
  exact ⟨A, cap, rfl, h, hB⟩
theorem fx_cell {n k j : Nat} (h : j < k) : (n : Int) / 2 ^ (8 * (k - 1 - j)) % 256 = ((nth (fx k n) j : Nat) : Int) := by
  rw [shr_eq, fx_nth k n j h, Int.natCast_emod]; rfl
theorem fx_store {w wr : World} {g n k j : Nat} (h : Own wr w.heap.size (.slice (some ⟨g, 0, none⟩) k k) k (up (fx k n) j)) (hB : Below w.heap.size w wr) (hj : j < k) :
    Own (wr.setCell ⟨g, j, none⟩ (.int .u8 ((n : Int) / 2 ^ (8 * (k - 1 - j)) % 256))) w.heap.size (.slice (some ⟨g, 0, none⟩) k k) k (up (fx k n) (j + 1)) ∧
    Below w.heap.size w (wr.setCell ⟨g, j, none⟩ (.int .u8 ((n : Int) / 2 ^ (8 * (k - 1 - j)) % 256))) := by
  have hl : j < (fx k n).length := by rw [fx_len]; exact hj
  rw [fx_cell hj]
  refine ⟨?_, hB.setCell (p := ⟨g, j, none⟩) (h.2.2.2.lt g rfl).1 _⟩
  have := Own.set h j (nth (fx k n) j) (fx_lt k n _ (nth_mem hl))
  rw [up_set hl] at this
  exact this
theorem made_own {w w1 : World} {k : Nat} (hk : k ≤ 8) (h : w1.ownsRow w.heap.size 5 1 (.slice (some ⟨w.heap.size, 0, none⟩) k k) k (madeCells #[.int .u8 0] k).toList) (l : List Nat) (hl : l.length = k) : Own w1 w.heap.size (.slice (some ⟨w.heap.size, 0, none⟩) k k) k (up l 0) := by
  refine ⟨by rw [up_len l (by omega)]; exact hl, by rw [up_zero]; intro c hc; rw [List.eq_of_mem_replicate hc]; decide, by omega, ?_⟩
  rw [up_zero, hl]
  rw [toList_madeCells_one] at h
  have e : ub (List.replicate k 0) = List.replicate k (.int .u8 0) := by unfold ub; rw [List.map_replicate]; rfl
  rw [e]; exact h

set_option maxRecDepth 100000 in
theorem fixed_ok (n k : Nat) (w : World) (h1 : 1 ≤ k) (h8 : k ≤ 8) (hn : n < 256 ^ k) :
    Calls Try.prog 18 #[.int .u64 n, .int .i64 k] w (Makes2 w (fx k n)) := by
  have ht := shr_no hn
  clear hn
  obtain ⟨i0, hi, hz0, hz1, hz2⟩ := info_parts bytes8
  go_enter Try.func18, Try.ntmps18
  go_wp2_with (first | (go_at_call 26; ((with_reducible refine (isw_yes _ _ h1 h8).mono ?_); rintro e w' ⟨rfl, rfl⟩)) | (refine wpList_make_full _ rfl _ _ 23 rfl w.heap.size 5 i0 (.int .u8 0) 1 Try.underlying23 hi hz0 hz1 .i64 .i64 _ _ k rfl rfl rfl rfl ?c1 ?c2 ?c3 ?_))
  case c1 => rw [hz2]; omega
  case c2 => unfold maxLen; omega
  case c3 => exact Nat.le_refl _
  intro w1 hown1 hgrow
  have hB1 := Lib.hid ((Below.refl w.heap.size w).grown hgrow (Nat.le_refl _) (fun k hk => by cases hk))
  have hrow1 := Lib.hid (made_own h8 hown1 (fx k n) (fx_len k n))
  clear hown1 hgrow hi hz0 hz1 hz2
  go_wp2
  go_loopw [20] (fun i wr => ∃ j : Nat, j ≤ k ∧ i = .int .i64 j ∧ Own wr w.heap.size (.slice (some ⟨w.heap.size, 0, none⟩) k k) k (up (fx k n) j) ∧ Below w.heap.size w wr) (fun i _ => k - (intOf i).toNat)
  case atStart => exact ⟨0, by omega, rfl, hrow1.out, hB1.out⟩
  case round =>
    obtain ⟨j, hj, rfl, hown, hBw⟩ := hrel
    by_cases hlt : j < k
    · have hst := Lib.hid (fx_store hown hBw hlt)
      have cw : wr.cell? ⟨w.heap.size, j, none⟩ = some (.int .u8 (nth (up (fx k n) j) j)) := by
        rw [hown.2.2.2.cellAt j (by omega), ub_get _ (by rw [hown.1]; exact hlt)]
      have fw := hown.2.2.2.frozenAt j
      clear hown hBw
      go_wp2
      go_roundw
      case rel => exact ⟨j + 1, by omega, by go_num, hst.out.1, hst.out.2⟩
      case measure => simp [intOf]; omega
    · obtain rfl : j = k := by omega
      have hfin : Own wr w.heap.size (.slice (some ⟨w.heap.size, 0, none⟩) j j) j (fx j n) := by
        have := up_all (fx j n)
        rw [fx_len] at this
        rw [← this]; exact hown
      replace hfin := Lib.hid hfin
      clear hown
      go_wp2
      go_ret2
      exact Makes2.of (fx_len j n) hfin.out hBw

set_option maxRecDepth 100000 in
theorem rfixed (n k : Nat) (w : World) (h1 : 1 ≤ k) (h8 : k ≤ 8) (hn2 : n < 18446744073709551616) :
    Calls Try.prog 10 #[.int .u64 n, .int .i64 k] w fun e w' => (n < 256 ^ k → Makes2 w (fx k n) e w') ∧ (256 ^ k ≤ n → e = .returned (.tuple #[.slice none 0 0, .int .i64 6]) ∧ Below w.heap.size w w') := by
  obtain ⟨i0, hi, hz0, hz1, hz2⟩ := info_parts bytes8
  go_enter Try.func10, Try.ntmps10
  have hmd := Lib.hid (Own.made w w.heap.size (Nat.le_refl _) [] (by simp) (by simp) #[] rfl)
  go_wp2
  go_loopw [0, 6, 7] (fun t v i wr => ∃ j q : Nat, j ≤ k ∧ q < 18446744073709551616 ∧ q = n / 256 ^ j ∧ t = .int .u64 q ∧ i = .int .i64 j ∧ Own wr w.heap.size v j (fx j n) ∧ Below w.heap.size w wr) (fun _ _ i _ => k - (intOf i).toNat)
  case atStart => exact ⟨0, n, by omega, hn2, by simp, rfl, rfl, hmd.out, (Below.refl _ _).alloc (Nat.le_refl _) _⟩
  case round =>
    obtain ⟨j, q, hj, hq2, hq, rfl, rfl, hown, hB⟩ := hrel
    replace hq := Lib.hid hq
    have hsz := Lib.hid hB.size
    obtain ⟨A, cap, rfl, _, _, _, _, hb⟩ := hown.form
    by_cases hlt : j < k
    · have ho := Lib.hid (Own.made wr w.heap.size hsz.out [q % 256] (by intro c hc; simp at hc; omega) (by simp) #[.int .u8 ((q % 256 : Nat) : Int)] rfl)
      rw [Int.natCast_emod] at ho
      have hb1 := Lib.hid (hb.below ((Below.refl wr.heap.size wr).alloc (Nat.le_refl _) (.cells #[.int .u8 ((q : Int) % ((256 : Nat) : Int))] 5)))
      have hB1 := Lib.hid (hB.alloc hsz.out (.cells #[.int .u8 ((q : Int) % ((256 : Nat) : Int))] 5))
      clear hb hB hown
      go_wp2_with (at_builtin; (refine wpList_app rfl _ _ 23 rfl w.heap.size i0 Try.underlying23 hi hz0 hz1 hz2 _ _ [q % 256] rfl ho.out A _ cap (fx j n) rfl hb1.out ?c1 ?c2 ?_))
      case c1 => simp; omega
      case c2 => have := hsz.out; simp; omega
      intro v' w2 hown2 hgrow
      replace hown2 := Lib.hid hown2
      have hBn := Lib.hid (ho.out.grown hB1.out hgrow (by have := hsz.out; simp; omega))
      clear hgrow
      go_wp2
      go_roundw
      case rel => exact ⟨j + 1, q / 256, by omega, by omega, by rw [hq.out, Nat.div_div_eq_div_mul, Nat.pow_succ], by go_num, by go_num, by have h := hown2.out; rw [Nat.add_comm, hq.out] at h; exact h, hBn.out⟩
      case measure => simp [intOf]; omega
    · obtain rfl : j = k := by omega
      replace hown := Lib.hid hown
      clear hb
      by_cases h0 : q = 0
      · have ht : ((q : Int) != 0) = false := by rw [bne_eq_false_iff_eq, h0]; rfl
        have hn : n < 256 ^ j := by
          rcases Nat.div_eq_zero_iff.1 (hq.out.symm.trans h0) with h | h
          · exact absurd h (by have := Nat.pow_pos (n := j) (show 0 < 256 by decide); omega)
          · exact h
        replace hn := Lib.hid hn
        clear h0
        go_wp2
        go_ret2
        exact ⟨fun _ => Makes2.of (fx_len j n) hown.out hB, fun h => absurd h (by have := hn.out; omega)⟩
      · have ht : ((q : Int) != 0) = true := by rw [bne_iff_ne]; omega
        have hn : 256 ^ j ≤ n := by
          rcases Nat.lt_or_ge n (256 ^ j) with h | h
          · rw [hq.out, Nat.div_eq_of_lt h] at h0; exact absurd rfl h0
          · exact h
        replace hn := Lib.hid hn
        clear h0
        go_wp2
        go_ret2
        exact ⟨fun h => absurd h (by have := hn.out; omega), fun _ => ⟨rfl, hB⟩⟩

theorem tfixed_short (a : Option Addr) (m cap k : Nat) (w : World) (h1 : 1 ≤ k) (h8 : k ≤ 8) (hk : m < k) :
    Calls Try.prog 28 #[.slice a m cap, .int .i64 k] w fun e w' => e = .returned (.tuple #[.int .u64 0, .int .i64 2]) ∧ w = w' := by
  go_enter Try.func28, Try.ntmps28
  go_wp2_with ((go_at_call 26; ((with_reducible refine (isw_yes _ _ h1 h8).mono ?_); rintro e w' ⟨rfl, rfl⟩)))
  go_ret2
  exact ⟨rfl, rfl⟩
theorem rtfixed_short (a : Option Addr) (m cap k : Nat) (w : World) (h1 : 1 ≤ k) (h8 : k ≤ 8) (hk : m < k) :
    Calls Try.prog 25 #[.slice a m cap, .int .i64 k] w fun e w' => e = .returned (.tuple #[.int .u64 0, .int .i64 2]) ∧ w = w' := by
  go_enter Try.func25, Try.ntmps25
  go_wp2
  go_ret2
  exact ⟨rfl, rfl⟩
theorem shl8 (x c : Nat) (hx : x < 72057594037927936) (hc : c < 256) : bits .or .u64 ((x : Int) * 256) (c : Int) = ((x * 256 + c : Nat) : Int) := by
  have h := u64_or_nat (x * 256) c (by omega) (by omega)
  rw [Int.natCast_mul] at h
  rw [show ((256 : Nat) : Int) = 256 from rfl] at h
  rw [h]
  congr 1
  rw [Nat.mul_comm x 256, show 256 = 2 ^ 8 from rfl, Nat.two_pow_add_eq_or_of_lt hc]

set_option maxRecDepth 100000 in
theorem tfixed_ok (b off m cap k : Nat) (l : List Nat) (w : World) (hb : BL w (some ⟨b, off, none⟩) m l) (h1 : 1 ≤ k) (h8 : k ≤ 8) (hk : k ≤ m) (hcap : m ≤ cap) (_ : cap ≤ 9223372036854775807) :
    Calls Try.prog 28 #[.slice (some ⟨b, off, none⟩) m cap, .int .i64 k] w fun e w' => e = .returned (.tuple #[.int .u64 (bv (l.take k)), .int .i64 0]) ∧ w = w' := by
  have hn := Lib.hid hb.1
  have hlt := Lib.hid hb.lt
  have hm := hb.2.1
  replace hb := Lib.hid hb
  go_enter Try.func28, Try.ntmps28
  go_wp2_with ((go_at_call 26; ((with_reducible refine (isw_yes _ _ h1 h8).mono ?_); rintro e w' ⟨rfl, rfl⟩)))
  go_loop [6, 20] (fun t i => ∃ j x : Nat, j ≤ k ∧ x = bv (l.take j) ∧ t = .int .u64 x ∧ i = .int .i64 j) (fun _ i => k - (intOf i).toNat)
  case atStart => exact ⟨0, 0, by omega, rfl, rfl, rfl⟩
  case round =>
    obtain ⟨j, x, hj, hx, rfl, rfl⟩ := hrel
    have hxl : x < 256 ^ j := by rw [hx]; exact bv_take hlt.out (by have := hn.out; omega)
    replace hx := Lib.hid hx
    by_cases hlt1 : j < k
    · have hjl : j < l.length := by have := hn.out; omega
      obtain ⟨b', off', e0, hc⟩ := hb.out.at (show j < m by omega)
      cases e0
      have hc8 := nth_lt hlt.out hjl
      have hst := Lib.hid (bv_step hjl)
      have hx7 : x < 72057594037927936 := Nat.lt_of_lt_of_le hxl (by have h7 : (256 : Nat) ^ 7 = 72057594037927936 := by decide
                                                                     rw [← h7]; exact Nat.pow_le_pow_right (by decide) (by omega))
      have hor := Lib.hid (shl8 x (nth l j) hx7 hc8)
      clear hxl hjl
      go_wp2
      go_round
      case rel => exact ⟨j + 1, x * 256 + nth l j, by omega, by rw [hst.out, ← hx.out], by rw [hor.out], by go_num⟩
      case measure => simp [intOf]; omega
    · obtain rfl : j = k := by omega
      clear hxl
      go_wp2
      go_ret2
      exact ⟨ret2 (congrArg (Value.int .u64) (by rw [hx.out])) rfl, rfl⟩

set_option maxRecDepth 100000 in
theorem rtfixed_ok (b off m cap k : Nat) (l : List Nat) (w : World) (hb : BL w (some ⟨b, off, none⟩) m l) (h1 : 1 ≤ k) (h8 : k ≤ 8) (hk : k ≤ m) :
    Calls Try.prog 25 #[.slice (some ⟨b, off, none⟩) m cap, .int .i64 k] w fun e w' => e = .returned (.tuple #[.int .u64 (bv (l.take k)), .int .i64 0]) ∧ w = w' := by
  have hn := Lib.hid hb.1
  have hlt := Lib.hid hb.lt
  have hm := hb.2.1
  replace hb := Lib.hid hb
  go_enter Try.func25, Try.ntmps25
  go_wp2
  go_loop [6, 7] (fun t i => ∃ j x : Nat, j ≤ k ∧ x = bv (l.take j) ∧ t = .int .u64 x ∧ i = .int .i64 j) (fun _ i => k - (intOf i).toNat)
  case atStart => exact ⟨0, 0, by omega, rfl, rfl, rfl⟩
  case round =>
    obtain ⟨j, x, hj, hx, rfl, rfl⟩ := hrel
    have hxl : x < 256 ^ j := by rw [hx]; exact bv_take hlt.out (by have := hn.out; omega)
    replace hx := Lib.hid hx
    by_cases hlt1 : j < k
    · have hjl : j < l.length := by have := hn.out; omega
      obtain ⟨b', off', e0, hc⟩ := hb.out.at (show j < m by omega)
      cases e0
      have hc8 := nth_lt hlt.out hjl
      have hst := Lib.hid (bv_step hjl)
      have hx7 : x < 72057594037927936 := Nat.lt_of_lt_of_le hxl (by have h7 : (256 : Nat) ^ 7 = 72057594037927936 := by decide
                                                                     rw [← h7]; exact Nat.pow_le_pow_right (by decide) (by omega))
      clear hxl hjl
      go_wp2
      go_round
      case rel => exact ⟨j + 1, x * 256 + nth l j, by omega, by rw [hst.out, ← hx.out], by go_num, by go_num⟩
      case measure => simp [intOf]; omega
    · obtain rfl : j = k := by omega
      clear hxl
      go_wp2
      go_ret2
      exact ⟨ret2 (congrArg (Value.int .u64) (by rw [hx.out])) rfl, rfl⟩

/-! ### What each answers, in one -/
/-- What a call answers that hands bytes back, with an error's number. -/
def Gives (w : World) (l : List Nat) (err : Nat) (e : Ending) (w' : World) : Prop := ∃ A m cap, e = .returned (.tuple #[.slice A m cap, .int .i64 err]) ∧ BL w' A m l ∧ Below w.heap.size w w'
def fxl (n : Nat) (k : Int) : List Nat := if k < 1 ∨ 8 < k then [] else if n < 256 ^ k.toNat then fx k.toNat n else []
def fxe (n : Nat) (k : Int) : Nat := if k < 1 ∨ 8 < k then 1 else if n < 256 ^ k.toNat then 0 else 6
def tfv (l : List Nat) (k : Int) : Nat := if k < 1 ∨ 8 < k then 0 else if l.length < k.toNat then 0 else bv (l.take k.toNat)
def tfe (l : List Nat) (k : Int) : Nat := if k < 1 ∨ 8 < k then 1 else if l.length < k.toNat then 2 else 0
theorem gives_none (w : World) (err : Nat) : Gives w [] err (.returned (.tuple #[.slice none 0 0, .int .i64 err])) w := ⟨none, 0, 0, rfl, BL.none_ w none, Below.refl _ _⟩
theorem gives_made {w w' : World} {l : List Nat} {e : Ending} (h : Makes2 w l e w') : Gives w l 0 e w' := by
  obtain ⟨A, cap, rfl, ho, hB⟩ := h
  exact ⟨A, _, cap, rfl, own_bl ho, hB⟩

theorem fixed_any (n : Nat) (k : Int) (w : World) :
    Calls Try.prog 18 #[.int .u64 n, .int .i64 k] w (Gives w (fxl n k) (fxe n k)) := by
  by_cases h : k < 1 ∨ 8 < k
  · refine (fixed_arg n k w h).mono ?_
    rintro e w' ⟨rfl, rfl⟩
    unfold fxl fxe; rw [if_pos h, if_pos h]
    exact gives_none w 1
  · obtain ⟨k, rfl⟩ := Int.eq_ofNat_of_zero_le (show 0 ≤ k by omega)
    by_cases hn : n < 256 ^ k
    · refine (fixed_ok n k w (by omega) (by omega) hn).mono ?_
      intro e w' hm
      unfold fxl fxe; rw [if_neg h, if_neg h, Int.toNat_natCast, if_pos hn, if_pos hn]
      exact gives_made hm
    · refine (fixed_long n k w (by omega) (by omega) (by omega)).mono ?_
      rintro e w' ⟨rfl, rfl⟩
      unfold fxl fxe; rw [if_neg h, if_neg h, Int.toNat_natCast, if_neg hn, if_neg hn]
      exact gives_none w 6
theorem rfixed_any (n : Nat) (k : Int) (w : World) (hn2 : n < 18446744073709551616) :
    Calls Try.prog 10 #[.int .u64 n, .int .i64 k] w (Gives w (fxl n k) (fxe n k)) := by
  by_cases h : k < 1 ∨ 8 < k
  · refine (rfixed_arg n k w h).mono ?_
    rintro e w' ⟨rfl, rfl⟩
    unfold fxl fxe; rw [if_pos h, if_pos h]
    exact gives_none w 1
  · obtain ⟨k, rfl⟩ := Int.eq_ofNat_of_zero_le (show 0 ≤ k by omega)
    refine (rfixed n k w (by omega) (by omega) hn2).mono ?_
    intro e w' hm
    unfold fxl fxe; rw [if_neg h, if_neg h, Int.toNat_natCast]
    by_cases hn : n < 256 ^ k
    · rw [if_pos hn, if_pos hn]
      exact gives_made (hm.1 hn)
    · rw [if_neg hn, if_neg hn]
      obtain ⟨rfl, hB⟩ := hm.2 (by omega)
      exact ⟨none, 0, 0, rfl, BL.none_ _ none, hB⟩
theorem tfixed_any (a : Option Addr) (m cap : Nat) (k : Int) (l : List Nat) (w : World) (hb : BL w a m l) (hcap : m ≤ cap) (h9 : cap ≤ 9223372036854775807) :
    Calls Try.prog 28 #[.slice a m cap, .int .i64 k] w fun e w' => e = .returned (.tuple #[.int .u64 (tfv l k), .int .i64 (tfe l k)]) ∧ w = w' := by
  by_cases h : k < 1 ∨ 8 < k
  · unfold tfv tfe; rw [if_pos h, if_pos h]
    exact tfixed_arg a m cap k w h
  · obtain ⟨k, rfl⟩ := Int.eq_ofNat_of_zero_le (show 0 ≤ k by omega)
    unfold tfv tfe; rw [if_neg h, if_neg h, Int.toNat_natCast, hb.1]
    by_cases hk : m < k
    · rw [if_pos hk, if_pos hk]
      exact tfixed_short a m cap k w (by omega) (by omega) hk
    · rw [if_neg hk, if_neg hk]
      obtain ⟨b, off, rfl, _⟩ := hb.at (show 0 < m by omega)
      exact tfixed_ok b off m cap k l w hb (by omega) (by omega) (by omega) hcap h9
theorem rtfixed_any (a : Option Addr) (m cap : Nat) (k : Int) (l : List Nat) (w : World) (hb : BL w a m l) :
    Calls Try.prog 25 #[.slice a m cap, .int .i64 k] w fun e w' => e = .returned (.tuple #[.int .u64 (tfv l k), .int .i64 (tfe l k)]) ∧ w = w' := by
  by_cases h : k < 1 ∨ 8 < k
  · unfold tfv tfe; rw [if_pos h, if_pos h]
    exact rtfixed_arg a m cap k w h
  · obtain ⟨k, rfl⟩ := Int.eq_ofNat_of_zero_le (show 0 ≤ k by omega)
    unfold tfv tfe; rw [if_neg h, if_neg h, Int.toNat_natCast, hb.1]
    by_cases hk : m < k
    · rw [if_pos hk, if_pos hk]
      exact rtfixed_short a m cap k w (by omega) (by omega) hk
    · rw [if_neg hk, if_neg hk]
      obtain ⟨b, off, rfl, _⟩ := hb.at (show 0 < m by omega)
      exact rtfixed_ok b off m cap k l w hb (by omega) (by omega) (by omega)

end Go.Proofs.Ytgjgjnahdkoofaa.numD
