/- The contracts of the small functions of frame, and of the document's own: versions, numbers, sums, words, two frames the same. -/
import Derived.Test.YtgjgjnahdkoofaaNuDf
import Derived.Test.YtgjgjnahdkoofaaSumA
import Derived.Test.YtgjgjnahdkoofaaFraM
import Derived.WalkSmall
namespace Go.Proofs.Ytgjgjnahdkoofaa.fraB
open Go.ChangeShapes Go.WideShapes Go.ChangeAt Go.RowKit
open numM numN rowA byt numA numB numC numD fraM
open sumA (Bytes of_any rmore_any)
open sumM (mo)

theorem bcell {W w1 : World} (hb : Below W.heap.size W w1) : (∀ b o, b < W.heap.size → w1.cell? ⟨b, o, none⟩ = W.cell? ⟨b, o, none⟩) ∧ (∀ b o, b < W.heap.size → w1.frozen? ⟨b, o, none⟩ = W.frozen? ⟨b, o, none⟩) :=
  ⟨fun b o h => hb.cell (p := ⟨b, o, none⟩) h, fun b o h => hb.frozen (p := ⟨b, o, none⟩) h⟩

/-! ### Versions and numbers -/
theorem isv_yes (n : Int) (w : World) (h1 : 1 ≤ n) (h2 : n ≤ 255) :
    Calls Try.prog 16 #[.int .i64 n] w fun e w' => e = .returned (.bool true) ∧ w = w' := by
  go_enter Try.func16, Try.ntmps16
  go_wp2
  go_ret
  first
    | exact ⟨rfl, rfl⟩
    | exact ⟨ret_eq (congrArg Value.bool (by rw [decide_eq_true_eq]; omega)), rfl⟩
theorem isv_no (n : Int) (w : World) (h : n < 1 ∨ 255 < n) :
    Calls Try.prog 16 #[.int .i64 n] w fun e w' => e = .returned (.bool false) ∧ w = w' := by
  rcases h with h | h
  all_goals
    go_enter Try.func16, Try.ntmps16
    go_wp2
    all_goals
      go_ret
      first
        | exact ⟨rfl, rfl⟩
        | exact ⟨ret_eq (congrArg Value.bool (by rw [decide_eq_false_iff_not]; omega)), rfl⟩
theorem isn_yes (n : Int) (w : World) (h1 : 0 ≤ n) (h2 : n ≤ 4294967295) :
    Calls Try.prog 17 #[.int .i64 n] w fun e w' => e = .returned (.bool true) ∧ w = w' := by
  go_enter Try.func17, Try.ntmps17
  go_wp2
  go_ret
  first
    | exact ⟨rfl, rfl⟩
    | exact ⟨ret_eq (congrArg Value.bool (by rw [decide_eq_true_eq]; omega)), rfl⟩
theorem isn_no (n : Int) (w : World) (h : n < 0 ∨ 4294967295 < n) :
    Calls Try.prog 17 #[.int .i64 n] w fun e w' => e = .returned (.bool false) ∧ w = w' := by
  rcases h with h | h
  all_goals
    go_enter Try.func17, Try.ntmps17
    go_wp2
    all_goals
      go_ret
      first
        | exact ⟨rfl, rfl⟩
        | exact ⟨ret_eq (congrArg Value.bool (by rw [decide_eq_false_iff_not]; omega)), rfl⟩

/-! ### Sums -/
theorem bl_bytes {w : World} {a : Option Addr} {n : Nat} {l : List Nat} (h : BL w a n l) : Bytes w a n (nth l) :=
  ⟨h.2.1, fun i hi => nth_lt h.2.2.1 (by have := h.1; omega), h.2.2.2⟩
theorem sum_any (a : Option Addr) (n cap : Nat) (l : List Nat) (w : World) (h : BL w a n l) :
    Calls Try.prog 20 #[.slice a n cap] w fun e w' => e = .returned (.int .u32 (crc l)) ∧ w = w' := by
  have h1 := h.1
  unfold crc; rw [h1]
  exact of_any a n cap (nth l) w (bl_bytes h)
theorem rsum_any (a : Option Addr) (n cap : Nat) (l : List Nat) (w : World) (h : BL w a n l) :
    Calls Try.prog 11 #[.int .u32 0, .slice a n cap] w fun e w' => e = .returned (.int .u32 (crc l)) ∧ w = w' := by
  have h1 := h.1
  unfold crc; rw [h1]
  exact rmore_any 0 a n cap (nth l) w (by decide) (bl_bytes h)

theorem le4_nth (s : Nat) {j : Nat} (h : j < 4) : nth (le4 s) j = s / 256 ^ j % 256 := by
  have : j = 0 ∨ j = 1 ∨ j = 2 ∨ j = 3 := by omega
  rcases this with rfl | rfl | rfl | rfl <;> simp [le4, nth]
/-- l with the first j bytes of a sum behind it -/
def sk (l : List Nat) (s j : Nat) : List Nat := l ++ (le4 s).take j
theorem le4_step (s : Nat) (l : List Nat) {j : Nat} (h : j < 4) : sk l s j ++ [s / 256 ^ j % 256] = sk l s (j + 1) := by
  unfold sk
  rw [List.append_assoc, ← le4_nth s h, ← take_nth (show j < (le4 s).length from h)]

set_option maxRecDepth 100000 in
theorem asum_any (s : Nat) (v : Value) (l : List Nat) (base : Nat) (w : World) (ho : Own w base v l.length l) (hl : l.length ≤ 140737488351232) (hb : base ≤ w.heap.size) :
    Calls Try.prog 19 #[v, .int .u32 s] w fun e w' => ∃ A cap, e = .returned (.slice A (l.length + 4) cap) ∧ Own w' base (.slice A (l.length + 4) cap) (l.length + 4) (l ++ le4 s) ∧ Below base w w' := by
  obtain ⟨i0, hi, hz0, hz1, hz2⟩ := info_parts bytes8
  have ho' := Lib.hid ho
  clear ho
  go_enter Try.func19, Try.ntmps19
  go_wp2
  go_loopw [0, 6] (fun v i wr => ∃ j : Nat, j ≤ 4 ∧ i = .int .i64 j ∧ Hid (Own wr base v (l.length + j) (sk l s j)) ∧ Hid (Below base w wr)) (fun _ i _ => 4 - (intOf i).toNat)
  case atStart => exact ⟨0, by omega, rfl, Lib.hid (by have := ho'.out; unfold sk; rw [List.take_zero, List.append_nil, Nat.add_zero]; exact this), Lib.hid (Below.refl _ _)⟩
  case round =>
    obtain ⟨j, hj, rfl, hown, hB⟩ := hrel
    have hsz := Lib.hid hB.out.size
    clear ho'
    by_cases hlt : j < 4
    · have hone := one_byte wr (s / 256 ^ j % 256) (by omega)
      rw [Int.natCast_emod, ← shr_eq] at hone
      replace hone := Lib.hid hone
      have hst := Lib.hid (le4_step s l hlt)
      go_wp2_with (at_builtin; (refine wpList_app rfl _ _ 23 rfl base i0 Try.underlying23 hi hz0 hz1 hz2 _ _ (sk l s j) rfl (hown.out.alloc _) (some ⟨wr.heap.size, 0, none⟩) 1 1 [s / 256 ^ j % 256] rfl hone.out ?c1 ?c2 ?_))
      case c1 => omega
      case c2 => have := hsz.out; simp; omega
      intro v' w1 hown1 hgrow
      rw [hst.out] at hown1
      replace hown1 := Lib.hid hown1
      have hBn := Lib.hid (hown.out.alloc (.cells #[.int .u8 ((s : Int) / 2 ^ (8 * j) % ((256 : Nat) : Int))] 5) |>.grown (hB.out.alloc (by have := hsz.out; omega) _) hgrow (by have := hsz.out; simp; omega))
      clear hgrow hB hown
      go_wp2
      go_roundw
      case rel => exact ⟨j + 1, by omega, by go_num, hown1, hBn⟩
      case measure => simp [intOf]; omega
    · obtain rfl : j = 4 := by omega
      have e4 : sk l s 4 = l ++ le4 s := rfl
      rw [e4] at hown
      obtain ⟨A, cap, rfl, -⟩ := hown.out.form
      go_wp2
      go_ret
      exact ⟨A, cap, rfl, hown.out, hB.out⟩

/-- what the first j bytes come to, the lowest first -/
def lep (l : List Nat) : Nat → Nat
  | 0 => 0
  | j + 1 => lep l j + nth l j * 256 ^ j
theorem lep_lt {l : List Nat} (hl : ∀ c ∈ l, c < 256) {j : Nat} (h : j ≤ l.length) : lep l j < 256 ^ j := by
  induction j with
  | zero => exact Nat.one_pos
  | succ j ih =>
    have h1 := ih (by omega)
    have h2 := nth_lt hl (show j < l.length by omega)
    have h3 : nth l j * 256 ^ j ≤ 255 * 256 ^ j := Nat.mul_le_mul_right _ (by omega)
    show lep l j + nth l j * 256 ^ j < 256 ^ (j + 1)
    rw [Nat.pow_succ]; omega
theorem lep_ld (l : List Nat) (i : Nat) : lep ((l.drop i).take 4) 4 = ld4 l i := by
  simp only [lep, ld4]
  rw [nth_take _ (by omega), nth_take _ (by omega), nth_take _ (by omega), nth_take _ (by omega), nth_drop, nth_drop, nth_drop, nth_drop, Nat.add_zero]
  omega
theorem or32 (x c j : Nat) (hx : x < 256 ^ j) (hj : j < 4) (hc : c < 256) : bits .or .u32 (x : Int) ((c : Int) * 2 ^ (8 * j) % 4294967296) = ((x + c * 256 ^ j : Nat) : Int) := by
  have hp : c * 256 ^ j < 4294967296 := by
    have : j = 0 ∨ j = 1 ∨ j = 2 ∨ j = 3 := by omega
    rcases this with rfl | rfl | rfl | rfl <;> simp <;> omega
  have hx4 : x < 4294967296 := Nat.lt_of_lt_of_le hx (by have : (256 : Nat) ^ 4 = 4294967296 := by decide
                                                         rw [← this]; exact Nat.pow_le_pow_right (by decide) (by omega))
  have e : (c : Int) * 2 ^ (8 * j) = ((c * 256 ^ j : Nat) : Int) := by
    rw [Int.natCast_mul, ← pow_bits, Int.natCast_pow]; rfl
  rw [e, Int.emod_eq_of_lt (by omega) (by omega)]
  have hor : x ||| c * 256 ^ j < 2 ^ 32 := Nat.or_lt_two_pow (by omega) (by omega)
  have h1 : (BitVec.ofInt 32 (x : Int)).toNat = x := by
    rw [BitVec.ofInt_natCast, BitVec.toNat_ofNat]; exact Nat.mod_eq_of_lt (by omega)
  have h2 : (BitVec.ofInt 32 ((c * 256 ^ j : Nat) : Int)).toNat = c * 256 ^ j := by
    rw [BitVec.ofInt_natCast, BitVec.toNat_ofNat]; exact Nat.mod_eq_of_lt (by omega)
  show IntKind.u32.wrap ((BitVec.ofInt 32 (x : Int) ||| BitVec.ofInt 32 ((c * 256 ^ j : Nat) : Int)).toNat : Int) = _
  rw [BitVec.toNat_or, h1, h2, sumA.wraps_u32 _ (by omega) (by omega)]
  congr 1
  rw [Nat.or_comm, ← pow_bits, Nat.mul_comm c, ← Nat.two_pow_add_eq_or_of_lt (by rw [pow_bits]; exact hx), Nat.add_comm]

set_option maxRecDepth 100000 in
theorem tsum_any (a : Option Addr) (cap : Nat) (l : List Nat) (w : World) (hb : BL w a 4 l) :
    Calls Try.prog 23 #[.slice a 4 cap] w fun e w' => e = .returned (.int .u32 (lep l 4)) ∧ w = w' := by
  have hn := Lib.hid hb.1
  have hlt := Lib.hid hb.lt
  replace hb := Lib.hid hb
  go_enter Try.func23, Try.ntmps23
  go_wp2
  go_loop [3, 5] (fun t i => ∃ j x : Nat, j ≤ 4 ∧ Hid (x = lep l j) ∧ t = .int .u32 x ∧ i = .int .i64 j) (fun _ i => 4 - (intOf i).toNat)
  case atStart => exact ⟨0, 0, by omega, Lib.hid rfl, rfl, rfl⟩
  case round =>
    obtain ⟨j, x, hj, hx, rfl, rfl⟩ := hrel
    by_cases hlt1 : j < 4
    · have hjl : j < l.length := by have := hn.out; omega
      obtain ⟨b', off', rfl, hc⟩ := hb.out.at hlt1
      have hc8 := nth_lt hlt.out hjl
      have hor := Lib.hid (or32 x (nth l j) j (by rw [hx.out]; exact lep_lt hlt.out (by omega)) hlt1 hc8)
      clear hjl
      go_wp2
      go_round
      case rel => exact ⟨j + 1, x + nth l j * 256 ^ j, by omega, Lib.hid (by rw [hx.out]; rfl), by rw [hor.out], by go_num⟩
      case measure => simp [intOf]; omega
    · obtain rfl : j = 4 := by omega
      go_wp2
      go_ret
      exact ⟨ret_eq (congrArg (Value.int .u32) (by rw [hx.out])), rfl⟩

/-! ### Words -/
theorem tfv4 {l : List Nat} {i : Nat} (h : i + 4 ≤ l.length) : tfv (l.drop i) 4 = wd l i ∧ tfe (l.drop i) 4 = 0 := by
  have h4 : ¬ (l.drop i).length < (4 : Int).toNat := by rw [List.length_drop, show (4 : Int).toNat = 4 from rfl]; omega
  constructor
  · unfold tfv wd; rw [if_neg (by omega), if_neg h4]; rfl
  · unfold tfe; rw [if_neg (by omega), if_neg h4]
theorem wd_lt {l : List Nat} (hl : ∀ c ∈ l, c < 256) (i : Nat) : wd l i < 4294967296 := by
  unfold wd
  have h1 := bv_lt (l := (l.drop i).take 4) (fun c hc => hl c (List.mem_of_mem_drop (List.mem_of_mem_take hc)))
  have h2 : ((l.drop i).take 4).length ≤ 4 := by rw [List.length_take]; omega
  have h3 : (256 : Nat) ^ ((l.drop i).take 4).length ≤ 256 ^ 4 := Nat.pow_le_pow_right (by decide) h2
  have h4 : (256 : Nat) ^ 4 = 4294967296 := by decide
  omega
theorem w64 {n : Nat} (h : n < 9223372036854775808) : wrap64 (n : Int) = (n : Int) := by unfold wrap64; omega
set_option maxRecDepth 100000 in
theorem word_any (b off n cap i : Nat) (l : List Nat) (w : World) (hb : BL w (some ⟨b, off, none⟩) n l) (hcap : n ≤ cap) (_ : cap ≤ 9223372036854775807) (hi : i + 4 ≤ n) :
    Calls Try.prog 15 #[.slice (some ⟨b, off, none⟩) n cap, .int .i64 i] w fun e w' => e = .returned (.int .i64 (wd l i)) ∧ w = w' := by
  have hd := Lib.hid (hb.drop i)
  have hw := wd_lt hb.lt i
  have he := Lib.hid (tfv4 (l := l) (i := i) (by rw [hb.1]; exact hi))
  have hic : i < cap := by omega
  replace hb := Lib.hid hb
  go_enter Try.func15, Try.ntmps15
  go_wp2_with ((go_at_call 25; ((with_reducible refine (rtfixed_any _ _ _ 4 _ _ hd.out).mono ?_); rintro e w' ⟨rfl, rfl⟩)))
  all_goals (try (exfalso; omega))
  rw [he.out.1]
  go_ret
  exact ⟨ret_eq (congrArg (Value.int .i64) (w64 (by omega))), rfl⟩
end Go.Proofs.Ytgjgjnahdkoofaa.fraB
