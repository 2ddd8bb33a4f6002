/- The contracts of Uvar, in the program and in the document's own answer, of and of Same. -/
import Derived.Test.YtkbhmeajgmecoaaNumA
namespace Go.Proofs.Ytkbhmeajgmecoaa.numB
open Go.ChangeShapes Go.WideShapes Go.ChangeAt Go.RowKit
open numM rowA byt numA

theorem below_grown {w w1 w2 : World} {row : Option Nat} {B : Nat} (hB : Below B w w1) (hg : w1.grownBy w2 row) (hb : B ≤ w1.heap.size) (hr : ∀ k, row = some k → B ≤ k) : Below B w w2 := hB.grown hg hb hr

/-- What a call answers that makes a row of bytes: the row is its own, and nothing that was there is touched. -/
def Makes (w : World) (l : List Nat) (e : Ending) (w' : World) : Prop := ∃ A cap, e = .returned (.slice A l.length cap) ∧ Own w' w.heap.size (.slice A l.length cap) l.length l ∧ Below w.heap.size w w'
theorem Makes.of {w w' : World} {l : List Nat} {v : Value} {n : Nat} (hn : l.length = n) (h : Own w' w.heap.size v n l) (hB : Below w.heap.size w w') : Makes w l (.returned v) w' := by
  subst hn
  obtain ⟨A, cap, rfl, _⟩ := h.form
  exact ⟨A, cap, rfl, h, hB⟩

theorem one_byte (w : World) (c : Nat) (hc : c < 256) : BL (w.alloc (.cells #[.int .u8 c] 5)) (some ⟨w.heap.size, 0, none⟩) 1 [c] := by
  refine ⟨rfl, by omega, by simpa using hc, .inr ⟨w.heap.size, 0, rfl, by simp, fun i hi => ?_⟩⟩
  obtain rfl : i = 0 := by omega
  exact cell_of_row _ _ 0 #[.int .u8 c] 5 (0, 0) (heap_alloc_new w _)

theorem or_128 : ∀ a, a < 256 → a ||| 128 = a % 128 + 128 := by decide +kernel
theorem or_top (m : Nat) : bits .or .u8 ((m : Int) % 256) 128 = ((m % 128 + 128 : Nat) : Int) := by
  have h := u8_or_nat (m % 256) 128 (by omega) (by decide)
  rw [or_128 _ (by omega), show m % 256 % 128 = m % 128 by omega] at h
  exact h
theorem div_128 (m : Nat) : (m : Int) / 128 = ((m / 128 : Nat) : Int) := by omega
set_option maxRecDepth 100000 in
theorem uvar_any (n : Nat) (w : World) (hn : n < 18446744073709551616) :
    Calls Try.prog 79 #[.int .u64 n] w (Makes w (uv n)) := by
  go_enter Try.func79, Try.ntmps79
  go_wp2
  go_loopw [0, 3] (fun t v wr => ∃ (m : Nat) (l : List Nat), m < 18446744073709551616 ∧ t = .int .u64 m ∧ l ++ uv m = uv n ∧ Own wr w.heap.size v l.length l ∧ Below w.heap.size w wr) (fun t _ _ => (intOf t).toNat)
  case atStart => exact ⟨n, [], hn, rfl, rfl, Own.nil_ w _, Below.refl _ _⟩
  case round =>
    obtain ⟨m, l, hm, rfl, hl, hown, hB⟩ := hrel
    obtain ⟨i0, hi, hz0, hz1, hz2⟩ := info_parts bytes8
    have hlen : l.length ≤ 10 := by
      have := uv_len10 hn
      rw [← hl, List.length_append] at this; omega
    replace hl := Lib.hid hl
    have hsz := Lib.hid hB.size
    replace hown := Lib.hid hown
    by_cases hlt : m < 128
    · have hone := Lib.hid (one_byte wr m (by omega))
      go_wp2_with (at_builtin; (refine wpList_app rfl _ _ 31 rfl w.heap.size i0 Try.underlying31 hi hz0 hz1 hz2 _ _ l rfl (hown.out.alloc _) (some ⟨wr.heap.size, 0, none⟩) 1 1 [m] rfl hone.out ?c1 ?c2 ?_))
      case c1 => omega
      case c2 => have := hsz.out; simp; omega
      intro v' w1 hown1 hgrow
      replace hown1 := Lib.hid hown1
      have hBn := Lib.hid (hown.out.alloc (.cells #[.int .u8 m] 5) |>.grown (hB.alloc hsz.out _) hgrow (by have := hsz.out; simp; omega))
      clear hgrow hB
      go_wp2
      go_ret
      rw [← hl.out, uv_small hlt]
      exact Makes.of (by rw [List.length_append]; rfl) hown1.out hBn.out
    · have hone := Lib.hid (one_byte wr (m % 128 + 128) (by omega))
      rw [← or_top] at hone
      go_wp2_with (at_builtin; (refine wpList_app rfl _ _ 31 rfl w.heap.size i0 Try.underlying31 hi hz0 hz1 hz2 _ _ l rfl (hown.out.alloc _) (some ⟨wr.heap.size, 0, none⟩) 1 1 [m % 128 + 128] rfl hone.out ?c3 ?c4 ?_))
      case c3 => omega
      case c4 => have := hsz.out; simp; omega
      intro v' w1 hown1 hgrow
      replace hown1 := Lib.hid hown1
      have hBn := Lib.hid (hown.out.alloc (.cells #[.int .u8 (bits .or .u8 ((m : Int) % 256) 128)] 5) |>.grown (hB.alloc hsz.out _) hgrow (by have := hsz.out; simp; omega))
      clear hgrow hB hown
      go_wp2
      go_roundw
      case rel => exact ⟨m / 128, l ++ [m % 128 + 128], by omega, by rw [← div_128], by rw [← hl.out, uv_great hlt, List.append_assoc]; rfl, by rw [List.length_append]; exact hown1.out, hBn.out⟩
      case measure => simp [intOf]; omega

theorem low_top (m : Nat) : (m : Int) % 128 + 128 = ((m % 128 + 128 : Nat) : Int) := by omega
set_option maxRecDepth 100000 in
theorem ruvar_any (n : Nat) : ∀ (w : World), n < 18446744073709551616 → Calls Try.prog 58 #[.int .u64 n] w (Makes w (uv n)) := by
  induction n using Nat.strongRecOn with
  | ind n ih =>
    intro w hn
    obtain ⟨i0, hi, hz0, hz1, hz2⟩ := info_parts bytes8
    by_cases hlt : n < 128
    · clear ih hi
      have ho := Lib.hid (Own.made w w.heap.size (Nat.le_refl _) [n] (by intro c hc; simp at hc; omega) (by simp) #[.int .u8 n] rfl)
      go_enter Try.func58, Try.ntmps58
      go_wp2
      go_ret
      rw [uv_small hlt]
      exact Makes.of rfl ho.out ((Below.refl _ _).alloc (Nat.le_refl _) _)
    · have ih1 : ∀ w : World, Calls Try.prog 58 #[.int .u64 ((n : Int) / 128)] w (Makes w (uv (n / 128))) := by
        intro w
        rw [div_128]
        exact ih (n / 128) (by omega) w (by omega)
      have ih' := Lib.hid ih1
      clear ih ih1
      have ho := Lib.hid (Own.made w w.heap.size (Nat.le_refl _) [n % 128 + 128] (by intro c hc; simp at hc; omega) (by simp) #[.int .u8 ((n % 128 + 128 : Nat) : Int)] rfl)
      rw [← low_top] at ho
      go_enter Try.func58, Try.ntmps58
      go_wp2_with (fail)
      refine (ih'.out _).mono ?_
      rintro e w1 ⟨A, cap, rfl, hown, hB⟩
      obtain ⟨_, _, e0, _, _, _, _, hb⟩ := hown.form
      cases e0
      have hB0 : Below w.heap.size w w1 := ((Below.refl w.heap.size w).alloc (Nat.le_refl _) _).trans (hB.mono (by simp))
      have hob := Lib.hid (Own.below ho.out hB (Nat.le_refl _))
      have hb1 := Lib.hid hb
      have hlen := uv_len10 (show n / 128 < 18446744073709551616 by omega)
      have hsz := Lib.hid hB0.size
      clear hown hb hB
      go_wp2_with (at_builtin; (refine wpList_app rfl _ _ 31 rfl w.heap.size i0 Try.underlying31 hi hz0 hz1 hz2 _ _ [n % 128 + 128] rfl hob.out A _ cap (uv (n / 128)) rfl hb1.out ?c1 ?c2 ?_))
      case c1 => simp; omega
      case c2 => exact hsz.out
      intro v' w2 hown2 hgrow
      replace hown2 := Lib.hid hown2
      have hBn := Lib.hid (hob.out.grown hB0 hgrow hsz.out)
      clear hgrow hB0
      go_wp2
      go_ret
      rw [uv_great hlt]
      exact Makes.of (by rw [List.length_cons, Nat.add_comm]) hown2.out hBn.out

theorem same_any (a : Option Addr) (n c : Nat) (l : List Nat) (b : Option Addr) (m d : Nat) (w : World) (h1 : BL w a n l) (h2 : BL w b m l) :
    Calls Try.prog 16 #[.slice a n c, .slice b m d] w fun e w' => e = .returned (.bool true) ∧ w = w' := by
  have e1 := run_str (P := Try.prog) 31 5 9 Try.underlying31 Try.underlying5 Try.underlying9 c h1
  have e2 := run_str (P := Try.prog) 31 5 9 Try.underlying31 Try.underlying5 Try.underlying9 d h2
  clear h1 h2
  go_enter Try.func16, Try.ntmps16
  go_wp2
  go_ret
  exact ⟨rfl, rfl⟩

end Go.Proofs.Ytkbhmeajgmecoaa.numB
