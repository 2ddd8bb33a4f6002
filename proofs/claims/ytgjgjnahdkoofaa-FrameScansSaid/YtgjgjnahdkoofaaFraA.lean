/- Small words on bytes and worlds, and the contract of Same. -/
import Derived.Test.YtgjgjnahdkoofaaByt
import Derived.LoopTactic
import Derived.WalkLawsBesides
import Derived.Lib.Hide
import Derived.Outline
import Derived.WalkSpells
import Derived.Laws.BitsAllLaws
import Derived.Deep.RegionHeld3
import Derived.Deep.DeepCutAuto
namespace Go.Proofs.Ytgjgjnahdkoofaa.numA
open Go.ChangeShapes Go.WideShapes Go.ChangeAt Go.RowKit
open numM rowA byt

theorem ret_eq {a b : Value} (h : a = b) : Ending.returned a = Ending.returned b := by rw [h]

theorem ret3 {a b c a' b' c' : Value} (h1 : a = a') (h2 : b = b') (h3 : c = c') : Ending.returned (.tuple #[a, b, c]) = Ending.returned (.tuple #[a', b', c']) := by rw [h1, h2, h3]
theorem ret2 {a b a' b' : Value} (h1 : a = a') (h2 : b = b') : Ending.returned (.tuple #[a, b]) = Ending.returned (.tuple #[a', b']) := by rw [h1, h2]

/-! ### Bits -/
theorem wrap64_nat (n : Nat) (h : n < 18446744073709551616) : IntKind.u64.wrap (n : Int) = (n : Int) := by
  rw [IntKind.wrap_u64]; exact Int.emod_eq_of_lt (Int.natCast_nonneg n) (Int.ofNat_lt.2 h)
theorem low7 (c : Nat) (hc : c < 256) : bits .andNot .u8 (c : Int) 128 = ((c % 128 : Nat) : Int) := by
  have h := u8_andNot_nat c 128 hc (by decide)
  rw [show ((128 : Nat) : Int) = 128 from rfl] at h
  rw [h, show 255 - 128 = 2 ^ 7 - 1 from rfl, Nat.and_two_pow_sub_one_eq_mod]
theorem pow7 (j : Nat) : (2 : Nat) ^ (7 * j) = 128 ^ j := by rw [Nat.pow_mul]
theorem acc_lt (x c j : Nat) (hx : x < 128 ^ j) (hj : j ≤ 9) (hc : c < 128) (h9 : j = 9 → c ≤ 1) : x + c * 128 ^ j < 18446744073709551616 := by
  by_cases h : j = 9
  · subst h
    have e : (128 : Nat) ^ 9 = 9223372036854775808 := by decide
    have := h9 rfl
    rw [e] at hx ⊢; omega
  · have h8 : (128 : Nat) ^ 8 = 72057594037927936 := by decide
    have hp : (128 : Nat) ^ j ≤ 128 ^ 8 := Nat.pow_le_pow_right (by decide) (by omega)
    have : c * 128 ^ j ≤ 127 * 128 ^ 8 := Nat.mul_le_mul (by omega) hp
    omega
theorem acc_eq (x c j : Nat) (hx : x < 128 ^ j) (hj : j ≤ 9) (hc : c < 256) (h9 : j = 9 → c % 128 ≤ 1) :
    bits .or .u64 (x : Int) (IntKind.u64.wrap (IntKind.u64.wrap (bits .andNot .u8 (c : Int) 128) * 2 ^ (7 * j))) = ((x + (c % 128) * 128 ^ j : Nat) : Int) := by
  have hb := acc_lt x (c % 128) j hx hj (by omega) h9
  have e : ((c % 128 : Nat) : Int) * 2 ^ (7 * j) = (((c % 128) * 128 ^ j : Nat) : Int) := by
    rw [Int.natCast_mul, ← pow7, Int.natCast_pow]; rfl
  rw [low7 c hc, wrap64_nat _ (by omega), e, wrap64_nat _ (by omega), u64_or_nat _ _ (by omega) (by omega)]
  congr 1
  rw [Nat.or_comm, ← pow7, Nat.mul_comm (c % 128), ← Nat.two_pow_add_eq_or_of_lt (by rw [pow7]; exact hx), Nat.add_comm]

end Go.Proofs.Ytgjgjnahdkoofaa.numA
namespace Go.Proofs.Ytgjgjnahdkoofaa.numB
open Go.ChangeShapes Go.WideShapes Go.ChangeAt Go.RowKit
open numM rowA byt numA

theorem below_grown {w w1 w2 : World} {row : Option Nat} {B : Nat} (hB : Below B w w1) (hg : w1.grownBy w2 row) (hb : B ≤ w1.heap.size) (hr : ∀ k, row = some k → B ≤ k) : Below B w w2 := hB.grown hg hb hr

/-- What a call answers that makes a row of bytes: the row is its own, and nothing that was there is touched. -/
def Makes (w : World) (l : List Nat) (e : Ending) (w' : World) : Prop := ∃ A cap, e = .returned (.slice A l.length cap) ∧ Own w' w.heap.size (.slice A l.length cap) l.length l ∧ Below w.heap.size w w'
theorem Makes.of {w w' : World} {l : List Nat} {v : Value} {n : Nat} (hn : l.length = n) (h : Own w' w.heap.size v n l) (hB : Below w.heap.size w w') : Makes w l (.returned v) w' := by
  subst hn
  obtain ⟨A, cap, rfl, _⟩ := h.form
  exact ⟨A, cap, rfl, h, hB⟩

theorem one_byte (w : World) (c : Nat) (hc : c < 256) : BL (w.alloc (.cells #[.int .u8 c] 5)) (some ⟨w.heap.size, 0, none⟩) 1 [c] := by
  refine ⟨rfl, by omega, by simpa using hc, .inr ⟨w.heap.size, 0, rfl, by simp, fun i hi => ?_⟩⟩
  obtain rfl : i = 0 := by omega
  exact cell_of_row _ _ 0 #[.int .u8 c] 5 (0, 0) (heap_alloc_new w _)

end Go.Proofs.Ytgjgjnahdkoofaa.numB
namespace Go.Proofs.Ytgjgjnahdkoofaa.numC
open Go.ChangeShapes Go.WideShapes Go.ChangeAt Go.RowKit
open numM rowA byt numA numB

theorem trans0 {w w1 w2 : World} (h1 : Below w.heap.size w w1) (h2 : Below w1.heap.size w1 w2) : Below w.heap.size w w2 := h1.trans (h2.mono h1.size)

/-- the bytes lie in w' too, and nothing that was there is touched -/
def S1 (w : World) (a : Option Addr) (k : Nat) (l : List Nat) (w' : World) : Prop := BL w' a k l ∧ Below w.heap.size w w'
theorem S1.start {w : World} {a : Option Addr} {k : Nat} {l : List Nat} (h : BL w a k l) : S1 w a k l w := ⟨h, Below.refl _ _⟩
theorem S1.step {w w1 w2 : World} {a : Option Addr} {k : Nat} {l : List Nat} (h : S1 w a k l w1) (hB : Below w1.heap.size w1 w2) : S1 w a k l w2 := ⟨h.1.below hB, trans0 h.2 hB⟩
theorem S1.drew {w w1 : World} {a : Option Addr} {k : Nat} {l : List Nat} (h : S1 w a k l w1) : S1 w a k l w1.drew := ⟨h.1, h.2.drew⟩
theorem S1.bl {w w1 : World} {a : Option Addr} {k : Nat} {l : List Nat} (h : S1 w a k l w1) : BL w1 a k l := h.1
theorem own_bl {w : World} {base n c m : Nat} {A : Option Addr} {l : List Nat} (h : Own w base (.slice A n c) m l) : BL w A m l := by
  obtain ⟨_, _, e0, _, _, _, _, hb⟩ := h.form
  cases e0
  exact hb
end Go.Proofs.Ytgjgjnahdkoofaa.numC
