/- Plain mathematics of numbers of a fixed width. No program. -/
import Derived.Test.YtgjgjnahdkoofaaNumM
namespace Go.Proofs.Ytgjgjnahdkoofaa.numN
open numM

/-- the k lowest bytes of n, the highest first -/
def fx : Nat → Nat → List Nat
  | 0, _ => []
  | k + 1, n => (n / 256 ^ k % 256) :: fx k n
/-- what bytes come to, the highest first -/
def bv (l : List Nat) : Nat := l.foldl (fun n c => n * 256 + c) 0
theorem fx_len (k n : Nat) : (fx k n).length = k := by
  induction k with
  | zero => rfl
  | succ k ih => simp [fx, ih]
theorem fx_lt (k n : Nat) : ∀ c ∈ fx k n, c < 256 := by
  induction k with
  | zero => intro c hc; cases hc
  | succ k ih =>
    intro c hc
    rcases List.mem_cons.1 hc with rfl | hc
    · exact Nat.mod_lt _ (by decide)
    · exact ih c hc
theorem fx_nth (k n i : Nat) (h : i < k) : nth (fx k n) i = n / 256 ^ (k - 1 - i) % 256 := by
  induction k generalizing i with
  | zero => omega
  | succ k ih =>
    rcases i with _ | i
    · show n / 256 ^ k % 256 = _
      rw [show k + 1 - 1 - 0 = k by omega]
    · show nth (fx k n) i = _
      rw [ih i (by omega), show k + 1 - 1 - (i + 1) = k - 1 - i by omega]
theorem bv_at (l : List Nat) (a : Nat) (hl : ∀ c ∈ l, c < 256) : l.foldl (fun n c => n * 256 + c) a < (a + 1) * 256 ^ l.length := by
  induction l generalizing a with
  | nil => simp
  | cons c r ih =>
    have hc := hl c (by simp)
    have := ih (a * 256 + c) (fun x hx => hl x (by simp [hx]))
    have h2 : (a * 256 + c + 1) * 256 ^ r.length ≤ (a + 1) * 256 * 256 ^ r.length := Nat.mul_le_mul_right _ (by omega)
    rw [List.foldl_cons, List.length_cons, Nat.pow_succ, Nat.mul_comm (256 ^ r.length), ← Nat.mul_assoc]
    omega
theorem bv_lt {l : List Nat} (hl : ∀ c ∈ l, c < 256) : bv l < 256 ^ l.length := by
  have := bv_at l 0 hl
  simpa [bv] using this
theorem bv_snoc (l : List Nat) (c : Nat) : bv (l ++ [c]) = bv l * 256 + c := by simp [bv]
theorem take_nth {l : List Nat} {j : Nat} (h : j < l.length) : l.take (j + 1) = l.take j ++ [nth l j] := by
  rw [List.take_succ_eq_append_getElem h]
  unfold nth
  rw [List.getD_eq_getElem?_getD, List.getElem?_eq_getElem h]; rfl
theorem bv_step {l : List Nat} {j : Nat} (h : j < l.length) : bv (l.take (j + 1)) = bv (l.take j) * 256 + nth l j := by rw [take_nth h, bv_snoc]
theorem bv_take {l : List Nat} (hl : ∀ c ∈ l, c < 256) {j : Nat} (h : j ≤ l.length) : bv (l.take j) < 256 ^ j := by
  have := bv_lt (l := l.take j) (fun c hc => hl c (List.mem_of_mem_take hc))
  rwa [List.length_take, Nat.min_eq_left h] at this
theorem fold_fx (k n : Nat) : ∀ a, (fx k n).foldl (fun n c => n * 256 + c) a = a * 256 ^ k + n % 256 ^ k := by
  induction k with
  | zero => intro a; simp [fx]; omega
  | succ k ih =>
    intro a
    show (fx k n).foldl (fun n c => n * 256 + c) (a * 256 + n / 256 ^ k % 256) = _
    rw [ih, Nat.pow_succ, Nat.mod_mul, Nat.add_mul, Nat.mul_comm (256 ^ k) (n / 256 ^ k % 256), Nat.mul_comm (256 ^ k) 256, ← Nat.mul_assoc]
    omega
theorem bv_fx {k n : Nat} (h : n < 256 ^ k) : bv (fx k n) = n := by
  unfold bv
  rw [fold_fx, Nat.mod_eq_of_lt h]; omega

/-- the first j of the bytes, nought behind them -/
def up (l : List Nat) (j : Nat) : List Nat := l.take j ++ List.replicate (l.length - j) 0
theorem up_zero (l : List Nat) : up l 0 = List.replicate l.length 0 := by simp [up]
theorem up_all (l : List Nat) : up l l.length = l := by simp [up]
theorem up_len (l : List Nat) {j : Nat} (h : j ≤ l.length) : (up l j).length = l.length := by simp [up]; omega
theorem up_set {l : List Nat} {j : Nat} (h : j < l.length) : (up l j).set j (nth l j) = up l (j + 1) := by
  unfold up
  rw [take_nth h, List.set_append_right _ _ (by rw [List.length_take]; omega), List.length_take, Nat.min_eq_left (by omega), Nat.sub_self, show l.length - j = (l.length - (j + 1)) + 1 by omega, List.replicate_succ]
  simp
theorem pow_bits (k : Nat) : (2 : Nat) ^ (8 * k) = 256 ^ k := by rw [Nat.pow_mul]
theorem pow_le8 {k : Nat} (h : k ≤ 8) : 256 ^ k ≤ 18446744073709551616 := by
  have : (256 : Nat) ^ 8 = 18446744073709551616 := by decide
  rw [← this]; exact Nat.pow_le_pow_right (by decide) h
end Go.Proofs.Ytgjgjnahdkoofaa.numN
