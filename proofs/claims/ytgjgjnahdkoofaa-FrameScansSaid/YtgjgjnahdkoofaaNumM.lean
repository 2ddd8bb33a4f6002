/- Plain mathematics of the num layer: short numbers, numbers of a fixed width, and what is read of any bytes. No program. -/
import Derived.Below
namespace Go.Proofs.Ytgjgjnahdkoofaa.numM

/-! ### Short numbers -/
/-- the bytes of a short number -/
def uv (n : Nat) : List Nat := if n < 128 then [n] else (n % 128 + 128) :: uv (n / 128)
termination_by n
decreasing_by omega
/-- what is read of bytes as a short number, from place i on, with a taken in already: the number, how many bytes, the error -/
def tk : Nat → Nat → List Nat → Nat × Nat × Nat
  | _, _, [] => (0, 0, 2)
  | i, a, c :: r => if (0 < i ∧ c = 0) ∨ (i = 9 ∧ 1 < c) then (0, 0, 3) else if c < 128 then (a + c * 128 ^ i, i + 1, 0) else tk (i + 1) (a + (c - 128) * 128 ^ i) r
def tkv (l : List Nat) : Nat := (tk 0 0 l).1
def tkn (l : List Nat) : Nat := (tk 0 0 l).2.1
def tke (l : List Nat) : Nat := (tk 0 0 l).2.2
/-- the byte at a place -/
def nth (l : List Nat) (i : Nat) : Nat := l.getD i 0

theorem uv_small {n : Nat} (h : n < 128) : uv n = [n] := by rw [uv, if_pos h]
theorem uv_great {n : Nat} (h : ¬ n < 128) : uv n = (n % 128 + 128) :: uv (n / 128) := by rw [uv, if_neg h]
theorem uv_pos (n : Nat) : 0 < (uv n).length := by
  by_cases h : n < 128
  · rw [uv_small h]; simp
  · rw [uv_great h]; simp
theorem uv_lt (n : Nat) : ∀ c ∈ uv n, c < 256 := by
  induction n using Nat.strongRecOn with
  | ind n ih =>
    by_cases h : n < 128
    · rw [uv_small h]; intro c hc; simp at hc; omega
    · rw [uv_great h]
      intro c hc
      rcases List.mem_cons.1 hc with rfl | hc
      · omega
      · exact ih (n / 128) (by omega) c hc
theorem uv_len (n k : Nat) (h : n < 128 ^ (k + 1)) : (uv n).length ≤ k + 1 := by
  induction k generalizing n with
  | zero => rw [uv_small (by simpa using h)]; simp
  | succ k ih =>
    by_cases h1 : n < 128
    · rw [uv_small h1]; simp
    · rw [uv_great h1]
      have := ih (n / 128) (by rw [Nat.div_lt_iff_lt_mul (by decide)]; rw [Nat.pow_succ] at h; exact h)
      simp; omega
theorem uv_len10 {n : Nat} (h : n < 18446744073709551616) : (uv n).length ≤ 10 := uv_len n 9 (Nat.lt_of_lt_of_le h (by decide))

theorem nth_mem {l : List Nat} {i : Nat} (h : i < l.length) : nth l i ∈ l := by
  unfold nth
  rw [List.getD_eq_getElem?_getD, List.getElem?_eq_getElem h]
  exact List.getElem_mem h
theorem nth_lt {l : List Nat} (hl : ∀ c ∈ l, c < 256) {i : Nat} (h : i < l.length) : nth l i < 256 := hl _ (nth_mem h)
theorem drop_nth {l : List Nat} {i : Nat} (h : i < l.length) : l.drop i = nth l i :: l.drop (i + 1) := by
  rw [List.drop_eq_getElem_cons h]
  unfold nth
  rw [List.getD_eq_getElem?_getD, List.getElem?_eq_getElem h]; rfl

/-- the state of reading: j bytes are taken in, and what they come to is a -/
def Tk (l : List Nat) (j a : Nat) : Prop := a < 128 ^ j ∧ tk j a (l.drop j) = tk 0 0 l
theorem Tk.start (l : List Nat) : Tk l 0 0 := ⟨by decide, rfl⟩
theorem Tk.next {l : List Nat} {j a : Nat} (h : Tk l j a) (hj : j < l.length) (h1 : ¬ ((0 < j ∧ nth l j = 0) ∨ (j = 9 ∧ 1 < nth l j))) (h2 : ¬ nth l j < 128) (h3 : nth l j < 256) : Tk l (j + 1) (a + (nth l j - 128) * 128 ^ j) := by
  refine ⟨?_, ?_⟩
  · have := h.1
    have hm : (nth l j - 128) * 128 ^ j ≤ 127 * 128 ^ j := Nat.mul_le_mul_right _ (by omega)
    rw [Nat.pow_succ]; omega
  · rw [← h.2, drop_nth hj]
    conv => rhs; unfold tk
    rw [if_neg h1, if_neg h2]
theorem Tk.bad {l : List Nat} {j a : Nat} (h : Tk l j a) (hj : j < l.length) (h1 : (0 < j ∧ nth l j = 0) ∨ (j = 9 ∧ 1 < nth l j)) : tkv l = 0 ∧ tkn l = 0 ∧ tke l = 3 := by
  have e : tk 0 0 l = (0, 0, 3) := by
    rw [← h.2, drop_nth hj]; unfold tk; rw [if_pos h1]
  unfold tkv tkn tke; rw [e]; exact ⟨rfl, rfl, rfl⟩
theorem Tk.last {l : List Nat} {j a : Nat} (h : Tk l j a) (hj : j < l.length) (h1 : ¬ ((0 < j ∧ nth l j = 0) ∨ (j = 9 ∧ 1 < nth l j))) (h2 : nth l j < 128) : tkv l = a + nth l j * 128 ^ j ∧ tkn l = j + 1 ∧ tke l = 0 := by
  have e : tk 0 0 l = (a + nth l j * 128 ^ j, j + 1, 0) := by
    rw [← h.2, drop_nth hj]; unfold tk; rw [if_neg h1, if_pos h2]
  unfold tkv tkn tke; rw [e]; exact ⟨rfl, rfl, rfl⟩
theorem Tk.short {l : List Nat} {j a : Nat} (h : Tk l j a) (hj : l.length ≤ j) : tkv l = 0 ∧ tkn l = 0 ∧ tke l = 2 := by
  have e : tk 0 0 l = (0, 0, 2) := by
    rw [← h.2, List.drop_of_length_le hj]; rfl
  unfold tkv tkn tke; rw [e]; exact ⟨rfl, rfl, rfl⟩

/-- a number that is written is read back, whatever is behind it -/
theorem tk_uv (n : Nat) : ∀ (i a : Nat) (m : List Nat), (i = 0 ∨ 0 < n) → n * 128 ^ i < 18446744073709551616 → tk i a (uv n ++ m) = (a + n * 128 ^ i, i + (uv n).length, 0) := by
  induction n using Nat.strongRecOn with
  | ind n ih =>
    intro i a m h0 hb
    have h9 : i = 9 → n < 2 := by
      rintro rfl
      have : (128 : Nat) ^ 9 = 9223372036854775808 := by decide
      rw [this] at hb; omega
    by_cases h : n < 128
    · rw [uv_small h]
      show tk i a (n :: m) = _
      unfold tk
      rw [if_neg (by omega), if_pos h]; rfl
    · rw [uv_great h]
      show tk i a ((n % 128 + 128) :: (uv (n / 128) ++ m)) = _
      unfold tk
      rw [if_neg (by omega), if_neg (by omega)]
      have hle : n / 128 * 128 ^ (i + 1) ≤ n * 128 ^ i := by
        rw [Nat.pow_succ, ← Nat.mul_assoc, Nat.mul_right_comm]
        exact Nat.mul_le_mul_right _ (by omega)
      rw [ih (n / 128) (by omega) (i + 1) _ m (.inr (by omega)) (by omega)]
      have e : (n % 128 + 128 - 128) * 128 ^ i + n / 128 * 128 ^ (i + 1) = n * 128 ^ i := by
        rw [Nat.pow_succ, ← Nat.mul_assoc, Nat.mul_right_comm, ← Nat.add_mul]
        congr 1; omega
      rw [List.length_cons, Nat.add_assoc a, e, Nat.add_assoc i, Nat.add_comm 1]
theorem tk_back {n : Nat} (h : n < 18446744073709551616) (m : List Nat) : tkv (uv n ++ m) = n ∧ tkn (uv n ++ m) = (uv n).length ∧ tke (uv n ++ m) = 0 := by
  have := tk_uv n 0 0 m (.inl rfl) (by simpa using h)
  unfold tkv tkn tke
  rw [this]; simp
/-- a number that is cut off is short -/
theorem tk_cuts (n : Nat) : ∀ (i a k : Nat), (i = 0 ∨ 0 < n) → n * 128 ^ i < 18446744073709551616 → k < (uv n).length → tk i a ((uv n).take k) = (0, 0, 2) := by
  induction n using Nat.strongRecOn with
  | ind n ih =>
    intro i a k h0 hb hk
    have h9 : i = 9 → n < 2 := by
      rintro rfl
      have : (128 : Nat) ^ 9 = 9223372036854775808 := by decide
      rw [this] at hb; omega
    by_cases h : n < 128
    · rw [uv_small h] at hk ⊢
      obtain rfl : k = 0 := by simpa using hk
      rfl
    · rw [uv_great h] at hk ⊢
      rcases k with _ | k
      · rfl
      · rw [List.take_succ_cons]
        unfold tk
        rw [if_neg (by omega), if_neg (by omega)]
        have hle : n / 128 * 128 ^ (i + 1) ≤ n * 128 ^ i := by
          rw [Nat.pow_succ, ← Nat.mul_assoc, Nat.mul_right_comm]
          exact Nat.mul_le_mul_right _ (by omega)
        exact ih (n / 128) (by omega) (i + 1) _ k (.inr (by omega)) (by omega) (by simpa using hk)
theorem tk_cut {n k : Nat} (h : n < 18446744073709551616) (hk : k < (uv n).length) : tkv ((uv n).take k) = 0 ∧ tkn ((uv n).take k) = 0 ∧ tke ((uv n).take k) = 2 := by
  have := tk_cuts n 0 0 k (.inl rfl) (by simpa using h) hk
  unfold tkv tkn tke
  rw [this]; simp
theorem dvd64 (j : Nat) (h : j ≤ 9) : ∃ q, q * 128 ^ j = 18446744073709551616 := by
  refine ⟨2 ^ (64 - 7 * j), ?_⟩
  rw [show (128 : Nat) = 2 ^ 7 from rfl, ← Nat.pow_mul, ← Nat.pow_add, show 64 - 7 * j + 7 * j = 64 by omega]
/-- what is read is a number's one form, and fits -/
theorem tk_form (l : List Nat) : ∀ (i a v k : Nat), (∀ c ∈ l, c < 256) → i ≤ 9 → tk i a l = (v, k, 0) → ∃ n, v = a + n * 128 ^ i ∧ (0 < i → 0 < n) ∧ n * 128 ^ i < 18446744073709551616 ∧ ∃ j, k = i + j ∧ 0 < j ∧ j ≤ l.length ∧ uv n = l.take j := by
  induction l with
  | nil => intro i a v k _ _ h; simp [tk] at h
  | cons c r ih =>
    intro i a v k hl hi h
    have hc : c < 256 := hl c (by simp)
    unfold tk at h
    by_cases h1 : (0 < i ∧ c = 0) ∨ (i = 9 ∧ 1 < c)
    · rw [if_pos h1] at h; simp at h
    · rw [if_neg h1] at h
      by_cases h2 : c < 128
      · rw [if_pos h2] at h
        simp only [Prod.mk.injEq] at h
        obtain ⟨rfl, rfl, _⟩ := h
        refine ⟨c, rfl, fun _ => by omega, ?_, 1, rfl, by omega, by simp, by rw [uv_small h2]; rfl⟩
        by_cases h9 : i = 9
        · subst h9
          have : (128 : Nat) ^ 9 = 9223372036854775808 := by decide
          rw [this]; omega
        · have hp : (128 : Nat) ^ i ≤ 128 ^ 8 := Nat.pow_le_pow_right (by decide) (by omega)
          have h8 : (128 : Nat) ^ 8 = 72057594037927936 := by decide
          have : c * 128 ^ i ≤ 127 * 128 ^ 8 := Nat.mul_le_mul (by omega) hp
          omega
      · rw [if_neg h2] at h
        have hi9 : i ≠ 9 := fun e => h1 (.inr ⟨e, by omega⟩)
        obtain ⟨n, hv, hn, hb, j, hk, hj, hjl, hu⟩ := ih (i + 1) _ v k (fun x hx => hl x (by simp [hx])) (by omega) h
        have hn0 := hn (by omega)
        have e : (c - 128) * 128 ^ i + n * 128 ^ (i + 1) = (c - 128 + 128 * n) * 128 ^ i := by
          rw [Nat.pow_succ, Nat.add_mul, Nat.mul_comm (128 ^ i) 128, ← Nat.mul_assoc, Nat.mul_comm n 128]
        refine ⟨c - 128 + 128 * n, by rw [hv, Nat.add_assoc, e], fun _ => by omega, ?_, j + 1, by omega, by omega, by simpa using hjl, ?_⟩
        · have hlt : (c - 128) * 128 ^ i < 128 ^ (i + 1) := by
            rw [Nat.pow_succ, Nat.mul_comm]
            exact Nat.mul_lt_mul_of_pos_left (by omega) (Nat.pow_pos (by decide))
          obtain ⟨q, hq⟩ := dvd64 (i + 1) (by omega)
          rw [← e]
          rw [← hq] at hb ⊢
          have hn1 : n < q := Nat.lt_of_mul_lt_mul_right hb
          have := Nat.mul_le_mul_right (128 ^ (i + 1)) (show n + 1 ≤ q by omega)
          rw [Nat.add_mul] at this
          omega
        · have hg : ¬ c - 128 + 128 * n < 128 := by omega
          rw [uv_great hg, List.take_succ_cons, ← hu, show (c - 128 + 128 * n) % 128 + 128 = c by omega, show (c - 128 + 128 * n) / 128 = n by omega]
theorem tke_or (l : List Nat) : ∀ (i a : Nat), (tk i a l).2.2 = 0 ∨ tk i a l = (0, 0, 2) ∨ tk i a l = (0, 0, 3) := by
  induction l with
  | nil => intro i a; exact .inr (.inl rfl)
  | cons c r ih =>
    intro i a
    unfold tk
    by_cases h1 : (0 < i ∧ c = 0) ∨ (i = 9 ∧ 1 < c)
    · rw [if_pos h1]; exact .inr (.inr rfl)
    · rw [if_neg h1]
      by_cases h2 : c < 128
      · rw [if_pos h2]; exact .inl rfl
      · rw [if_neg h2]; exact ih _ _
theorem tk_no {l : List Nat} (h : tke l ≠ 0) : tkv l = 0 ∧ tkn l = 0 ∧ (tke l = 2 ∨ tke l = 3) := by
  unfold tke at h
  unfold tkv tkn tke
  rcases tke_or l 0 0 with h1 | h1 | h1
  · exact absurd h1 h
  · rw [h1]; exact ⟨rfl, rfl, .inl rfl⟩
  · rw [h1]; exact ⟨rfl, rfl, .inr rfl⟩
theorem tk_yes {l : List Nat} (hl : ∀ c ∈ l, c < 256) (h : tke l = 0) : tkv l < 18446744073709551616 ∧ 0 < tkn l ∧ tkn l ≤ l.length ∧ uv (tkv l) = l.take (tkn l) := by
  unfold tke at h
  unfold tkv tkn
  obtain ⟨n, hv, _, hb, j, hk, hj, hjl, hu⟩ := tk_form l 0 0 (tk 0 0 l).1 (tk 0 0 l).2.1 hl (by omega) (Prod.ext rfl (Prod.ext rfl h))
  rw [show (128 : Nat) ^ 0 = 1 from rfl] at hv hb
  obtain rfl : n = (tk 0 0 l).1 := by omega
  obtain rfl : j = (tk 0 0 l).2.1 := by omega
  exact ⟨by omega, hj, hjl, hu⟩
theorem tkn_le {l : List Nat} (hl : ∀ c ∈ l, c < 256) : tkn l ≤ l.length := by
  by_cases h : tke l = 0
  · exact (tk_yes hl h).2.2.1
  · rw [(tk_no h).2.1]; omega
theorem tkv_lt {l : List Nat} (hl : ∀ c ∈ l, c < 256) : tkv l < 18446744073709551616 := by
  by_cases h : tke l = 0
  · exact (tk_yes hl h).1
  · rw [(tk_no h).1]; decide
theorem tke_le (l : List Nat) : tke l ≤ 3 := by
  by_cases h : tke l = 0
  · omega
  · have := (tk_no h).2.2; omega
end Go.Proofs.Ytgjgjnahdkoofaa.numM
