/- The plain mathematics of the sum: a step, eight steps, bytes taken in; that they are linear over bit by bit sums, and that nothing but nothing is taken to nothing. -/
import Derived.Laws.BitsLemmas
namespace Go.Proofs.Ytgjgjnahdkoofaa.sumM

/-! ### Exclusive or -/
theorem xor_mod2 (a b : Nat) : (a ^^^ b) % 2 = (a + b) % 2 := by
  have h := Nat.xor_mod_two_pow (a := a) (b := b) (n := 1)
  simp only [Nat.pow_one] at h
  rw [h]
  rcases Nat.mod_two_eq_zero_or_one a with ha | ha <;> rcases Nat.mod_two_eq_zero_or_one b with hb | hb <;> rw [ha, hb] <;> simp <;> omega
theorem xor_self_left (a b : Nat) : a ^^^ (a ^^^ b) = b := by rw [← Nat.xor_assoc, Nat.xor_self, Nat.zero_xor]
theorem xor_swap (a b c d : Nat) : (a ^^^ b) ^^^ (c ^^^ d) = (a ^^^ c) ^^^ (b ^^^ d) := by
  apply Nat.eq_of_testBit_eq; intro i; simp only [Nat.testBit_xor]
  cases a.testBit i <;> cases b.testBit i <;> cases c.testBit i <;> cases d.testBit i <;> rfl
theorem eq_of_xor_zero {a b : Nat} (h : a ^^^ b = 0) : a = b := by
  have := xor_self_left a b
  rw [h, Nat.xor_zero] at this
  exact this
theorem xor_lt32 {a b : Nat} (ha : a < 4294967296) (hb : b < 4294967296) : a ^^^ b < 4294967296 :=
  Nat.xor_lt_two_pow (n := 32) ha hb
theorem xor_lt8 {a b : Nat} (ha : a < 256) (hb : b < 256) : a ^^^ b < 256 := Nat.xor_lt_two_pow (n := 8) ha hb

/-! ### A step, and some -/
def poly : Nat := 3988292384
def stp (x : Nat) : Nat := if x % 2 = 1 then x / 2 ^^^ poly else x / 2
theorem stp_lt {x : Nat} (h : x < 4294967296) : stp x < 4294967296 := by
  unfold stp; split
  · exact xor_lt32 (by omega) (by decide)
  · omega
theorem stp_xor (x y : Nat) : stp (x ^^^ y) = stp x ^^^ stp y := by
  have hm := xor_mod2 x y
  have hd : (x ^^^ y) / 2 = x / 2 ^^^ y / 2 := Nat.xor_div_two
  unfold stp
  rw [hm, hd]
  rcases Nat.mod_two_eq_zero_or_one x with hx | hx <;> rcases Nat.mod_two_eq_zero_or_one y with hy | hy
  · rw [if_neg (by omega), if_neg (by omega), if_neg (by omega)]
  · rw [if_pos (by omega), if_neg (by omega), if_pos (by omega), Nat.xor_assoc]
  · rw [if_pos (by omega), if_pos (by omega), if_neg (by omega), Nat.xor_assoc, Nat.xor_assoc, Nat.xor_comm poly]
  · rw [if_neg (by omega), if_pos (by omega), if_pos (by omega), xor_swap, Nat.xor_self, Nat.xor_zero]
theorem stp_zero {x : Nat} (h : x < 4294967296) (e : stp x = 0) : x = 0 := by
  unfold stp at e
  split at e
  · have := eq_of_xor_zero e
    unfold poly at this
    omega
  · omega
theorem stp_even (y : Nat) : stp (2 * y) = y := by unfold stp; rw [if_neg (by omega)]; omega
def rep : Nat → Nat → Nat
  | 0, x => x
  | n + 1, x => stp (rep n x)
theorem rep_lt (n : Nat) {x : Nat} (h : x < 4294967296) : rep n x < 4294967296 := by
  induction n with
  | zero => exact h
  | succ n ih => exact stp_lt ih
theorem rep_xor (n x y : Nat) : rep n (x ^^^ y) = rep n x ^^^ rep n y := by
  induction n with
  | zero => rfl
  | succ n ih => show stp (rep n (x ^^^ y)) = _; rw [ih, stp_xor]; rfl
theorem rep_zero (n : Nat) {x : Nat} (h : x < 4294967296) (e : rep n x = 0) : x = 0 := by
  induction n with
  | zero => exact e
  | succ n ih => exact ih (stp_zero (rep_lt n h) e)
theorem rep_at0 (n : Nat) : rep n 0 = 0 := by
  induction n with
  | zero => rfl
  | succ n ih => show stp (rep n 0) = 0; rw [ih]; decide
theorem rep_in (n x : Nat) : rep (n + 1) x = rep n (stp x) := by
  induction n with
  | zero => rfl
  | succ n ih => show stp (rep (n + 1) x) = stp (rep n (stp x)); rw [ih]
theorem rep8 (y : Nat) : rep 8 (256 * y) = y := by
  rw [show 256 * y = 2 * (2 * (2 * (2 * (2 * (2 * (2 * (2 * y))))))) by omega]
  simp only [rep_in, stp_even]; rfl
theorem rep_inj (n : Nat) {x y : Nat} (hx : x < 4294967296) (hy : y < 4294967296) (e : rep n x = rep n y) : x = y := by
  apply eq_of_xor_zero
  apply rep_zero n (xor_lt32 hx hy)
  rw [rep_xor, e, Nat.xor_self]

/-! ### Bytes taken in -/
/-- a byte taken in -/
def tk (x c : Nat) : Nat := rep 8 (x ^^^ c)
theorem tk_lt {x c : Nat} (h : x < 4294967296) (hc : c < 256) : tk x c < 4294967296 := rep_lt 8 (xor_lt32 h (by omega))
theorem tk_xor (x y c d : Nat) : tk (x ^^^ y) (c ^^^ d) = tk x c ^^^ tk y d := by unfold tk; rw [xor_swap, rep_xor]
/-- n bytes taken in -/
def rn (f : Nat → Nat) (x : Nat) : Nat → Nat
  | 0 => x
  | n + 1 => tk (rn f x n) (f n)
theorem rn_lt {f : Nat → Nat} {x : Nat} (n : Nat) (h : x < 4294967296) (hf : ∀ i, i < n → f i < 256) : rn f x n < 4294967296 := by
  induction n with
  | zero => exact h
  | succ n ih => exact tk_lt (ih fun i hi => hf i (by omega)) (hf n (by omega))
theorem rn_xor (f g : Nat → Nat) (x y n : Nat) : rn (fun i => f i ^^^ g i) (x ^^^ y) n = rn f x n ^^^ rn g y n := by
  induction n with
  | zero => rfl
  | succ n ih => show tk (rn (fun i => f i ^^^ g i) (x ^^^ y) n) (f n ^^^ g n) = _; rw [ih, tk_xor]; rfl
theorem rn_same {f g : Nat → Nat} (x n : Nat) (h : ∀ i, i < n → f i = g i) : rn f x n = rn g x n := by
  induction n with
  | zero => rfl
  | succ n ih => show tk (rn f x n) (f n) = tk (rn g x n) (g n); rw [ih fun i hi => h i (by omega), h n (by omega)]
theorem rn_add (f : Nat → Nat) (x m n : Nat) : rn f x (m + n) = rn (fun i => f (m + i)) (rn f x m) n := by
  induction n with
  | zero => rfl
  | succ n ih => show tk (rn f x (m + n)) (f (m + n)) = _; rw [ih]; rfl
theorem rn_at0 (n : Nat) : rn (fun _ => 0) 0 n = 0 := by
  induction n with
  | zero => rfl
  | succ n ih => show tk (rn (fun _ => 0) 0 n) 0 = 0; rw [ih]; decide
/-- Nought taken in brings no number but nought to nought. -/
theorem rn_keeps {f : Nat → Nat} {x : Nat} (n : Nat) (h : x < 4294967296) (hf : ∀ i, i < n → f i = 0) (e : rn f x n = 0) : x = 0 := by
  induction n with
  | zero => exact e
  | succ n ih =>
    have hl := rn_lt (f := f) n h (fun i hi => by rw [hf i (by omega)]; decide)
    have e' : rep 8 (rn f x n ^^^ f n) = 0 := e
    rw [hf n (by omega), Nat.xor_zero] at e'
    exact ih (fun i hi => hf i (by omega)) (rep_zero 8 hl e')
/-- At most four bytes that bring nought to a small number are all nought. -/
theorem rn_word (f : Nat → Nat) (m : Nat) (hm : m ≤ 4) (hf : ∀ i, i < m → f i < 256) : ∀ y, y * 256 ^ m < 4294967296 → rn f 0 m = y → y = 0 ∧ ∀ i, i < m → f i = 0 := by
  induction m with
  | zero => intro y _ h; exact ⟨h.symm, fun i hi => by omega⟩
  | succ m ih =>
    intro y hy h
    have hfm := hf m (by omega)
    have hlt := rn_lt (f := f) (x := 0) m (by decide) (fun i hi => hf i (by omega))
    have hy' : (y * 256) * 256 ^ m < 4294967296 := by rw [Nat.mul_assoc, Nat.mul_comm 256, ← Nat.pow_succ]; exact hy
    have hpos : 0 < 256 ^ m := Nat.pow_pos (by decide)
    have hle : y * 256 ≤ y * 256 * 256 ^ m := Nat.le_mul_of_pos_right _ hpos
    have e : rep 8 (rn f 0 m ^^^ f m) = rep 8 (256 * y) := by rw [rep8]; exact h
    have e1 := rep_inj 8 (xor_lt32 hlt (by omega)) (by omega) e
    have e2 : rn f 0 m = 256 * y + f m := by
      have : rn f 0 m = 256 * y ^^^ f m := by
        rw [← e1, Nat.xor_assoc, Nat.xor_self, Nat.xor_zero]
      rw [this]
      have h8 := Nat.two_pow_add_eq_or_of_lt (i := 8) hfm y
      rw [show (2 : Nat) ^ 8 = 256 from rfl] at h8
      rw [h8]
      apply Nat.eq_of_testBit_eq
      intro i
      rw [Nat.testBit_xor, Nat.testBit_or]
      have hy0 : i < 8 → (256 * y).testBit i = false := by
        intro hi
        rw [show 256 * y = 2 ^ 8 * y from rfl, Nat.testBit_two_pow_mul]
        simp; omega
      have hf0 : ¬ i < 8 → (f m).testBit i = false := by
        intro hi
        apply Nat.testBit_lt_two_pow
        exact Nat.lt_of_lt_of_le hfm (Nat.pow_le_pow_right (n := 2) (by decide) (show 8 ≤ i by omega))
      by_cases hi : i < 8
      · rw [hy0 hi]; simp
      · rw [hf0 hi]; simp
    have hb : (256 * y + f m) * 256 ^ m < 4294967296 := by
      rw [← e2]
      by_cases h4 : m = 0
      · subst h4; simpa using hlt
      · have hyb : 256 * y + f m < 256 ^ (4 - m) := by
          have : m = 1 ∨ m = 2 ∨ m = 3 := by omega
          rcases this with rfl | rfl | rfl
          · simp at hy hy' ⊢; omega
          · simp at hy hy' ⊢; omega
          · simp at hy hy' ⊢; omega
        rw [e2]
        calc (256 * y + f m) * 256 ^ m < 256 ^ (4 - m) * 256 ^ m := Nat.mul_lt_mul_of_pos_right hyb hpos
          _ = 256 ^ 4 := by rw [← Nat.pow_add]; congr 1; omega
          _ = 4294967296 := rfl
    obtain ⟨h0, hr⟩ := ih (by omega) (fun i hi => hf i (by omega)) _ hb e2
    refine ⟨by omega, fun i hi => ?_⟩
    by_cases him : i = m
    · subst him; omega
    · exact hr i (by omega)

/-! ### The sum -/
def full : Nat := 4294967295
def mo (s : Nat) (f : Nat → Nat) (n : Nat) : Nat := rn f (s ^^^ full) n ^^^ full
theorem mo_lt {s : Nat} {f : Nat → Nat} {n : Nat} (h : s < 4294967296) (hf : ∀ i, i < n → f i < 256) : mo s f n < 4294967296 := xor_lt32 (rn_lt n (xor_lt32 h (by decide)) hf) (by decide)
theorem mo_same {f g : Nat → Nat} (s n : Nat) (h : ∀ i, i < n → f i = g i) : mo s f n = mo s g n := by unfold mo; rw [rn_same _ _ h]
theorem mo_add (s : Nat) (f : Nat → Nat) (m n : Nat) : mo (mo s f m) (fun i => f (m + i)) n = mo s f (m + n) := by
  unfold mo
  rw [Nat.xor_assoc, Nat.xor_self, Nat.xor_zero, ← rn_add]
theorem mo_zero (s : Nat) (f : Nat → Nat) : mo s f 0 = s := by unfold mo rn; rw [Nat.xor_assoc, Nat.xor_self, Nat.xor_zero]
/-- Three texts put together bit by bit. -/
theorem mo_three (f g h : Nat → Nat) (n : Nat) : mo 0 (fun i => f i ^^^ g i ^^^ h i) n = mo 0 f n ^^^ mo 0 g n ^^^ mo 0 h n := by
  unfold mo
  have e : (0 ^^^ full) = ((0 ^^^ full) ^^^ (0 ^^^ full)) ^^^ (0 ^^^ full) := by rw [Nat.xor_self, Nat.zero_xor, Nat.zero_xor]
  have e1 : rn (fun i => f i ^^^ g i ^^^ h i) (0 ^^^ full) n = rn f (0 ^^^ full) n ^^^ rn g (0 ^^^ full) n ^^^ rn h (0 ^^^ full) n := by
    conv => lhs; rw [e]
    rw [rn_xor (fun i => f i ^^^ g i) h, rn_xor f g]
  rw [e1]
  generalize rn f (0 ^^^ full) n = a
  generalize rn g (0 ^^^ full) n = b
  generalize rn h (0 ^^^ full) n = c
  apply Nat.eq_of_testBit_eq; intro i; simp only [Nat.testBit_xor]
  cases a.testBit i <;> cases b.testBit i <;> cases c.testBit i <;> cases full.testBit i <;> rfl

/-! ### Bytes of which some are turned -/
/-- f with the bytes of e put on it from k on, m of them -/
def turn (f : Nat → Nat) (k m : Nat) (e : Nat → Nat) (i : Nat) : Nat := if k ≤ i ∧ i < k + m then f i ^^^ e (i - k) else f i
theorem turn_lt {f e : Nat → Nat} {k m n i : Nat} (hf : ∀ i, i < n → f i < 256) (he : ∀ i, i < m → e i < 256) (hi : i < n) : turn f k m e i < 256 := by
  unfold turn; split
  · exact xor_lt8 (hf i hi) (he _ (by omega))
  · exact hf i hi
theorem turn_apart (f e : Nat → Nat) (k m n : Nat) (hm : m ≤ 4) (hk : k + m ≤ n) (hf : ∀ i, i < n → f i < 256) (he : ∀ i, i < m → e i < 256) :
    mo 0 (turn f k m e) n = mo 0 f n ↔ ∀ i, i < m → e i = 0 := by
  constructor
  · intro h
    have hx : rn (fun i => turn f k m e i ^^^ f i) 0 n = 0 := by
      have := rn_xor (turn f k m e) f (0 ^^^ full) (0 ^^^ full) n
      rw [Nat.xor_self] at this
      rw [this]
      unfold mo at h
      have h2 : rn (turn f k m e) (0 ^^^ full) n = rn f (0 ^^^ full) n := by
        have := congrArg (· ^^^ full) h
        simpa [Nat.xor_assoc] using this
      rw [h2, Nat.xor_self]
    have hd : ∀ i, turn f k m e i ^^^ f i = if k ≤ i ∧ i < k + m then e (i - k) else 0 := by
      intro i
      unfold turn
      split
      · rw [Nat.xor_comm (f i), Nat.xor_assoc, Nat.xor_self, Nat.xor_zero]
      · rw [Nat.xor_self]
    obtain ⟨q, rfl⟩ : ∃ q, n = k + (m + q) := ⟨n - k - m, by omega⟩
    rw [rn_add, rn_add] at hx
    have h0 : rn (fun i => turn f k m e i ^^^ f i) 0 k = 0 := by
      rw [rn_same (g := fun _ => 0) 0 k (fun i hi => by rw [hd, if_neg (by omega)])]
      exact rn_at0 k
    rw [h0] at hx
    have h1 : rn (fun i => (fun i => turn f k m e i ^^^ f i) (k + i)) 0 m = rn e 0 m :=
      rn_same 0 m (fun i hi => by show turn f k m e (k + i) ^^^ f (k + i) = e i; rw [hd, if_pos (by omega)]; congr 1; omega)
    rw [h1] at hx
    have h2 := rn_keeps q (rn_lt m (by decide) he) (fun i _ => by show turn f k m e (k + (m + i)) ^^^ f (k + (m + i)) = 0; rw [hd, if_neg (by omega)]) hx
    exact (rn_word e m hm he 0 (by omega) h2).2
  · intro h
    apply mo_same
    intro i _
    unfold turn
    split
    · rw [h _ (by omega), Nat.xor_zero]
    · rfl
end Go.Proofs.Ytgjgjnahdkoofaa.sumM
