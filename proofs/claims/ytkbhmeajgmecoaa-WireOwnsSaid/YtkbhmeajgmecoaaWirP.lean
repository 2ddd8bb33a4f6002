/- Plain mathematics of reading messages: what reads a body, and that it reads just what is written. No program. -/
import Derived.Test.YtkbhmeajgmecoaaWirM
import Derived.Test.YtkbhmeajgmecoaaWirL
namespace Go.Proofs.Ytkbhmeajgmecoaa.wirP
open numM numN numE wirM wirL

/-! ### Readers -/
/-- what reads something off the front of bytes, or tells an error's number -/
abbrev R (α : Type) := List Nat → Except Nat (α × List Nat)
def R.ret {α : Type} (x : α) : R α := fun l => .ok (x, l)
def R.seq {α β : Type} (r : R α) (f : α → R β) : R β := fun l => match r l with
  | .error e => .error e
  | .ok (x, t) => f x t
def R.no (b : Bool) (e : Nat) : R Unit := fun l => if b then .error e else .ok ((), l)
/-- r reads just what e writes, of things that are ok -/
structure Is {α : Type} (r : R α) (e : α → List Nat) (ok : α → Prop) : Prop where
  fw : ∀ x t, ok x → r (e x ++ t) = .ok (x, t)
  bw : ∀ l x t, (∀ c ∈ l, c < 256) → r l = .ok (x, t) → ok x ∧ l = e x ++ t
theorem Is.to {α : Type} {r : R α} {e e' : α → List Nat} {ok ok' : α → Prop} (h : Is r e ok) (ho : ∀ x, ok x ↔ ok' x) (he : ∀ x, ok x → e x = e' x) : Is r e' ok' :=
  ⟨fun x t hx => by rw [← he x ((ho x).2 hx)]; exact h.fw x t ((ho x).2 hx), fun l x t hl hr => by obtain ⟨h1, h2⟩ := h.bw l x t hl hr; exact ⟨(ho x).1 h1, by rw [← he x h1]; exact h2⟩⟩
theorem Is.ret {α : Type} (x : α) : Is (R.ret x) (fun _ => []) (fun y => y = x) :=
  ⟨fun y t h => by subst h; rfl, fun l y t _ h => by cases h; exact ⟨rfl, rfl⟩⟩
theorem Is.seq {α β : Type} {r : R α} {e1 : α → List Nat} {ok1 : α → Prop} (h1 : Is r e1 ok1) {f : α → R β} {e2 : β → List Nat} {ok2 : α → β → Prop} (p : β → α)
    (h2 : ∀ x, ok1 x → Is (f x) e2 (ok2 x)) (hp : ∀ x y, ok2 x y → p y = x) : Is (r.seq f) (fun y => e1 (p y) ++ e2 y) (fun y => ok1 (p y) ∧ ok2 (p y) y) := by
  constructor
  · rintro y t ⟨ha, hb⟩
    unfold R.seq
    rw [List.append_assoc, h1.fw _ _ ha]
    exact (h2 _ ha).fw y t hb
  · intro l y t hl hr
    unfold R.seq at hr
    cases hc : r l with
    | error e => rw [hc] at hr; cases hr
    | ok xt =>
      obtain ⟨x, t1⟩ := xt
      rw [hc] at hr
      obtain ⟨ha, rfl⟩ := h1.bw l x t1 hl hc
      obtain ⟨hb, rfl⟩ := (h2 x ha).bw t1 y t (fun c hc => hl c (List.mem_append_right _ hc)) hr
      rw [hp x y hb]
      exact ⟨⟨ha, hb⟩, (List.append_assoc _ _ _).symm⟩
theorem Is.no {α : Type} {r : R α} {e : α → List Nat} {ok : α → Prop} (h : Is r e ok) (b : α → Bool) (err : Nat) : Is (r.seq fun x => (R.no (b x) err).seq fun _ => R.ret x) e (fun x => ok x ∧ b x = false) := by
  constructor
  · rintro x t ⟨ha, hb⟩
    unfold R.seq R.no R.ret
    rw [h.fw x t ha]
    simp [hb]
  · intro l x t hl hr
    unfold R.seq R.no R.ret at hr
    cases hc : r l with
    | error e => rw [hc] at hr; cases hr
    | ok xt =>
      obtain ⟨y, t1⟩ := xt
      rw [hc] at hr
      by_cases hb : b y = true
      · simp [hb] at hr
      · replace hb : b y = false := by simpa using hb
        simp [hb] at hr
        obtain ⟨rfl, rfl⟩ := hr
        obtain ⟨h1, h2⟩ := h.bw l y t1 hl hc
        exact ⟨⟨h1, hb⟩, h2⟩
/-- what is read, said otherwise -/
theorem Is.map {α β : Type} {r : R α} {e : α → List Nat} {ok : α → Prop} (h : Is r e ok) (g : α → β) (q : β → α) (hq : ∀ x, ok x → q (g x) = x) : Is (r.seq fun x => R.ret (g x)) (fun y => e (q y)) (fun y => ok (q y) ∧ y = g (q y)) := by
  have := h.seq (f := fun x => R.ret (g x)) (e2 := fun _ => []) (ok2 := fun x y => ok x ∧ y = g x) q (fun x hx => (Is.ret (g x)).to (fun y => ⟨fun hy => ⟨hx, hy⟩, fun hy => hy.2⟩) (fun _ _ => rfl)) (by rintro x y ⟨hx, rfl⟩; exact hq x hx)
  exact this.to (fun y => ⟨fun hy => hy.2, fun hy => ⟨hy.1, hy⟩⟩) (fun y _ => List.append_nil _)

/-! ### Numbers and texts -/
def rWide (k : Nat) : R Nat := fun l => if l.length < k then .error 2 else .ok (bv (l.take k), l.drop k)
def rShort : R Nat := fun l => if tke l = 0 then .ok (tkv l, l.drop (tkn l)) else .error (tke l)
theorem fold_at (l : List Nat) : ∀ a, l.foldl (fun n c => n * 256 + c) a = a * 256 ^ l.length + bv l := by
  induction l with
  | nil => intro a; simp [bv]
  | cons c r ih =>
    intro a
    have e : bv (c :: r) = c * 256 ^ r.length + bv r := by
      show r.foldl (fun n c => n * 256 + c) (0 * 256 + c) = _
      rw [ih, Nat.zero_mul, Nat.zero_add]
    rw [List.foldl_cons, ih, e, List.length_cons, Nat.pow_succ, Nat.add_mul, Nat.mul_assoc, Nat.mul_comm 256 (256 ^ r.length), Nat.add_assoc]
theorem fx_add (k a n : Nat) : fx k (a * 256 ^ k + n) = fx k n := by
  induction k generalizing a with
  | zero => rfl
  | succ k ih =>
    have e : a * 256 ^ (k + 1) + n = (a * 256) * 256 ^ k + n := by rw [Nat.pow_succ, Nat.mul_assoc, Nat.mul_comm 256]
    show (a * 256 ^ (k + 1) + n) / 256 ^ k % 256 :: fx k (a * 256 ^ (k + 1) + n) = n / 256 ^ k % 256 :: fx k n
    rw [e, ih, Nat.add_comm, Nat.add_mul_div_right _ _ (Nat.pow_pos (by decide))]
    congr 1
    omega
theorem fx_bv {l : List Nat} (h : ∀ c ∈ l, c < 256) : fx l.length (bv l) = l := by
  induction l with
  | nil => rfl
  | cons c r ih =>
    have hr := ih (fun x hx => h x (List.mem_cons_of_mem _ hx))
    have hc := h c (by simp)
    have e : bv (c :: r) = c * 256 ^ r.length + bv r := by
      show r.foldl (fun n c => n * 256 + c) (0 * 256 + c) = _
      rw [fold_at, Nat.zero_mul, Nat.zero_add]
    have hlt := bv_lt (l := r) (fun x hx => h x (List.mem_cons_of_mem _ hx))
    show bv (c :: r) / 256 ^ r.length % 256 :: fx r.length (bv (c :: r)) = c :: r
    rw [e, fx_add, hr]
    congr 1
    rw [Nat.add_comm, Nat.add_mul_div_right _ _ (Nat.pow_pos (by decide)), Nat.div_eq_of_lt hlt, Nat.zero_add, Nat.mod_eq_of_lt hc]
theorem is_wide (k : Nat) : Is (rWide k) (fx k) (fun n => n < 256 ^ k) := by
  constructor
  · intro n t h
    unfold rWide
    rw [if_neg (by rw [List.length_append, fx_len]; omega), List.take_left' (fx_len k n), List.drop_left' (fx_len k n), bv_fx h]
  · intro l n t hl hr
    unfold rWide at hr
    split at hr
    · cases hr
    · cases hr
      have hk : (l.take k).length = k := by rw [List.length_take]; omega
      have hb := bv_lt (l := l.take k) (fun c hc => hl c (List.mem_of_mem_take hc))
      rw [hk] at hb
      refine ⟨hb, ?_⟩
      have := fx_bv (l := l.take k) (fun c hc => hl c (List.mem_of_mem_take hc))
      rw [hk] at this
      rw [this, List.take_append_drop]
theorem is_short : Is rShort uv (fun n => n < 18446744073709551616) := by
  constructor
  · intro n t h
    obtain ⟨h1, h2, h3⟩ := tk_back h t
    unfold rShort
    rw [if_pos h3, h1, h2, List.drop_left' rfl]
  · intro l n t hl hr
    unfold rShort at hr
    split at hr
    · rename_i h
      cases hr
      obtain ⟨h1, h2, h3, h4⟩ := tk_yes hl h
      exact ⟨h1, by rw [h4, List.take_append_drop]⟩
    · cases hr
/-- a number up to a limit -/
def rLim (r : R Nat) (lim err : Nat) : R Nat := r.seq fun n => (R.no (decide (lim < n)) err).seq fun _ => R.ret n
theorem is_lim {r : R Nat} {e : Nat → List Nat} {ok : Nat → Prop} (h : Is r e ok) (lim err : Nat) (hl : ∀ n, n ≤ lim → ok n) : Is (rLim r lim err) e (fun n => n ≤ lim) :=
  (h.no (fun n => decide (lim < n)) err).to (fun n => by simp only [decide_eq_false_iff_not]; exact ⟨fun h => by omega, fun h => ⟨hl n h, by omega⟩⟩) (fun _ _ => rfl)
def rInt (r : R Nat) : R Int := r.seq fun n => R.ret (n : Int)
theorem is_int {r : R Nat} {e : Nat → List Nat} {lim : Nat} (h : Is r e (fun n => n ≤ lim)) : Is (rInt r) (fun x => e x.toNat) (fun x => 0 ≤ x ∧ x ≤ lim) :=
  (h.map (fun n : Nat => (n : Int)) Int.toNat (fun n _ => Int.toNat_natCast n)).to (fun x => by omega) (fun _ _ => rfl)
def rStr (n : Nat) : R ByteArray := fun l => if l.length < n then .error 2 else .ok (byt.strOf (l.take n), l.drop n)
theorem sl_str {l : List Nat} (h : ∀ c ∈ l, c < 256) : sl (byt.strOf l) = l := by
  unfold sl byt.strOf Go.strOfNums
  simp only [List.map_map]
  rw [List.map_congr_left (g := id)]
  · simp
  · intro c hc
    have := h c hc
    simp [Function.comp]
    omega
theorem is_str (n : Nat) : Is (rStr n) sl (fun s => s.size = n) := by
  constructor
  · intro s t h
    unfold rStr
    have hn : (sl s).length = n := by rw [sl_len, h]
    rw [if_neg (by rw [List.length_append, hn]; omega), List.take_left' hn, List.drop_left' hn, str_sl]
  · intro l s t hl hr
    unfold rStr at hr
    split at hr
    · cases hr
    · cases hr
      have h1 := sl_str (l := l.take n) (fun c hc => hl c (List.mem_of_mem_take hc))
      refine ⟨?_, by rw [h1, List.take_append_drop]⟩
      rw [← sl_len, h1, List.length_take]; omega
def rTx (r : R Nat) (most : Nat) : R ByteArray := (rLim r most 6).seq fun n => rStr n
theorem is_tx {r : R Nat} {e : Nat → List Nat} {ok : Nat → Prop} (h : Is r e ok) (most : Nat) (hl : ∀ n, n ≤ most → ok n) : Is (rTx r most) (fun s => e s.size ++ sl s) (fun s => s.size ≤ most) :=
  ((is_lim h most 6 hl).seq (ok2 := fun n s => s.size = n) ByteArray.size (fun n _ => is_str n) (fun _ _ h => h)).to (fun _ => ⟨fun h => h.1, fun h => ⟨h, rfl⟩⟩) (fun _ _ => rfl)
def rGone : R Bool := (rLim (rWide 1) 1 3).seq fun n => R.ret (n == 1)
theorem is_gone : Is rGone gb (fun _ => True) :=
  ((is_lim (is_wide 1) 1 3 (fun n h => by simp; omega)).map (fun n => n == 1) (fun b => if b then 1 else 0) (fun n h => by
    have : n = 0 ∨ n = 1 := by omega
    rcases this with rfl | rfl <;> rfl)).to (fun b => by cases b <;> simp) (fun b _ => by cases b <;> rfl)

/-! ### Lists -/
/-- one behind the other: what a round is told of the one ahead -/
def rRow {α : Type} (st : α → Nat) (r : Nat → R α) : Nat → Nat → R (List α)
  | _, 0 => R.ret []
  | a, n + 1 => (r a).seq fun x => (rRow st r (st x) n).seq fun xs => R.ret (x :: xs)
def eRow {α : Type} (st : α → Nat) (e : Nat → α → List Nat) : Nat → List α → List Nat
  | _, [] => []
  | a, x :: xs => e a x ++ eRow st e (st x) xs
theorem is_row {α : Type} [Inhabited α] (st : α → Nat) {r : Nat → R α} {e : Nat → α → List Nat} {ok : α → Prop} (S : Nat → Prop) (hS : ∀ x, ok x → S (st x)) (h : ∀ a, S a → Is (r a) (e a) ok) :
    ∀ (n a : Nat), S a → Is (rRow st r a n) (eRow st e a) (fun xs => xs.length = n ∧ ∀ x ∈ xs, ok x) := by
  intro n
  induction n with
  | zero => exact fun a _ => (Is.ret []).to (fun xs => ⟨fun h => by subst h; simp, fun h => List.eq_nil_of_length_eq_zero h.1⟩) (fun xs h => by subst h; rfl)
  | succ n ih =>
    intro a ha
    have h2 := (h a ha).seq (f := fun x => (rRow st r (st x) n).seq fun xs => R.ret (x :: xs)) (e2 := fun ys => eRow st e (st ys.head!) ys.tail) (ok2 := fun x ys => (ys.tail.length = n ∧ ∀ z ∈ ys.tail, ok z) ∧ ys = x :: ys.tail) List.head!
      (fun x hx => by
        have := ((ih (st x) (hS x hx)).map (fun xs => x :: xs) List.tail (fun _ _ => rfl))
        refine this.to (fun ys => Iff.rfl) (fun ys hy => ?_)
        rw [hy.2]; rfl)
      (by rintro x ys ⟨_, h⟩; rw [h]; rfl)
    refine h2.to (fun ys => ?_) (fun ys hy => ?_)
    · cases ys with
      | nil => simp
      | cons y ys => simp [List.head!, and_comm, and_left_comm]
    · rw [hy.2.2]; rfl
theorem eRow_map {α : Type} (st : α → Nat) (e : α → List Nat) (xs : List α) : ∀ a, eRow st (fun _ => e) a xs = (xs.map e).flatten := by
  induction xs with
  | nil => intro a; rfl
  | cons x xs ih => intro a; show e x ++ _ = _; rw [ih]; rfl
end Go.Proofs.Ytkbhmeajgmecoaa.wirP
