/- A log, plainly: what deciding and releasing make of it; the document's own way to the same. -/
import Derived.Test.YtipnmgihbpbonaaOrdA
set_option linter.unusedVariables false
set_option linter.unusedSimpArgs false
set_option linter.unusedSectionVars false
namespace Go.Proofs.Ytipnmgihbpbonaa.ordM
open opV chnM ordA

/-! ### The order -/
section
variable {a b c : Int × Int × Int}
theorem ah_iff : isAhead a b = true ↔ (a.1 < b.1 ∨ (a.1 = b.1 ∧ a.2.1 < b.2.1) ∨ (a.1 = b.1 ∧ a.2.1 = b.2.1 ∧ a.2.2 < b.2.2)) := by
  unfold isAhead
  rw [decide_eq_true_eq]
  have := cm_cases a b
  omega
theorem ah_trans (h1 : isAhead a b = true) (h2 : isAhead b c = true) : isAhead a c = true := by rw [ah_iff] at *; omega
theorem ah_irr (a : Int × Int × Int) : isAhead a a = false := by
  cases h : isAhead a a
  · rfl
  · rw [ah_iff] at h; omega
theorem ah_asym (h : isAhead a b = true) : isAhead b a = false := by
  cases h2 : isAhead b a
  · rfl
  · rw [ah_iff] at h h2; omega
theorem ah_tot (h1 : isAhead a b = false) (h2 : isAhead b a = false) : a = b := by
  have n1 : ¬ isAhead a b = true := by rw [h1]; simp
  have n2 : ¬ isAhead b a = true := by rw [h2]; simp
  rw [ah_iff] at n1 n2
  obtain ⟨a1, a2, a3⟩ := a
  obtain ⟨b1, b2, b3⟩ := b
  simp only [Prod.mk.injEq] at *
  omega
theorem ah_ts (h : isAhead a b = true) : a.1 ≤ b.1 := by rw [ah_iff] at h; omega
theorem ah_of_ts (h : a.1 < b.1) : isAhead a b = true := by rw [ah_iff]; omega
theorem cm_zero : cm a b = 0 ↔ a = b := by
  have := cm_cases a b
  obtain ⟨a1, a2, a3⟩ := a
  obtain ⟨b1, b2, b3⟩ := b
  simp only [Prod.mk.injEq] at *
  omega
theorem cm_lt : cm a b < 0 ↔ isAhead a b = true := by unfold isAhead; rw [decide_eq_true_eq]
end
def Up (l : List Rc) : Prop := l.Pairwise fun a b => isAhead a.1 b.1 = true
theorem Up.lt {l : List Rc} (h : Up l) {i k : Nat} (hik : i < k) (hk : k < l.length) : isAhead (nt l i).1 (nt l k).1 = true := by
  rw [nt_at (by omega), nt_at hk]
  exact List.pairwise_iff_getElem.1 h i k (by omega) hk hik
theorem Up.eq {l k : List Rc} (h1 : Up l) (h2 : Up k) (hp : l.Perm k) : l = k :=
  List.Perm.eq_of_pairwise (fun a b _ _ e1 e2 => by rw [ah_asym e1] at e2; cases e2) h1 h2 hp
/-! ### Beginnings of a row -/
def tw {α : Type} (p : α → Bool) (l : List α) : Nat := (l.takeWhile p).length
section
variable {α : Type} [Inhabited α] {p : α → Bool} {l : List α}
theorem tw_le : tw p l ≤ l.length := by
  unfold tw
  induction l with
  | nil => simp
  | cons a r ih => rw [List.takeWhile_cons]; split <;> simp; omega
theorem tw_lt {k : Nat} (h : k < tw p l) : p (nt l k) = true := by
  unfold tw at h
  induction l generalizing k with
  | nil => simp at h
  | cons a r ih =>
    rw [List.takeWhile_cons] at h
    by_cases hp : p a = true
    · rw [if_pos hp] at h
      cases k with
      | zero => exact hp
      | succ k => exact ih (by simpa using h)
    · rw [if_neg hp] at h; simp at h
theorem tw_at (h : tw p l < l.length) : p (nt l (tw p l)) = false := by
  unfold tw at *
  induction l with
  | nil => simp at h
  | cons a r ih =>
    rw [List.takeWhile_cons] at h ⊢
    by_cases hp : p a = true
    · rw [if_pos hp] at h ⊢
      exact ih (by simpa using h)
    · rw [if_neg hp]
      show p a = false
      simpa using hp
theorem tw_eq {i : Nat} (hi : i ≤ l.length) (h1 : ∀ k, k < i → p (nt l k) = true) (h2 : i < l.length → p (nt l i) = false) : i = tw p l := by
  rcases Nat.lt_trichotomy i (tw p l) with h | h | h
  · have := h2 (by have := tw_le (p := p) (l := l); omega)
    rw [tw_lt h] at this; cases this
  · exact h
  · have h3 := h1 _ h
    rw [tw_at (p := p) (l := l) (by omega)] at h3; cases h3
theorem tw_take : l.take (tw p l) = l.takeWhile p := by
  unfold tw
  conv => lhs; arg 2; rw [← List.takeWhile_append_dropWhile (p := p) (l := l)]
  exact List.take_left
end
/-! ### A log -/
structure Lg where
  st : List Rc
  wt : List Rc
  bd : Int
def L0 : Lg := ⟨[], [], 0⟩
def mx (a b : Int) : Int := if a < b then b else a
theorem mx_ge (a b : Int) : a ≤ mx a b ∧ b ≤ mx a b ∧ (mx a b = a ∨ mx a b = b) := by unfold mx; split <;> omega
structure Lg.ok (L : Lg) : Prop where
  up : Up (L.st ++ L.wt)
  lo : ∀ x ∈ L.st, x.1.1 ≤ L.bd
  hi : ∀ x ∈ L.wt, L.bd < x.1.1
  b0 : 0 ≤ L.bd
theorem ok0 : L0.ok := ⟨List.Pairwise.nil, fun _ h => by simp [L0] at h, fun _ h => by simp [L0] at h, Int.le_refl _⟩
theorem Lg.ok.upS {L : Lg} (h : L.ok) : Up L.st := (List.pairwise_append.1 h.up).1
theorem Lg.ok.upW {L : Lg} (h : L.ok) : Up L.wt := (List.pairwise_append.1 h.up).2.1
def pos (l : List Rc) (r : Rc) : Nat := tw (fun x => isAhead x.1 r.1) l
theorem pos_le (l : List Rc) (r : Rc) : pos l r ≤ l.length := tw_le
theorem pos_at {l : List Rc} {r : Rc} (h : pos l r < l.length) : isAhead (nt l (pos l r)).1 r.1 = false := tw_at (p := fun x : Rc => isAhead x.1 r.1) (l := l) h
theorem pos_lt {l : List Rc} {r : Rc} {k : Nat} (h : k < pos l r) : isAhead (nt l k).1 r.1 = true := tw_lt (p := fun x : Rc => isAhead x.1 r.1) (l := l) h
def there (l : List Rc) (r : Rc) : Bool := decide (∃ x ∈ l, x.1 = r.1)
def dE (L : Lg) (r : Rc) : Nat := if r.1.1 ≤ L.bd then 11 else if there L.wt r = true then 8 else 0
def dS (L : Lg) (r : Rc) : Lg := if r.1.1 ≤ L.bd then L else if there L.wt r = true then L else { L with wt := insA L.wt (pos L.wt r) r }
def cnt (L : Lg) (t : Int) : Nat := tw (fun x => decide (x.1.1 ≤ mx L.bd t)) L.wt
def rS (L : Lg) (t : Int) : Lg := ⟨L.st ++ L.wt.take (cnt L t), L.wt.drop (cnt L t), mx L.bd t⟩
theorem ins_perm {α : Type} (l : List α) (i : Nat) (x : α) : (insA l i x).Perm (x :: l) := by
  unfold insA
  have h := List.perm_middle (a := x) (l₁ := l.take i) (l₂ := l.drop i)
  rwa [List.take_append_drop] at h
theorem ins_mem {α : Type} {l : List α} {i : Nat} {x y : α} : y ∈ insA l i x ↔ y = x ∨ y ∈ l := by
  rw [(ins_perm l i x).mem_iff, List.mem_cons]
theorem ins_up {l : List Rc} {r : Rc} (h : Up l) (hn : ∀ x ∈ l, x.1 ≠ r.1) : Up (insA l (pos l r) r) := by
  have hle := pos_le l r
  have ha := fun (h : pos l r < l.length) => pos_at h
  have hb := fun (k : Nat) (h : k < pos l r) => pos_lt h
  generalize pos l r = q at *
  unfold insA
  refine List.pairwise_append.2 ⟨List.Pairwise.sublist (List.take_sublist _ _) h, List.pairwise_cons.2 ⟨?_, List.Pairwise.sublist (List.drop_sublist _ _) h⟩, ?_⟩
  · intro y hy
    obtain ⟨k, hk, rfl⟩ := mem_nt hy
    simp only [List.length_drop] at hk
    have e : nt (l.drop q) k = nt l (q + k) := by rw [nt_at (by simp; omega), nt_at (by omega), List.getElem_drop]
    rw [e]
    have h0 := ha (by omega)
    have h1 : isAhead r.1 (nt l q).1 = true := by
      cases h2 : isAhead r.1 (nt l q).1
      · exact absurd (ah_tot h0 h2) (hn _ (nt_mem (by omega)))
      · rfl
    by_cases hk0 : k = 0
    · subst hk0; exact h1
    · exact ah_trans h1 (h.lt (by omega) (by omega))
  · intro x hx y hy
    obtain ⟨k, hk, rfl⟩ := mem_nt hx
    have hk' : k < q := by simp at hk; omega
    have e : nt (l.take q) k = nt l k := by rw [nt_at hk, nt_at (by omega), List.getElem_take]
    rw [e]
    have h1 := hb k hk'
    rcases List.mem_cons.1 hy with rfl | hy
    · exact h1
    · obtain ⟨j, hj, rfl⟩ := mem_nt hy
      simp only [List.length_drop] at hj
      have e : nt (l.drop q) j = nt l (q + j) := by rw [nt_at (by simp; omega), nt_at (by omega), List.getElem_drop]
      rw [e]
      exact h.lt (by omega) (by omega)
theorem not_there {l : List Rc} {r : Rc} (h : ¬ there l r = true) : ∀ x ∈ l, x.1 ≠ r.1 := fun x hx e => h (by unfold there; rw [decide_eq_true_eq]; exact ⟨x, hx, e⟩)
theorem there_perm {l k : List Rc} {r : Rc} (h : l.Perm k) : there l r = there k r := by
  unfold there
  rw [decide_eq_decide]
  exact ⟨fun ⟨x, hx, e⟩ => ⟨x, h.mem_iff.1 hx, e⟩, fun ⟨x, hx, e⟩ => ⟨x, h.mem_iff.2 hx, e⟩⟩
/-- what the search finds -/
theorem found {l : List Rc} {r : Rc} (h : Up l) {i : Nat} (hi : i ≤ l.length) (h1 : ∀ k, k < i → isAhead (nt l k).1 r.1 = true) (h2 : ∀ k, i ≤ k → k < l.length → isAhead (nt l k).1 r.1 = false) :
    i = pos l r ∧ (there l r = true ↔ i < l.length ∧ (nt l i).1 = r.1) := by
  refine ⟨tw_eq (p := fun x : Rc => isAhead x.1 r.1) hi h1 (fun h3 => h2 i (Nat.le_refl _) h3), ?_⟩
  unfold there
  rw [decide_eq_true_eq]
  constructor
  · rintro ⟨x, hx, e⟩
    obtain ⟨k, hk, rfl⟩ := mem_nt hx
    rcases Nat.lt_trichotomy k i with h3 | h3 | h3
    · have := h1 k h3; rw [e, ah_irr] at this; cases this
    · subst h3; exact ⟨hk, e⟩
    · have h4 := h.lt h3 hk
      rw [e, h2 i (Nat.le_refl _) (by omega)] at h4; cases h4
  · rintro ⟨h3, e⟩
    exact ⟨_, nt_mem h3, e⟩
theorem ok_dS {L : Lg} (h : L.ok) (r : Rc) : (dS L r).ok := by
  unfold dS
  split
  · exact h
  · split
    · exact h
    · rename_i h1 h2
      have hn := not_there h2
      obtain ⟨u1, u2, u3⟩ := List.pairwise_append.1 h.up
      refine ⟨List.pairwise_append.2 ⟨u1, ins_up u2 hn, ?_⟩, h.lo, ?_, h.b0⟩
      · intro a ha b hb
        rcases ins_mem.1 hb with rfl | hb
        · exact ah_of_ts (by have := h.lo a ha; omega)
        · exact u3 a ha b hb
      · intro x hx
        rcases ins_mem.1 hx with rfl | hx
        · show L.bd < _; omega
        · exact h.hi x hx
theorem cnt_le (L : Lg) (t : Int) : cnt L t ≤ L.wt.length := tw_le
theorem ts_mono {l : List Rc} (h : Up l) {i k : Nat} (hik : i ≤ k) (hk : k < l.length) : (nt l i).1.1 ≤ (nt l k).1.1 := by
  rcases Nat.lt_or_ge i k with h1 | h1
  · exact ah_ts (h.lt h1 hk)
  · have : i = k := by omega
    rw [this]; omega
theorem cnt_lo {L : Lg} {t : Int} {k : Nat} (h : k < cnt L t) : (nt L.wt k).1.1 ≤ mx L.bd t := by
  have := tw_lt (p := fun x : Rc => decide (x.1.1 ≤ mx L.bd t)) h
  simpa using this
theorem cnt_hi {L : Lg} {t : Int} (hu : Up L.wt) {k : Nat} (h : cnt L t ≤ k) (hk : k < L.wt.length) : mx L.bd t < (nt L.wt k).1.1 := by
  have h1 := tw_at (p := fun x : Rc => decide (x.1.1 ≤ mx L.bd t)) (l := L.wt) (show cnt L t < _ by omega)
  have h2 := ts_mono hu h hk
  simp only [decide_eq_false_iff_not] at h1
  have h3 : ¬ (nt L.wt (cnt L t)).1.1 ≤ mx L.bd t := h1
  omega
theorem cnt_eq {L : Lg} {t : Int} {i : Nat} (hi : i ≤ L.wt.length) (h1 : ∀ k, k < i → (nt L.wt k).1.1 ≤ mx L.bd t) (h2 : i < L.wt.length → mx L.bd t < (nt L.wt i).1.1) : i = cnt L t :=
  tw_eq (p := fun x : Rc => decide (x.1.1 ≤ mx L.bd t)) hi (fun k hk => decide_eq_true (h1 k hk)) (fun h => decide_eq_false (by have := h2 h; omega))
theorem drop_nt {α : Type} [Inhabited α] {l : List α} {i k : Nat} (h : i + k < l.length) : nt (l.drop i) k = nt l (i + k) := by rw [nt_at (by simp; omega), nt_at h, List.getElem_drop]
theorem ok_rS {L : Lg} (h : L.ok) (t : Int) : (rS L t).ok := by
  obtain ⟨m1, m2, m3⟩ := mx_ge L.bd t
  refine ⟨?_, ?_, ?_, by show 0 ≤ mx L.bd t; have := h.b0; omega⟩
  · show Up ((L.st ++ L.wt.take _) ++ L.wt.drop _)
    rw [List.append_assoc, List.take_append_drop]
    exact h.up
  · intro x hx
    rcases List.mem_append.1 hx with hx | hx
    · have := h.lo x hx; show _ ≤ mx L.bd t; omega
    · obtain ⟨k, hk, rfl⟩ := mem_nt hx
      have hk' : k < cnt L t := by simp at hk; omega
      have e : nt (L.wt.take (cnt L t)) k = nt L.wt k := by rw [nt_at hk, nt_at (by have := cnt_le L t; omega), List.getElem_take]
      rw [e]
      exact cnt_lo hk'
  · intro x hx
    obtain ⟨k, hk, rfl⟩ := mem_nt hx
    have hk' : cnt L t + k < L.wt.length := by
      have : k < (L.wt.drop (cnt L t)).length := hk
      simp at this; omega
    show mx L.bd t < (nt (L.wt.drop (cnt L t)) k).1.1
    rw [drop_nt hk']
    exact cnt_hi h.upW (by omega) hk'
theorem len_dS (L : Lg) (r : Rc) : (dS L r).st = L.st ∧ (dS L r).bd = L.bd ∧ (dS L r).wt.length ≤ L.wt.length + 1 := by
  unfold dS
  split
  · exact ⟨rfl, rfl, Nat.le_succ _⟩
  · split
    · exact ⟨rfl, rfl, Nat.le_succ _⟩
    · exact ⟨rfl, rfl, by show (insA _ _ _).length ≤ _; rw [(ins_perm _ _ _).length_eq]; exact Nat.le_refl _⟩
theorem len_rS (L : Lg) (t : Int) : (rS L t).st.length + (rS L t).wt.length = L.st.length + L.wt.length := by
  have := cnt_le L t
  show (L.st ++ L.wt.take _).length + (L.wt.drop _).length = _
  simp; omega
/-! ### The document's choice -/
def atI (ws : List Rc) (b : Int) : Nat → Int
  | 0 => -1
  | i + 1 => if (nt ws i).1.1 ≤ b ∧ (atI ws b i < 0 ∨ isAhead (nt ws i).1 (nt ws (atI ws b i).toNat).1 = true) then (i : Int) else atI ws b i
theorem atI_spec (ws : List Rc) (b : Int) (n : Nat) : (atI ws b n = -1 ∧ ∀ k, k < n → b < (nt ws k).1.1) ∨ (∃ a : Nat, a < n ∧ atI ws b n = (a : Int) ∧ (nt ws a).1.1 ≤ b ∧ ∀ k, k < n → (nt ws k).1.1 ≤ b → isAhead (nt ws k).1 (nt ws a).1 = false) := by
  induction n with
  | zero => exact .inl ⟨rfl, fun k h => by omega⟩
  | succ i ih =>
    show ((if _ then _ else _) = _ ∧ _) ∨ _
    rcases ih with ⟨e, h⟩ | ⟨a, ha, e, h1, h2⟩
    · by_cases hb : (nt ws i).1.1 ≤ b
      · refine .inr ⟨i, by omega, ?_, hb, fun k hk hb2 => ?_⟩
        · show (if _ then _ else _) = _
          rw [if_pos ⟨hb, .inl (by rw [e]; decide)⟩]
        · by_cases hki : k = i
          · rw [hki]; exact ah_irr _
          · have := h k (by omega); omega
      · refine .inl ⟨by rw [if_neg (fun h => hb h.1)]; exact e, fun k hk => ?_⟩
        by_cases hki : k = i
        · rw [hki]; omega
        · exact h k (by omega)
    · by_cases hc : (nt ws i).1.1 ≤ b ∧ isAhead (nt ws i).1 (nt ws a).1 = true
      · refine .inr ⟨i, by omega, ?_, hc.1, fun k hk hb2 => ?_⟩
        · show (if _ then _ else _) = _
          rw [if_pos ⟨hc.1, .inr (by rw [e]; exact hc.2)⟩]
        · by_cases hki : k = i
          · rw [hki]; exact ah_irr _
          · cases h9 : isAhead (nt ws k).1 (nt ws i).1
            · rfl
            · have := ah_trans h9 hc.2
              rw [h2 k (by omega) hb2] at this; cases this
      · refine .inr ⟨a, by omega, ?_, h1, fun k hk hb2 => ?_⟩
        · show (if _ then _ else _) = _
          rw [if_neg, e]
          rintro ⟨q1, q2 | q2⟩
          · omega
          · rw [e] at q2; exact hc ⟨q1, q2⟩
        · by_cases hki : k = i
          · subst hki
            cases h9 : isAhead (nt ws k).1 (nt ws a).1
            · rfl
            · exact absurd ⟨hb2, h9⟩ hc
          · exact h2 k (by omega) hb2
theorem out_perm {α : Type} [Inhabited α] {ws : List α} {a : Nat} (h : a < ws.length) : ws.Perm (nt ws a :: (ws.take a ++ ws.drop (a + 1))) := by
  have h1 : ws = ws.take a ++ nt ws a :: ws.drop (a + 1) := by
    rw [nt_at h, ← List.drop_eq_getElem_cons h, List.take_append_drop]
  conv => lhs; rw [h1]
  exact List.perm_middle
/-- one more is chosen -/
theorem chosen {L : Lg} {t : Int} (hok : L.ok) {ws : List Rc} {j : Nat} (hp : ws.Perm (L.wt.drop j)) (hj : j ≤ cnt L t) {a : Nat} (h : atI ws (mx L.bd t) ws.length = (a : Int)) :
    a < ws.length ∧ j < cnt L t ∧ nt ws a = nt L.wt j ∧ (ws.take a ++ ws.drop (a + 1)).Perm (L.wt.drop (j + 1)) ∧ (L.wt.take j ++ [nt ws a]) = L.wt.take (j + 1) := by
  have hc := cnt_le L t
  rcases atI_spec ws (mx L.bd t) ws.length with ⟨e, _⟩ | ⟨a', ha, e, h1, h2⟩
  · omega
  · have e2 : a' = a := by omega
    subst e2
    have hl := hp.length_eq
    simp only [List.length_drop] at hl
    have hjl : j < L.wt.length := by omega
    have hmem : nt ws a' ∈ L.wt.drop j := hp.mem_iff.1 (nt_mem ha)
    obtain ⟨k, hk, ek⟩ := mem_nt hmem
    simp only [List.length_drop] at hk
    rw [drop_nt (by omega)] at ek
    -- the least of them is the first
    have hs : nt L.wt j ∈ ws := hp.mem_iff.2 (by
      have := drop_nt (l := L.wt) (i := j) (k := 0) (by omega)
      rw [Nat.add_zero] at this
      rw [← this]
      exact nt_mem (by simp; omega))
    obtain ⟨q, hq, eq⟩ := mem_nt hs
    have hlow : (nt L.wt j).1.1 ≤ mx L.bd t := by
      have := ts_mono hok.upW (i := j) (k := j + k) (by omega) (by omega)
      rw [ek] at this
      omega
    have hk0 : k = 0 := by
      rcases Nat.eq_zero_or_pos k with h0 | h0
      · exact h0
      · have h3 := hok.upW.lt (i := j) (k := j + k) (by omega) (by omega)
        have h4 := h2 q hq (by rw [eq]; exact hlow)
        rw [eq, ← ek, h3] at h4; cases h4
    subst hk0
    rw [Nat.add_zero] at ek
    have hjc : j < cnt L t := by
      rcases Nat.lt_or_ge j (cnt L t) with h9 | h9
      · exact h9
      · have := cnt_hi hok.upW h9 hjl; omega
    refine ⟨ha, hjc, ek.symm, ?_, ?_⟩
    · have h5 := (out_perm ha).symm.trans hp
      rw [List.drop_eq_getElem_cons hjl, ← nt_at hjl, ek] at h5
      exact h5.cons_inv
    · rw [take_nt hjl, ek]
theorem chosen_none {L : Lg} {t : Int} (hok : L.ok) {ws : List Rc} {j : Nat} (hp : ws.Perm (L.wt.drop j)) (hj : j ≤ cnt L t) (h : atI ws (mx L.bd t) ws.length = -1) : j = cnt L t := by
  rcases atI_spec ws (mx L.bd t) ws.length with ⟨_, h1⟩ | ⟨a', ha, e, _, _⟩
  · rcases Nat.lt_or_ge j (cnt L t) with h9 | h9
    · have hc := cnt_le L t
      have h2 := cnt_lo h9
      have hs : nt L.wt j ∈ ws := hp.mem_iff.2 (by
        have := drop_nt (l := L.wt) (i := j) (k := 0) (by omega)
        rw [Nat.add_zero] at this
        rw [← this]
        exact nt_mem (by simp; omega))
      obtain ⟨q, hq, eq⟩ := mem_nt hs
      have := h1 q hq
      rw [eq] at this
      omega
    · omega
  · omega
end Go.Proofs.Ytipnmgihbpbonaa.ordM
