/- Versions and chains of them, plainly: their order, what is put, seen, trimmed and joined. -/
import Derived.Test.YtafocefbpkcoaaaOpV
set_option linter.unusedVariables false
namespace Go.Proofs.Ytafocefbpkcoaaa.chnM
open opV

instance decVer : DecidableEq Ver := fun a b =>
  decidable_of_iff (a.key = b.key ∧ a.val = b.val ∧ a.gone = b.gone ∧ a.ts = b.ts ∧ a.dc = b.dc ∧ a.tx = b.tx) (by cases a; cases b; simp)
def nt {α : Type} [Inhabited α] (l : List α) (i : Nat) : α := l.getD i default
theorem getD_at {α : Type} {l : List α} {i : Nat} (h : i < l.length) (d : α) : l.getD i d = l[i] := by simp [List.getD, h]
section
variable {α : Type} [Inhabited α] {l : List α}
theorem nt_at {n : Nat} (h : n < l.length) : nt l n = l[n] := getD_at h _
theorem nt_mem {n : Nat} (h : n < l.length) : nt l n ∈ l := by rw [nt_at h]; exact List.getElem_mem h
theorem mem_nt {x : α} (h : x ∈ l) : ∃ i, i < l.length ∧ nt l i = x := by
  obtain ⟨i, hi, e⟩ := List.getElem_of_mem h
  exact ⟨i, hi, by rw [nt_at hi, e]⟩
theorem take_nt {n : Nat} (h : n < l.length) : l.take (n + 1) = l.take n ++ [nt l n] := by rw [List.take_succ_eq_append_getElem h, nt_at h]
theorem nt_ext {k : List α} (hn : l.length = k.length) (h : ∀ i, i < l.length → nt l i = nt k i) : l = k := by
  apply List.ext_getElem hn
  intro i h1 h2
  have := h i h1
  rw [nt_at h1, nt_at h2] at this
  exact this
end
/-! ### The order of marks -/
def c3 (x y : Int) : Int := if x < y then -1 else if y < x then 1 else 0
def or3 (x y z : Int) : Int := if x = 0 then (if y = 0 then z else y) else x
def cm (a b : Int × Int × Int) : Int := or3 (c3 a.1 b.1) (c3 a.2.1 b.2.1) (c3 a.2.2 b.2.2)
theorem c3_cases (x y : Int) : (x < y ∧ c3 x y = -1) ∨ (y < x ∧ c3 x y = 1) ∨ (x = y ∧ c3 x y = 0) := by
  unfold c3; split <;> (try split) <;> omega
theorem or3_cases (x y z : Int) : (x ≠ 0 ∧ or3 x y z = x) ∨ (x = 0 ∧ y ≠ 0 ∧ or3 x y z = y) ∨ (x = 0 ∧ y = 0 ∧ or3 x y z = z) := by
  unfold or3; split <;> (try split) <;> simp_all
theorem c3_bd (x y : Int) : -1 ≤ c3 x y ∧ c3 x y ≤ 1 := by unfold c3; split <;> (try split) <;> omega
/-- the order, by its parts -/
theorem cm_cases (a b : Int × Int × Int) :
    ((a.1 < b.1 ∨ (a.1 = b.1 ∧ a.2.1 < b.2.1) ∨ (a.1 = b.1 ∧ a.2.1 = b.2.1 ∧ a.2.2 < b.2.2)) ∧ cm a b = -1) ∨
    ((b.1 < a.1 ∨ (a.1 = b.1 ∧ b.2.1 < a.2.1) ∨ (a.1 = b.1 ∧ a.2.1 = b.2.1 ∧ b.2.2 < a.2.2)) ∧ cm a b = 1) ∨
    ((a.1 = b.1 ∧ a.2.1 = b.2.1 ∧ a.2.2 = b.2.2) ∧ cm a b = 0) := by
  have h1 := c3_cases a.1 b.1
  have h2 := c3_cases a.2.1 b.2.1
  have h3 := c3_cases a.2.2 b.2.2
  have h4 := or3_cases (c3 a.1 b.1) (c3 a.2.1 b.2.1) (c3 a.2.2 b.2.2)
  unfold cm
  omega
theorem cm_bd (a b : Int × Int × Int) : -1 ≤ cm a b ∧ cm a b ≤ 1 := by
  have := cm_cases a b
  omega
theorem cm_1 (a b : Int × Int × Int) (h : a.1 ≠ b.1) : decide (cm a b < 0) = decide (a.1 < b.1) := by
  have := cm_cases a b
  rw [decide_eq_decide]; omega
theorem cm_2 (a b : Int × Int × Int) (h : a.1 = b.1) (g : a.2.1 ≠ b.2.1) : decide (cm a b < 0) = decide (a.2.1 < b.2.1) := by
  have := cm_cases a b
  rw [decide_eq_decide]; omega
theorem cm_3 (a b : Int × Int × Int) (h : a.1 = b.1) (g : a.2.1 = b.2.1) : decide (cm a b < 0) = decide (a.2.2 < b.2.2) := by
  have := cm_cases a b
  rw [decide_eq_decide]; omega
/-- is a ahead of b? -/
def isAhead (a b : Int × Int × Int) : Bool := decide (cm a b < 0)
def mk3 (v : Ver) : Int × Int × Int := (v.ts, v.dc, v.tx)
def lt (a b : Ver) : Bool := isAhead (mk3 a) (mk3 b)
def same (a b : Ver) : Bool := decide (mk3 a = mk3 b)
theorem lt_iff (a b : Ver) : lt a b = true ↔ (a.ts < b.ts ∨ (a.ts = b.ts ∧ a.dc < b.dc) ∨ (a.ts = b.ts ∧ a.dc = b.dc ∧ a.tx < b.tx)) := by
  have h := cm_cases (mk3 a) (mk3 b)
  unfold lt isAhead
  rw [decide_eq_true_eq]
  unfold mk3 at *
  simp only at h
  omega
theorem lt_no (a b : Ver) : lt a b = false ↔ ¬ (a.ts < b.ts ∨ (a.ts = b.ts ∧ a.dc < b.dc) ∨ (a.ts = b.ts ∧ a.dc = b.dc ∧ a.tx < b.tx)) := by
  rw [← lt_iff, Bool.not_eq_true]
theorem mk_iff (a b : Ver) : mk3 a = mk3 b ↔ a.ts = b.ts ∧ a.dc = b.dc ∧ a.tx = b.tx := by unfold mk3; simp
theorem same_iff (a b : Ver) : same a b = true ↔ mk3 a = mk3 b := by unfold same; rw [decide_eq_true_eq]
theorem same_lt (a b : Ver) : same a b = (!lt a b && !lt b a) := by
  rw [Bool.eq_iff_iff, same_iff, mk_iff, Bool.and_eq_true, Bool.not_eq_true', Bool.not_eq_true', lt_no, lt_no]
  omega
theorem lt_self (a : Ver) : lt a a = false := by rw [lt_no]; omega
theorem lt_trans {a b c : Ver} (h1 : lt a b = true) (h2 : lt b c = true) : lt a c = true := by
  rw [lt_iff] at *; omega
theorem lt_not {a b : Ver} (h : lt a b = true) : lt b a = false := by
  rw [lt_iff] at h; rw [lt_no]; omega
theorem lt_other {a b : Ver} (h : lt a b = false) (hn : mk3 a ≠ mk3 b) : lt b a = true := by
  rw [Ne, mk_iff] at hn; rw [lt_no] at h; rw [lt_iff]; omega
theorem le_trans {a b c : Ver} (h1 : lt b a = false) (h2 : lt c b = false) : lt c a = false := by
  rw [lt_no] at *; omega
theorem lt_ne {a b : Ver} (h : lt a b = true) : mk3 a ≠ mk3 b := by
  rw [Ne, mk_iff]; rw [lt_iff] at h; omega
/-! ### The calls -/
/-- the first place of which p holds, none: the length -/
def idx (p : Ver → Bool) : List Ver → Nat
  | [] => 0
  | x :: r => if p x = true then 0 else idx p r + 1
theorem idx_le (p : Ver → Bool) : ∀ l, idx p l ≤ l.length
  | [] => by simp [idx]
  | x :: r => by unfold idx; split <;> simp <;> exact idx_le p r
theorem idx_at (p : Ver → Bool) : ∀ l, idx p l < l.length → p (nt l (idx p l)) = true
  | [], h => by simp at h
  | x :: r, h => by
    unfold idx at h ⊢
    split
    · rename_i hx; exact hx
    · rename_i hx
      rw [if_neg hx] at h
      exact idx_at p r (by simpa using h)
theorem idx_no (p : Ver → Bool) : ∀ l i, i < idx p l → p (nt l i) = false
  | [], i, h => by simp [idx] at h
  | x :: r, i, h => by
    unfold idx at h
    split at h
    · omega
    · rename_i hx
      cases i with
      | zero => exact Bool.eq_false_iff.2 hx
      | succ i => exact idx_no p r i (by omega)
theorem idx_eq (p : Ver → Bool) (l : List Ver) (j : Nat) (hj : j < l.length) (h1 : p (nt l j) = true) (h0 : ∀ i, i < j → p (nt l i) = false) : idx p l = j := by
  rcases Nat.lt_trichotomy (idx p l) j with h | h | h
  · have := idx_at p l (by omega)
    rw [h0 _ h] at this; cases this
  · exact h
  · have := idx_no p l j h
    rw [h1] at this; cases this
theorem idx_all (p : Ver → Bool) (l : List Ver) (h0 : ∀ i, i < l.length → p (nt l i) = false) : idx p l = l.length := by
  have := idx_le p l
  rcases Nat.lt_or_ge (idx p l) l.length with h | h
  · have h1 := idx_at p l h
    rw [h0 _ h] at h1; cases h1
  · omega
/-- .. as IndexFunc tells it -/
def ixf (p : Ver → Bool) (l : List Ver) : Int := if idx p l < l.length then (idx p l : Nat) else -1
/-- the place of the version with v's mark -/
def plc (l : List Ver) (v : Ver) : Nat := idx (fun x => same x v) l
def putE (l : List Ver) (v : Ver) : Nat := if plc l v < l.length then (if nt l (plc l v) = v then 8 else 3) else 0
def putI (l : List Ver) (v : Ver) : Nat := idx (fun x => lt v x) l
def insA {α : Type} (l : List α) (i : Nat) (x : α) : List α := l.take i ++ x :: l.drop i
def put (l : List Ver) (v : Ver) : List Ver := insA l (putI l v) v
/-- what is answered -/
def putL (l : List Ver) (v : Ver) : List Ver := if putE l v = 0 then put l v else []
theorem putI_le (l : List Ver) (v : Ver) : putI l v ≤ l.length := idx_le _ l
theorem put_len (l : List Ver) (v : Ver) : (put l v).length = l.length + 1 := by
  have := putI_le l v
  unfold put insA; simp; omega
theorem mem_put {l : List Ver} {v x : Ver} : x ∈ put l v ↔ x = v ∨ x ∈ l := by
  unfold put insA
  rw [List.mem_append, List.mem_cons]
  constructor
  · rintro (h | h | h)
    · exact .inr (List.mem_of_mem_take h)
    · exact .inl h
    · exact .inr (List.mem_of_mem_drop h)
  · rintro (h | h)
    · exact .inr (.inl h)
    · rw [← List.take_append_drop (putI l v) l, List.mem_append] at h
      rcases h with h | h
      · exact .inl h
      · exact .inr (.inr h)
theorem putE_zero {l : List Ver} {v : Ver} : putE l v = 0 ↔ ∀ x ∈ l, mk3 x ≠ mk3 v := by
  unfold putE plc
  constructor
  · intro h x hx
    split at h
    · split at h <;> omega
    · rename_i h0
      obtain ⟨i, hi, rfl⟩ := mem_nt hx
      have := idx_le (fun x => same x v) l
      have := idx_no (fun x => same x v) l i (by omega)
      intro e
      rw [(same_iff _ _).2 e] at this; cases this
  · intro h
    rw [if_neg]
    intro hlt
    have := idx_at (fun x => same x v) l hlt
    exact h _ (nt_mem hlt) ((same_iff _ _).1 this)
theorem putE_cases (l : List Ver) (v : Ver) : putE l v = 0 ∨ putE l v = 3 ∨ putE l v = 8 := by
  unfold putE; split
  · split <;> simp
  · simp
theorem putE_three {l : List Ver} {v : Ver} (h : putE l v = 3) : ∃ x ∈ l, mk3 x = mk3 v ∧ x ≠ v := by
  unfold putE at h
  split at h
  · rename_i hlt
    split at h
    · omega
    · rename_i hne
      exact ⟨_, nt_mem hlt, (same_iff _ _).1 (idx_at (fun x => same x v) l hlt), hne⟩
  · omega
theorem putE_eight {l : List Ver} {v : Ver} (h : putE l v = 8) : v ∈ l := by
  unfold putE at h
  split at h
  · rename_i hlt
    split at h
    · rename_i he
      have := nt_mem hlt
      rw [he] at this; exact this
    · omega
  · omega
/-- the place that is seen, behind j steps -/
def snn (l : List Ver) (s : Int) : Nat → Int
  | 0 => -1
  | j + 1 => if (nt l j).ts ≤ s ∧ (snn l s j < 0 ∨ lt (nt l (snn l s j).toNat) (nt l j) = true) then (j : Nat) else snn l s j
theorem seen_bd (l : List Ver) (s : Int) : ∀ j, -1 ≤ snn l s j ∧ snn l s j < j
  | 0 => by simp [snn]
  | j + 1 => by
    have := seen_bd l s j
    unfold snn; split <;> omega
def snA (l : List Ver) (s : Int) : Int := snn l s l.length
def atB (l : List Ver) (s : Int) : Bool := decide (0 ≤ snA l s)
def atV (l : List Ver) (s : Int) : Ver := if 0 ≤ snA l s then nt l (snA l s).toNat else default
theorem seen_spec (l : List Ver) (s : Int) : ∀ j, (snn l s j = -1 ∧ ∀ i, i < j → ¬ (nt l i).ts ≤ s) ∨
    ∃ k : Nat, snn l s j = k ∧ k < j ∧ (nt l k).ts ≤ s ∧ ∀ i, i < j → (nt l i).ts ≤ s → lt (nt l k) (nt l i) = false
  | 0 => .inl ⟨rfl, fun i hi => by omega⟩
  | j + 1 => by
    rcases seen_spec l s j with ⟨h1, h2⟩ | ⟨k, h1, h2, h3, h4⟩
    · by_cases hs : (nt l j).ts ≤ s
      · refine .inr ⟨j, ?_, by omega, hs, fun i hi hs' => ?_⟩
        · unfold snn; rw [if_pos ⟨hs, .inl (by omega)⟩]
        · by_cases e : i = j
          · rw [e]; exact lt_self _
          · exact absurd hs' (h2 i (by omega))
      · refine .inl ⟨?_, fun i hi => ?_⟩
        · unfold snn; rw [if_neg (fun h => hs h.1)]; exact h1
        · by_cases e : i = j
          · rw [e]; exact hs
          · exact h2 i (by omega)
    · by_cases hs : (nt l j).ts ≤ s ∧ lt (nt l k) (nt l j) = true
      · refine .inr ⟨j, ?_, by omega, hs.1, fun i hi hs' => ?_⟩
        · unfold snn; rw [if_pos ⟨hs.1, .inr (by rw [h1]; exact hs.2)⟩]
        · by_cases e : i = j
          · rw [e]; exact lt_self _
          · exact le_trans (h4 i (by omega) hs') (lt_not hs.2)
      · refine .inr ⟨k, ?_, by omega, h3, fun i hi hs' => ?_⟩
        · unfold snn; rw [if_neg, h1]
          rintro ⟨g1, g2⟩
          rcases g2 with g2 | g2
          · omega
          · rw [h1] at g2; exact hs ⟨g1, g2⟩
        · by_cases e : i = j
          · subst e
            cases hq : lt (nt l k) (nt l i)
            · rfl
            · exact absurd ⟨hs', hq⟩ hs
          · exact h4 i (by omega) hs'
theorem at_no {l : List Ver} {s : Int} (h : atB l s = false) : (∀ x ∈ l, ¬ x.ts ≤ s) ∧ atV l s = default := by
  have h0 : ¬ 0 ≤ snA l s := of_decide_eq_false h
  refine ⟨?_, by unfold atV; rw [if_neg h0]⟩
  rcases seen_spec l s l.length with ⟨h1, h2⟩ | ⟨k, h1, h2, h3, h4⟩
  · intro x hx
    obtain ⟨i, hi, rfl⟩ := mem_nt hx
    exact h2 i hi
  · unfold snA at h0; omega
theorem at_yes {l : List Ver} {s : Int} (h : atB l s = true) : atV l s ∈ l ∧ (atV l s).ts ≤ s ∧ ∀ x ∈ l, x.ts ≤ s → lt (atV l s) x = false := by
  have h0 : 0 ≤ snA l s := of_decide_eq_true h
  rcases seen_spec l s l.length with ⟨h1, h2⟩ | ⟨k, h1, h2, h3, h4⟩
  · unfold snA at h0; omega
  · have e : atV l s = nt l k := by unfold atV; rw [if_pos h0]; unfold snA; rw [h1]; rfl
    rw [e]
    refine ⟨nt_mem h2, h3, fun x hx hs => ?_⟩
    obtain ⟨i, hi, rfl⟩ := mem_nt hx
    exact h4 i hi hs
theorem at_some {l : List Ver} {s : Int} {x : Ver} (hx : x ∈ l) (hs : x.ts ≤ s) : atB l s = true := by
  cases h : atB l s
  · exact absurd hs ((at_no h).1 x hx)
  · rfl
/-- is a version kept? -/
def keep (l : List Ver) (s : Int) (x : Ver) : Bool := !atB l s || !lt x (atV l s)
def trm (l : List Ver) (s : Int) : List Ver := l.filter (keep l s)
theorem trm_le (l : List Ver) (s : Int) : (trm l s).length ≤ l.length := List.length_filter_le _ _
theorem filt_take {p : Ver → Bool} {l : List Ver} {j : Nat} (h : j < l.length) : (l.take (j + 1)).filter p = (l.take j).filter p ++ if p (nt l j) = true then [nt l j] else [] := by
  rw [take_nt h, List.filter_append]
  congr 1
  by_cases hp : p (nt l j) = true
  · rw [if_pos hp, List.filter_cons_of_pos hp]; rfl
  · rw [if_neg hp, List.filter_cons_of_neg hp]; rfl
theorem filt_len {p : Ver → Bool} {l : List Ver} {j : Nat} : ((l.take j).filter p).length ≤ j := by
  have h1 := List.length_filter_le p (l.take j)
  rw [List.length_take] at h1
  omega
/-- Join, as far as place j of b; none: refused -/
def joi (a b : List Ver) : Nat → Option (List Ver)
  | 0 => some a
  | j + 1 => match joi a b j with
    | none => none
    | some r => if putE r (nt b j) = 3 then none else if putE r (nt b j) = 0 then some (put r (nt b j)) else some r
def joiE (a b : List Ver) : Nat := if (joi a b b.length).isSome = true then 0 else 3
def joiL (a b : List Ver) : List Ver := (joi a b b.length).getD []
theorem joi_none {a b : List Ver} : ∀ {j k : Nat}, joi a b j = none → j ≤ k → joi a b k = none
  | j, 0, h, hk => by obtain rfl : j = 0 := by omega
                      exact h
  | j, k + 1, h, hk => by
    by_cases e : j = k + 1
    · rw [← e]; exact h
    · have := joi_none (k := k) h (by omega)
      unfold joi; rw [this]
theorem joi_len {a b : List Ver} : ∀ {j : Nat} {r : List Ver}, joi a b j = some r → r.length ≤ a.length + j
  | 0, r, h => by unfold joi at h; cases h; omega
  | j + 1, r, h => by
    unfold joi at h
    split at h
    · cases h
    · rename_i r0 h0
      have := joi_len h0
      split at h
      · cases h
      · split at h
        · cases h; rw [put_len]; omega
        · cases h; omega
/-- a chain of the first 40 versions of a list, as far as place j -/
def ofJ (l : List Ver) : Nat → List Ver
  | 0 => []
  | j + 1 => if putE (ofJ l j) (nt l j) = 0 then put (ofJ l j) (nt l j) else ofJ l j
def ofN (l : List Ver) : Nat := if l.length < 40 then l.length else 40
def ofL (l : List Ver) : List Ver := ofJ l (ofN l)
theorem ofJ_len (l : List Ver) : ∀ j, (ofJ l j).length ≤ j
  | 0 => by simp [ofJ]
  | j + 1 => by
    have := ofJ_len l j
    unfold ofJ; split
    · rw [put_len]; omega
    · omega
theorem ofL_len (l : List Ver) : (ofL l).length ≤ 40 := by
  have := ofJ_len l (ofN l)
  unfold ofL
  have : ofN l ≤ 40 := by unfold ofN; split <;> omega
  omega
/-! ### Chains -/
def Chain (l : List Ver) : Prop := l.Pairwise (fun a b => lt a b = true)
theorem put_chain {l : List Ver} {v : Ver} (h : Chain l) (he : putE l v = 0) : Chain (put l v) := by
  have hm := putE_zero.1 he
  have hi := putI_le l v
  unfold put insA Chain
  rw [List.pairwise_append, List.pairwise_cons]
  have hc : Chain (l.take (putI l v) ++ l.drop (putI l v)) := by rw [List.take_append_drop]; exact h
  obtain ⟨h1, h2, h3⟩ := List.pairwise_append.1 hc
  have hbef : ∀ x ∈ l.take (putI l v), lt x v = true := by
    intro x hx
    obtain ⟨i, hi', rfl⟩ := List.getElem_of_mem hx
    have hi2 : i < putI l v := by rw [List.length_take] at hi'; omega
    have h0 := idx_no (fun x => lt v x) l i hi2
    have e : (l.take (putI l v))[i] = nt l i := by rw [List.getElem_take, nt_at (by omega)]
    rw [e] at hx ⊢
    exact lt_other h0 (fun e => hm _ (List.mem_of_mem_take hx) e.symm)
  have haft : ∀ x ∈ l.drop (putI l v), lt v x = true := by
    intro x hx
    have hlt : putI l v < l.length := by
      rcases Nat.lt_or_ge (putI l v) l.length with h | h
      · exact h
      · rw [List.drop_eq_nil_of_le h] at hx; cases hx
    have h0 := idx_at (fun x => lt v x) l hlt
    rw [List.drop_eq_getElem_cons hlt] at hx h2
    change lt v (nt l (putI l v)) = true at h0
    rw [nt_at hlt] at h0
    rcases List.mem_cons.1 hx with rfl | hx
    · exact h0
    · exact lt_trans h0 ((List.pairwise_cons.1 h2).1 x hx)
  refine ⟨h1, ⟨haft, h2⟩, fun a ha b hb => ?_⟩
  rcases List.mem_cons.1 hb with rfl | hb
  · exact hbef a ha
  · exact h3 a ha b hb
theorem ofJ_chain (l : List Ver) : ∀ j, Chain (ofJ l j)
  | 0 => List.Pairwise.nil
  | j + 1 => by
    unfold ofJ; split
    · rename_i h; exact put_chain (ofJ_chain l j) h
    · exact ofJ_chain l j
theorem ofL_chain (l : List Ver) : Chain (ofL l) := ofJ_chain l _
theorem chain_lt {l : List Ver} (h : Chain l) {i j : Nat} (hij : i < j) (hj : j < l.length) : lt (nt l i) (nt l j) = true := by
  rw [nt_at hj, nt_at (by omega)]
  exact List.pairwise_iff_getElem.1 h i j (by omega) hj hij
theorem chain_eq {l : List Ver} (h : Chain l) {x y : Ver} (hx : x ∈ l) (hy : y ∈ l) (e : mk3 x = mk3 y) : x = y := by
  obtain ⟨i, hi, rfl⟩ := mem_nt hx
  obtain ⟨j, hj, rfl⟩ := mem_nt hy
  rcases Nat.lt_trichotomy i j with h1 | h1 | h1
  · exact absurd e (lt_ne (chain_lt h h1 hj))
  · rw [h1]
  · exact absurd e.symm (lt_ne (chain_lt h h1 hi))
theorem chain_same : ∀ {a b : List Ver}, Chain a → Chain b → (∀ x, x ∈ a ↔ x ∈ b) → a = b
  | [], [], _, _, _ => rfl
  | [], y :: b, _, _, h => absurd ((h y).2 (by simp)) (by simp)
  | x :: a, [], _, _, h => absurd ((h x).1 (by simp)) (by simp)
  | x :: a, y :: b, ha, hb, h => by
    obtain ⟨a1, a2⟩ := List.pairwise_cons.1 ha
    obtain ⟨b1, b2⟩ := List.pairwise_cons.1 hb
    have e : x = y := by
      rcases List.mem_cons.1 ((h x).1 (by simp)) with e | hx
      · exact e
      · rcases List.mem_cons.1 ((h y).2 (by simp)) with e | hy
        · exact e.symm
        · have := lt_not (a1 y hy)
          rw [b1 x hx] at this; cases this
    subst e
    congr 1
    refine chain_same a2 b2 fun z => ⟨fun hz => ?_, fun hz => ?_⟩
    · rcases List.mem_cons.1 ((h z).1 (List.mem_cons_of_mem _ hz)) with e | h'
      · subst e; have := a1 z hz; rw [lt_self] at this; cases this
      · exact h'
    · rcases List.mem_cons.1 ((h z).2 (List.mem_cons_of_mem _ hz)) with e | h'
      · subst e; have := b1 z hz; rw [lt_self] at this; cases this
      · exact h'
end Go.Proofs.Ytafocefbpkcoaaa.chnM
