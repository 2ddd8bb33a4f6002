/- A session, plainly: the order of keys, rows of one version a key, what the calls of a session answer and leave. -/
import Derived.Test.YtnicomhodnfggaaChnM
import GoSem.Op.String
import Derived.Laws.Strings
import Derived.Lib.Bytealg
set_option linter.unusedVariables false
namespace Go.Proofs.Ytnicomhodnfggaa.seM
open Go opV chnM

/-! ### The order of keys -/
abbrev emp : ByteArray := { data := #[] }
theorem u8_irr (a : UInt8) : ¬ a < a := by rw [UInt8.lt_iff_toNat_lt]; omega
theorem bl_irr : ∀ x : List UInt8, Op.bytesLess x x = false
  | [] => rfl
  | a :: x => by simp [Op.bytesLess, bl_irr x, u8_irr a]
theorem bl_trans : ∀ x y z : List UInt8, Op.bytesLess x y = true → Op.bytesLess y z = true → Op.bytesLess x z = true
  | x, [], z, h, _ => by cases x <;> simp [Op.bytesLess] at h
  | x, b :: y, [], _, h => by simp [Op.bytesLess] at h
  | [], b :: y, c :: z, _, _ => rfl
  | a :: x, b :: y, c :: z, h1, h2 => by
    simp only [Op.bytesLess, Bool.or_eq_true, decide_eq_true_eq, Bool.and_eq_true, beq_iff_eq, UInt8.lt_iff_toNat_lt] at h1 h2 ⊢
    rcases h1 with h1 | ⟨rfl, h1⟩
    · rcases h2 with h2 | ⟨rfl, h2⟩
      · exact .inl (by omega)
      · exact .inl h1
    · rcases h2 with h2 | ⟨rfl, h2⟩
      · exact .inl h2
      · exact .inr ⟨rfl, bl_trans x y z h1 h2⟩
theorem bl_tri : ∀ x y : List UInt8, Op.bytesLess x y = false → Op.bytesLess y x = false → x = y
  | [], [], _, _ => rfl
  | [], b :: y, h, _ => by simp [Op.bytesLess] at h
  | a :: x, [], _, h => by simp [Op.bytesLess] at h
  | a :: x, b :: y, h1, h2 => by
    simp only [Op.bytesLess, Bool.or_eq_false_iff, decide_eq_false_iff_not, Bool.and_eq_false_iff, beq_eq_false_iff_ne, UInt8.lt_iff_toNat_lt] at h1 h2
    have e : a = b := UInt8.toNat_inj.1 (by omega)
    subst e
    rw [bl_tri x y (by rcases h1.2 with h | h; exact absurd rfl h; exact h) (by rcases h2.2 with h | h; exact absurd rfl h; exact h)]
def slt (a b : ByteArray) : Bool := Op.bytesLess a.toList b.toList
def seq (a b : ByteArray) : Bool := a.toList == b.toList
def sle (a b : ByteArray) : Bool := slt a b || seq a b
theorem toList_inj {a b : ByteArray} (h : a.toList = b.toList) : a = b := by
  rw [ByteArray.toList_eq, ByteArray.toList_eq] at h
  cases a; cases b
  exact congrArg ByteArray.mk (Array.toList_inj.1 h)
theorem seq_iff (a b : ByteArray) : seq a b = true ↔ a = b := by
  unfold seq
  rw [beq_iff_eq]
  exact ⟨toList_inj, fun h => by rw [h]⟩
theorem seq_self (a : ByteArray) : seq a a = true := (seq_iff a a).2 rfl
theorem seq_ne {a b : ByteArray} (h : a ≠ b) : seq a b = false := by
  cases e : seq a b
  · rfl
  · exact absurd ((seq_iff a b).1 e) h
theorem slt_irr (a : ByteArray) : slt a a = false := bl_irr _
theorem slt_trans {a b c : ByteArray} (h1 : slt a b = true) (h2 : slt b c = true) : slt a c = true := bl_trans _ _ _ h1 h2
theorem slt_tri {a b : ByteArray} (h1 : slt a b = false) (h2 : slt b a = false) : a = b := toList_inj (bl_tri _ _ h1 h2)
theorem sle_not (a b : ByteArray) : sle a b = !slt b a := by
  unfold sle
  cases h1 : slt a b
  · cases h2 : slt b a
    · rw [slt_tri h1 h2, seq_self]; rfl
    · cases h3 : seq a b
      · rfl
      · rw [(seq_iff a b).1 h3, slt_irr] at h2; cases h2
  · cases h2 : slt b a
    · rfl
    · have := slt_trans h1 h2
      rw [slt_irr] at this; cases this
theorem sle_self (a : ByteArray) : sle a a = true := by rw [sle_not, slt_irr]; rfl
theorem sle_of_lt {a b : ByteArray} (h : slt a b = true) : sle a b = true := by unfold sle; rw [h]; rfl
theorem lt_of_lt_le {a b c : ByteArray} (h1 : slt a b = true) (h2 : sle b c = true) : slt a c = true := by
  unfold sle at h2
  rw [Bool.or_eq_true] at h2
  rcases h2 with h2 | h2
  · exact slt_trans h1 h2
  · rw [← (seq_iff b c).1 h2]; exact h1
theorem not_slt_le {a b : ByteArray} : slt a b = false ↔ sle b a = true := by rw [sle_not]; cases slt a b <;> simp
theorem emp_le (a : ByteArray) : slt a emp = false := by
  unfold slt
  rw [ByteArray.toList_eq emp]
  show Op.bytesLess _ [] = false
  cases a.toList <;> rfl
theorem emp_lt {a : ByteArray} (h : a ≠ emp) : slt emp a = true := by
  cases e : slt emp a
  · exact absurd (slt_tri (emp_le a) e) h
  · rfl



theorem cmp_lists : ∀ x y : List UInt8, (Lib.compareBytes x y < 0 ↔ Op.bytesLess x y = true) ∧ (Lib.compareBytes x y = 0 ↔ x = y)
  | [], [] => by simp [Lib.compareBytes, Op.bytesLess]
  | [], b :: y => by simp [Lib.compareBytes, Op.bytesLess]
  | a :: x, [] => by simp [Lib.compareBytes, Op.bytesLess]
  | a :: x, b :: y => by
    obtain ⟨h1, h2⟩ := cmp_lists x y
    unfold Lib.compareBytes
    simp only [Op.bytesLess, Bool.or_eq_true, decide_eq_true_eq, Bool.and_eq_true, beq_iff_eq, List.cons.injEq]
    by_cases hab : a < b
    · rw [if_pos hab]
      refine ⟨⟨fun _ => .inl hab, fun _ => by omega⟩, ⟨fun h => by omega, fun h => ?_⟩⟩
      rw [h.1] at hab; exact absurd hab (u8_irr b)
    · rw [if_neg hab]
      by_cases hba : b < a
      · rw [if_pos hba]
        refine ⟨⟨fun h => by omega, fun h => ?_⟩, ⟨fun h => by omega, fun h => ?_⟩⟩
        · rcases h with h | h
          · exact absurd h hab
          · rw [h.1] at hba; exact absurd hba (u8_irr b)
        · rw [h.1] at hba; exact absurd hba (u8_irr b)
      · rw [if_neg hba]
        have e : a = b := UInt8.toNat_inj.1 (by rw [UInt8.lt_iff_toNat_lt] at hab hba; omega)
        subst e
        exact ⟨h1.trans ⟨fun h => .inr ⟨rfl, h⟩, fun h => h.elim (fun h => absurd h hab) (fun h => h.2)⟩, h2.trans ⟨fun h => ⟨rfl, h⟩, fun h => h.2⟩⟩
/-- what strings.Compare answers -/
def kc (a b : ByteArray) : Int := Lib.compareBytes a.data.toList b.data.toList
theorem kc_lt (a b : ByteArray) : kc a b < 0 ↔ slt a b = true := by
  unfold kc slt
  rw [ByteArray.toList_eq, ByteArray.toList_eq]
  exact (cmp_lists _ _).1
theorem kc_zero (a b : ByteArray) : kc a b = 0 ↔ a = b := by
  unfold kc
  rw [(cmp_lists _ _).2]
  constructor
  · intro h; cases a; cases b; exact congrArg ByteArray.mk (Array.toList_inj.1 h)
  · rintro rfl; rfl

/-! ### Rows of one version a key -/
def frn (l : List Ver) (k : ByteArray) : List Ver := l.takeWhile fun x => slt x.key k
/-- the place that a key has, or would have -/
def pos (l : List Ver) (k : ByteArray) : Nat := (frn l k).length
def fnd (l : List Ver) (k : ByteArray) : Option Ver := l.find? fun x => seq x.key k
def is (l : List Ver) (k : ByteArray) : Bool := (fnd l k).isSome
def rst (l : List Ver) (k : ByteArray) : List Ver := (l.drop (pos l k)).filter fun x => !seq x.key k
/-- a row with this version -/
def pK (l : List Ver) (v : Ver) : List Ver := frn l v.key ++ v :: rst l v.key
def Up (l : List Ver) : Prop := l.Pairwise fun a b => slt a.key b.key = true
section
variable {l : List Ver} {k : ByteArray} {v : Ver}
theorem frn_take : ∀ (l : List Ver) (k : ByteArray), frn l k = l.take (pos l k)
  | [], k => rfl
  | x :: r, k => by
    unfold pos frn
    rw [List.takeWhile_cons]
    split
    · rw [List.length_cons, List.take_succ_cons]
      exact congrArg _ (frn_take r k)
    · rfl
theorem pos_le (l : List Ver) (k : ByteArray) : pos l k ≤ l.length := by
  have := congrArg List.length (frn_take l k)
  rw [List.length_take] at this
  have h : (frn l k).length = pos l k := rfl
  omega
theorem pos_lt : ∀ {l : List Ver} {i : Nat}, i < pos l k → slt (nt l i).key k = true
  | [], i, h => by simp [pos, frn] at h
  | x :: r, i, h => by
    unfold pos frn at h
    rw [List.takeWhile_cons] at h
    split at h
    · rename_i hx
      cases i with
      | zero => exact hx
      | succ i => exact pos_lt (l := r) (i := i) (by simpa [pos, frn] using h)
    · simp at h
theorem pos_at : ∀ {l : List Ver}, pos l k < l.length → slt (nt l (pos l k)).key k = false
  | [], h => by simp at h
  | x :: r, h => by
    unfold pos frn at h ⊢
    rw [List.takeWhile_cons] at h ⊢
    split
    · rename_i hx
      rw [if_pos hx] at h
      exact pos_at (l := r) (by simpa [pos, frn] using h)
    · rename_i hx
      exact Bool.eq_false_iff.2 hx
theorem Up.lt (h : Up l) {i j : Nat} (hij : i < j) (hj : j < l.length) : slt (nt l i).key (nt l j).key = true := by
  rw [nt_at hj, nt_at (by omega)]
  exact List.pairwise_iff_getElem.1 h i j (by omega) hj hij
theorem Up.ge (h : Up l) {i : Nat} (h1 : pos l k ≤ i) (h2 : i < l.length) : slt (nt l i).key k = false := by
  have hp := pos_at (l := l) (k := k) (by omega)
  by_cases e : pos l k = i
  · rw [← e]; exact hp
  · cases h9 : slt (nt l i).key k
    · rfl
    · rw [slt_trans (h.lt (by omega) h2) h9] at hp; cases hp
theorem fnd_none (h : ∀ x ∈ l, x.key ≠ k) : fnd l k = none := by
  unfold fnd
  rw [List.find?_eq_none]
  intro x hx h9
  exact h x hx ((seq_iff _ _).1 (by simpa using h9))
theorem fnd_some (h : fnd l k = some v) : v ∈ l ∧ v.key = k := ⟨List.mem_of_find?_eq_some h, (seq_iff _ _).1 (by have := List.find?_some h; simpa using this)⟩
theorem is_iff : is l k = true ↔ ∃ x ∈ l, x.key = k := by
  unfold is
  constructor
  · intro h
    obtain ⟨v, hv⟩ := Option.isSome_iff_exists.1 h
    exact ⟨v, fnd_some hv⟩
  · rintro ⟨x, hx, e⟩
    cases h : fnd l k with
    | some v => rfl
    | none =>
      unfold fnd at h
      rw [List.find?_eq_none] at h
      exact absurd ((seq_iff _ _).2 e) (by have := h x hx; simpa using this)
theorem Up.at_key (h : Up l) {i : Nat} (hi : i < l.length) (e : (nt l i).key = k) : pos l k = i := by
  rcases Nat.lt_trichotomy (pos l k) i with h1 | h1 | h1
  · have h2 := pos_at (l := l) (k := k) (by omega)
    have h3 := h.lt h1 hi
    rw [e, h2] at h3; cases h3
  · exact h1
  · have := pos_lt h1
    rw [e, slt_irr] at this; cases this
/-- what is found in a row of rising keys -/
theorem Up.found (h : Up l) : fnd l k = if pos l k < l.length ∧ (nt l (pos l k)).key = k then some (nt l (pos l k)) else none := by
  split
  · rename_i h1
    cases h2 : fnd l k with
    | none =>
      have : is l k = true := is_iff.2 ⟨_, nt_mem h1.1, h1.2⟩
      unfold is at this; rw [h2] at this; cases this
    | some v =>
      obtain ⟨h3, h4⟩ := fnd_some h2
      obtain ⟨i, hi, rfl⟩ := mem_nt h3
      rw [h.at_key hi h4]
  · rename_i h1
    refine fnd_none fun x hx e => h1 ?_
    obtain ⟨i, hi, rfl⟩ := mem_nt hx
    rw [h.at_key hi e]
    exact ⟨hi, e⟩
theorem Up.is_at (h : Up l) : is l k = true ↔ pos l k < l.length ∧ (nt l (pos l k)).key = k := by
  unfold is
  rw [h.found]
  split
  · rename_i h1; exact ⟨fun _ => h1, fun _ => rfl⟩
  · rename_i h1; exact ⟨fun h => (by cases h), fun h => absurd h h1⟩
/-- what the search comes to -/
theorem Up.search (h : Up l) {i : Nat} (hi : i ≤ l.length) (h1 : ∀ j, j < i → slt (nt l j).key k = true) (h2 : ∀ j, i ≤ j → j < l.length → slt (nt l j).key k = false) : i = pos l k := by
  rcases Nat.lt_trichotomy i (pos l k) with h3 | h3 | h3
  · have := pos_le l k
    have h4 := pos_lt h3
    rw [h2 i (Nat.le_refl _) (by omega)] at h4; cases h4
  · exact h3
  · have h4 := pos_at (l := l) (k := k) (by omega)
    rw [h1 _ h3] at h4; cases h4
theorem Up.rst (h : Up l) : rst l k = l.drop (if is l k then pos l k + 1 else pos l k) := by
  unfold seM.rst
  have hd : ∀ n, pos l k + n = l.length → True := fun _ _ => trivial
  cases hi : is l k with
  | false =>
    rw [if_neg (by simp)]
    rw [List.filter_eq_self]
    intro x hx
    have h1 : ¬ is l k = true := by rw [hi]; simp
    rw [is_iff] at h1
    rw [seq_ne fun e => h1 ⟨x, List.mem_of_mem_drop hx, e⟩]
    rfl
  | true =>
    rw [if_pos rfl]
    obtain ⟨h1, h2⟩ := h.is_at.1 hi
    rw [List.drop_eq_getElem_cons h1, List.filter_cons_of_neg (by rw [← nt_at h1, h2, seq_self]; simp), List.filter_eq_self]
    intro x hx
    obtain ⟨j, hj, rfl⟩ := mem_nt hx
    rw [List.length_drop] at hj
    have e : nt (l.drop (pos l k + 1)) j = nt l (pos l k + 1 + j) := by rw [nt_at (by rw [List.length_drop]; omega), List.getElem_drop, nt_at (by omega)]
    rw [e, seq_ne fun e2 => ?_]
    · rfl
    · have := h.lt (i := pos l k) (j := pos l k + 1 + j) (by omega) (by omega)
      rw [e2, h2, slt_irr] at this; cases this
theorem Up.pK_there (h : Up l) (hi : is l v.key = true) : pK l v = l.set (pos l v.key) v := by
  obtain ⟨h1, h2⟩ := h.is_at.1 hi
  unfold pK
  rw [h.rst, if_pos hi, frn_take, List.set_eq_take_append_cons_drop, if_pos h1]
theorem Up.pK_not (h : Up l) (hi : is l v.key = false) : pK l v = insA l (pos l v.key) v := by
  unfold pK insA
  rw [h.rst, hi, frn_take]
  rfl
theorem rst_len (l : List Ver) (k : ByteArray) : (rst l k).length ≤ l.length - pos l k := by
  unfold rst
  exact Nat.le_trans (List.length_filter_le _ _) (by rw [List.length_drop]; exact Nat.le_refl _)
theorem pK_len (l : List Ver) (v : Ver) : (pK l v).length ≤ l.length + 1 := by
  unfold pK
  have h1 := rst_len l v.key
  have h2 := pos_le l v.key
  rw [List.length_append, List.length_cons]
  have h3 : (frn l v.key).length = pos l v.key := rfl
  omega
theorem Up.pK_lens (h : Up l) : (pK l v).length = if is l v.key then l.length else l.length + 1 := by
  have h2 := pos_le l v.key
  cases hi : is l v.key
  · rw [h.pK_not hi]; unfold insA; simp; omega
  · rw [h.pK_there hi]; simp
theorem mem_pK {x : Ver} : x ∈ pK l v → x = v ∨ x ∈ l := by
  unfold pK
  rw [List.mem_append, List.mem_cons]
  rintro (h | h | h)
  · rw [frn_take] at h; exact .inr (List.mem_of_mem_take h)
  · exact .inl h
  · exact .inr (List.mem_of_mem_drop ((List.mem_filter.1 h).1))
theorem Up.pK (h : Up l) (v : Ver) : Up (pK l v) := by
  unfold Up seM.pK
  rw [List.pairwise_append, List.pairwise_cons]
  have hr : ∀ x ∈ seM.rst l v.key, slt v.key x.key = true := by
    intro x hx
    unfold seM.rst at hx
    obtain ⟨hx1, hx2⟩ := List.mem_filter.1 hx
    obtain ⟨j, hj, rfl⟩ := mem_nt hx1
    rw [List.length_drop] at hj
    have e : nt (l.drop (pos l v.key)) j = nt l (pos l v.key + j) := by rw [nt_at (by rw [List.length_drop]; omega), List.getElem_drop, nt_at (by omega)]
    rw [e] at hx2 ⊢
    have h1 := h.ge (k := v.key) (i := pos l v.key + j) (by omega) (by omega)
    cases h9 : slt v.key (nt l (pos l v.key + j)).key
    · rw [slt_tri h1 h9, seq_self] at hx2; cases hx2
    · rfl
  have hf : ∀ x ∈ frn l v.key, slt x.key v.key = true := by
    intro x hx
    rw [frn_take] at hx
    obtain ⟨j, hj, rfl⟩ := mem_nt hx
    rw [List.length_take] at hj
    have e : nt (l.take (pos l v.key)) j = nt l j := by rw [nt_at (by rw [List.length_take]; omega), List.getElem_take, nt_at (by omega)]
    rw [e]
    exact pos_lt (by omega)
  refine ⟨?_, ⟨hr, ?_⟩, fun a ha b hb => ?_⟩
  · rw [frn_take]; exact h.sublist (List.take_sublist _ _)
  · exact h.sublist ((List.filter_sublist).trans (List.drop_sublist _ _))
  · rcases List.mem_cons.1 hb with rfl | hb
    · exact hf a ha
    · exact slt_trans (hf a ha) (hr b hb)
theorem frn_no : ∀ x ∈ frn l k, x.key ≠ k := by
  intro x hx e
  rw [frn_take] at hx
  obtain ⟨j, hj, rfl⟩ := mem_nt hx
  rw [List.length_take] at hj
  have e2 : nt (l.take (pos l k)) j = nt l j := by rw [nt_at (by rw [List.length_take]; omega), List.getElem_take, nt_at (by omega)]
  rw [e2] at e
  have := pos_lt (l := l) (k := k) (i := j) (by omega)
  rw [e, slt_irr] at this; cases this
theorem find_filter {l : List Ver} {k k' : ByteArray} (h : k' ≠ k) : (l.filter fun x => !seq x.key k).find? (fun x => seq x.key k') = l.find? (fun x => seq x.key k') := by
  induction l with
  | nil => rfl
  | cons x r ih =>
    rw [List.filter_cons]
    split
    · rw [List.find?_cons, List.find?_cons, ih]
    · rename_i hx
      have e : x.key = k := (seq_iff _ _).1 (by simpa using hx)
      rw [ih, List.find?_cons_of_neg (by rw [e, seq_ne fun e => h e.symm]; simp)]
/-- what is found in a row with one version more -/
theorem fnd_pK (l : List Ver) (v : Ver) (k : ByteArray) : fnd (pK l v) k = if k = v.key then some v else fnd l k := by
  have hs : fnd (pK l v) k = ((frn l v.key).find? fun x => seq x.key k).or (((v :: rst l v.key)).find? fun x => seq x.key k) := by
    unfold fnd pK; rw [List.find?_append]
  rw [hs]
  split
  · rename_i e
    subst e
    have h0 : (frn l v.key).find? (fun x => seq x.key v.key) = none := fnd_none (l := frn l v.key) frn_no
    rw [h0, List.find?_cons_of_pos (by exact seq_self _)]
    rfl
  · rename_i hk
    rw [List.find?_cons_of_neg (by rw [seq_ne fun e => hk e.symm]; simp)]
    unfold rst
    rw [find_filter hk, frn_take, ← List.find?_append, List.take_append_drop]
    rfl
end
theorem Up.fnd_filter {l : List Ver} (h : Up l) (p : Ver → Bool) (k : ByteArray) : fnd (l.filter p) k = (fnd l k).filter p := by
  cases hf : fnd l k with
  | none =>
    refine fnd_none fun x hx e => ?_
    have h1 : is l k = true := is_iff.2 ⟨x, (List.mem_filter.1 hx).1, e⟩
    unfold is at h1; rw [hf] at h1; cases h1
  | some v =>
    obtain ⟨hv, hk⟩ := fnd_some hf
    have hu : ∀ x ∈ l, x.key = k → x = v := by
      intro x hx e
      obtain ⟨i, hi, rfl⟩ := mem_nt hx
      obtain ⟨j, hj, rfl⟩ := mem_nt hv
      rw [← h.at_key hi e, h.at_key hj hk]
    cases hp : p v with
    | true =>
      cases hf2 : fnd (l.filter p) k with
      | none =>
        have h1 : is (l.filter p) k = true := is_iff.2 ⟨v, List.mem_filter.2 ⟨hv, hp⟩, hk⟩
        unfold is at h1; rw [hf2] at h1; cases h1
      | some u =>
        obtain ⟨h1, h2⟩ := fnd_some hf2
        rw [hu u (List.mem_filter.1 h1).1 h2, Option.filter_some, if_pos hp]
    | false =>
      rw [Option.filter_some, if_neg (by rw [hp]; simp)]
      refine fnd_none fun x hx e => ?_
      obtain ⟨h1, h2⟩ := List.mem_filter.1 hx
      rw [hu x h1 e, hp] at h2; cases h2
/-! ### The document's loop -/
def isIn (l : List Ver) (k : ByteArray) (i : Nat) : Bool := decide (pos l k < i)
def ouK (l : List Ver) (v : Ver) (i : Nat) : List Ver := if pos l v.key < i then frn l v.key ++ v :: ((l.take i).drop (pos l v.key)).filter (fun x => !seq x.key v.key) else l.take i
section
variable {l : List Ver} {v : Ver} {i : Nat}
theorem ouK_0 (l : List Ver) (v : Ver) : ouK l v 0 = [] := by unfold ouK; rw [if_neg (by omega)]; rfl
theorem ouK_lt (h : i < pos l v.key) : sle v.key (nt l i).key = false ∧ seq (nt l i).key v.key = false ∧ ouK l v (i + 1) = ouK l v i ++ [nt l i] := by
  have h1 := pos_lt h
  have hl := pos_le l v.key
  refine ⟨by rw [sle_not, h1]; rfl, seq_ne (fun e => by rw [e, slt_irr] at h1; cases h1), ?_⟩
  unfold ouK
  rw [if_neg (by omega), if_neg (by omega), take_nt (by omega)]
theorem drop_take_nt {j : Nat} (hj : j ≤ i) (hi : i < l.length) : (l.take (i + 1)).drop j = (l.take i).drop j ++ [nt l i] := by
  rw [take_nt hi, List.drop_append_of_le_length (by rw [List.length_take]; omega)]
theorem filt_one (x : Ver) (k : ByteArray) : [x].filter (fun x => !seq x.key k) = if seq x.key k then [] else [x] := by
  cases h : seq x.key k <;> simp [List.filter, h]
theorem ouK_at (h : i = pos l v.key) (hi : i < l.length) : sle v.key (nt l i).key = true ∧ ouK l v (i + 1) = (ouK l v i ++ [v]) ++ if seq (nt l i).key v.key then [] else [nt l i] := by
  have h1 := pos_at (l := l) (k := v.key) (by omega)
  refine ⟨by rw [sle_not, h, h1]; rfl, ?_⟩
  have hd : (l.take i).drop i = [] := by rw [List.drop_eq_nil_iff, List.length_take]; omega
  unfold ouK
  rw [if_pos (by omega), if_neg (by omega), ← h, drop_take_nt (Nat.le_refl _) hi, hd, List.nil_append, filt_one, frn_take, ← h]
  simp
theorem ouK_gt (h : pos l v.key < i) (hi : i < l.length) : ouK l v (i + 1) = ouK l v i ++ if seq (nt l i).key v.key then [] else [nt l i] := by
  unfold ouK
  rw [if_pos (by omega), if_pos h, drop_take_nt (by omega) hi, List.filter_append, filt_one]
  simp
theorem ouK_end : pK l v = if isIn l v.key l.length then ouK l v l.length else ouK l v l.length ++ [v] := by
  have hl := pos_le l v.key
  unfold isIn ouK pK rst
  by_cases h : pos l v.key < l.length
  · rw [if_pos (by simpa using h), if_pos h, List.take_length]
  · rw [if_neg (by simpa using h), if_neg h, List.take_length, frn_take, List.take_of_length_le (by omega), List.drop_of_length_le (by omega)]
    rfl
theorem ouK_len : (ouK l v i).length ≤ i + 1 := by
  have h3 : (frn l v.key).length = pos l v.key := rfl
  unfold ouK
  split
  · rw [List.length_append, List.length_cons]
    have := List.length_filter_le (fun x => !seq x.key v.key) ((l.take i).drop (pos l v.key))
    rw [List.length_drop, List.length_take] at this
    omega
  · rw [List.length_take]; omega
end
/-! ### A session -/
structure Ss where
  snap : Int
  last : Int
  op : Bool
  ws : List Ver
  ca : List Ver
  cnt : Nat
def S0 : Ss := ⟨0, 0, false, [], [], 0⟩
def low (S : Ss) : Int := max S.snap S.last
def beE (S : Ss) : Int := if S.op then 17 else 0
def beT (S : Ss) (t : Int) : Int := if S.op then 0 else max S.snap t
def newer (t : Int) (v : Ver) : Bool := decide (t < v.ts)
def beS (S : Ss) (t : Int) : Ss := if S.op then S else { S with op := true, snap := max S.snap t, ca := S.ca.filter (newer (max S.snap t)) }
def wv (key val : ByteArray) (gone : Bool) : Ver := ⟨key, val, gone, 0, 0, 0⟩
def isLong (key val : ByteArray) : Prop := 16 < key.size ∨ 64 < val.size
instance (key val : ByteArray) : Decidable (isLong key val) := by unfold isLong; infer_instance
def isArg (key val : ByteArray) (gone : Bool) : Bool := seq key emp || (gone && !seq val emp)
def wrE (S : Ss) (key val : ByteArray) (gone : Bool) : Int :=
  if S.op = false then 17 else if isLong key val then 6 else if isArg key val gone then 1 else if is S.ws key = false ∧ 8 ≤ S.ws.length then 9 else 0
def wrS (S : Ss) (key val : ByteArray) (gone : Bool) : Ss := if wrE S key val gone = 0 then { S with ws := pK S.ws (wv key val gone) } else S
def lkV (S : Ss) (key : ByteArray) : Ver := if S.op = false then default else match fnd S.ws key with | some v => v | none => (fnd S.ca key).getD default
def lkN (S : Ss) (key : ByteArray) : Int := if S.op = false then 0 else if is S.ws key then 1 else if is S.ca key then 2 else 0
def clE (S : Ss) : Int := if S.op then 0 else 17
def clS (S : Ss) : Ss := { S with op := false, ws := [] }
def coE (S : Ss) (ts : Int) : Int := if S.op = false then 17 else if ts ≤ low S then 11 else 0
def sign (ts dc tx : Int) (v : Ver) : Ver := { v with ts := ts, dc := dc, tx := tx }
def caJ (S : Ss) (ts dc tx : Int) : Nat → List Ver
  | 0 => S.ca
  | j + 1 => pK (caJ S ts dc tx j) (sign ts dc tx (nt S.ws j))
def coS (S : Ss) (ts dc tx : Int) : Ss := if coE S ts = 0 then ⟨S.snap, ts, false, [], caJ S ts dc tx S.ws.length, S.cnt + S.ws.length⟩ else S
structure Ss.ok (S : Ss) : Prop where
  up : Up S.ws
  uc : Up S.ca
  le : S.ws.length ≤ 8
  cl : S.op = false → S.ws = []
  ks : ∀ v ∈ S.ws, v.key.size ≤ 16
  kc : ∀ v ∈ S.ca, v.key.size ≤ 16
  cn : S.ca.length ≤ S.cnt
  nk : ∀ v ∈ S.ws, v.ts = 0 ∧ v.dc = 0 ∧ v.tx = 0
  u0 : 0 ≤ S.snap
  u1 : 0 ≤ S.last
theorem ok_S0 : S0.ok := ⟨List.Pairwise.nil, List.Pairwise.nil, by simp [S0], fun _ => rfl, fun v h => (by cases h), fun v h => (by cases h), Nat.le_refl _, fun v h => (by cases h), Int.le_refl _, Int.le_refl _⟩
section
variable {S : Ss} {t ts dc tx : Int} {key val : ByteArray} {gone : Bool}
theorem ok_be (h : S.ok) : (beS S t).ok := by
  unfold beS
  split
  · exact h
  · have := h.u0
    exact { h with uc := h.uc.sublist List.filter_sublist, cl := fun h => (by cases h), kc := fun v hv => h.kc v ((List.mem_filter.1 hv).1), cn := Nat.le_trans (List.length_filter_le _ _) h.cn, u0 := by simp only; omega }
theorem wr_zero (h : wrE S key val gone = 0) : S.op = true ∧ key.size ≤ 16 ∧ ¬ (is S.ws key = false ∧ 8 ≤ S.ws.length) := by
  unfold wrE at h
  split at h
  · omega
  · rename_i h1
    split at h
    · omega
    · rename_i h2
      split at h
      · omega
      · split at h
        · omega
        · rename_i h4
          unfold isLong at h2
          exact ⟨by simpa using h1, by omega, h4⟩
theorem ok_wr (h : S.ok) : (wrS S key val gone).ok := by
  unfold wrS
  split
  · rename_i hz
    obtain ⟨h1, h2, h3⟩ := wr_zero hz
    refine { h with up := h.up.pK _, le := ?_, cl := fun h9 => ?_, ks := fun v hv => ?_, nk := fun v hv => ?_ }
    · show (pK S.ws (wv key val gone)).length ≤ 8
      rw [h.up.pK_lens]
      have := h.le
      show (if is S.ws key = true then _ else _) ≤ 8
      cases hi : is S.ws key
      · have : ¬ 8 ≤ S.ws.length := fun h9 => h3 ⟨hi, h9⟩
        simp; omega
      · simp; omega
    · simp only at h9; rw [h1] at h9; cases h9
    · rcases mem_pK hv with rfl | hv
      · exact h2
      · exact h.ks v hv
    · rcases mem_pK hv with rfl | hv
      · exact ⟨rfl, rfl, rfl⟩
      · exact h.nk v hv
  · exact h
theorem ok_cl (h : S.ok) : (clS S).ok := { h with up := List.Pairwise.nil, le := by simp [clS], cl := fun _ => rfl, ks := fun v h => (by cases h), nk := fun v h => (by cases h) }
theorem caJ_len : ∀ j, (caJ S ts dc tx j).length ≤ S.ca.length + j
  | 0 => Nat.le_refl _
  | j + 1 => by
    have h1 := caJ_len j
    have h2 := pK_len (caJ S ts dc tx j) (sign ts dc tx (nt S.ws j))
    unfold caJ; omega
theorem caJ_key (h : S.ok) : ∀ j, j ≤ S.ws.length → ∀ v ∈ caJ S ts dc tx j, v.key.size ≤ 16
  | 0, _ => h.kc
  | j + 1, hj => fun v hv => by
    unfold caJ at hv
    rcases mem_pK hv with rfl | hv
    · exact h.ks (nt S.ws j) (nt_mem (Nat.lt_of_succ_le hj))
    · exact caJ_key h j (by omega) v hv
theorem caJ_up (h : S.ok) : ∀ j, Up (caJ S ts dc tx j)
  | 0 => h.uc
  | j + 1 => (caJ_up h j).pK _
theorem ok_co (h : S.ok) : (coS S ts dc tx).ok := by
  unfold coS
  split
  · rename_i hz
    have hts : 0 ≤ ts := by
      unfold coE low at hz
      have := h.u0
      split at hz
      · omega
      · split at hz <;> omega
    exact ⟨List.Pairwise.nil, caJ_up h _, by simp, fun _ => rfl, fun v h => (by cases h), caJ_key h _ (Nat.le_refl _), by have := caJ_len (S := S) (ts := ts) (dc := dc) (tx := tx) S.ws.length; have := h.cn; simp only; omega, fun v h => (by cases h), h.u0, hts⟩
  · exact h
theorem cnt_be : (beS S t).cnt = S.cnt := by unfold beS; split <;> rfl
theorem cnt_wr : (wrS S key val gone).cnt = S.cnt := by unfold wrS; split <;> rfl
theorem cnt_co (h : S.ok) : (coS S ts dc tx).cnt ≤ S.cnt + 8 := by
  unfold coS
  split
  · have := h.le; simp only; omega
  · omega
end
end Go.Proofs.Ytnicomhodnfggaa.seM
