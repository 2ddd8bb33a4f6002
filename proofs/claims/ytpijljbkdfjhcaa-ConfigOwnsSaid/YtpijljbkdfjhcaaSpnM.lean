/- Shard maps, plainly: the order of keys, what is wrong with a map, where a key is, how maps are cut, made one and moved; that right maps part the keys, and what a cut and a move leave. -/
import GoSem.Op.String
import Derived.Laws.Strings
namespace Go.Proofs.Ytpijljbkdfjhcaa.spnM
open Go

/-! ### The order of keys -/
abbrev emp : ByteArray := { data := #[] }
theorem u8_irr (a : UInt8) : ¬ a < a := by rw [UInt8.lt_iff_toNat_lt]; omega
theorem bl_irr : ∀ x : List UInt8, Op.bytesLess x x = false
  | [] => rfl
  | a :: x => by simp [Op.bytesLess, bl_irr x, u8_irr a]
theorem bl_trans : ∀ x y z : List UInt8, Op.bytesLess x y = true → Op.bytesLess y z = true → Op.bytesLess x z = true
  | x, [], z, h, _ => by cases x <;> simp [Op.bytesLess] at h
  | x, b :: y, [], _, h => by simp [Op.bytesLess] at h
  | [], b :: y, c :: z, _, _ => rfl
  | a :: x, b :: y, c :: z, h1, h2 => by
    simp only [Op.bytesLess, Bool.or_eq_true, decide_eq_true_eq, Bool.and_eq_true, beq_iff_eq, UInt8.lt_iff_toNat_lt] at h1 h2 ⊢
    rcases h1 with h1 | ⟨rfl, h1⟩
    · rcases h2 with h2 | ⟨rfl, h2⟩
      · exact .inl (by omega)
      · exact .inl h1
    · rcases h2 with h2 | ⟨rfl, h2⟩
      · exact .inl h2
      · exact .inr ⟨rfl, bl_trans x y z h1 h2⟩
theorem bl_tri : ∀ x y : List UInt8, Op.bytesLess x y = false → Op.bytesLess y x = false → x = y
  | [], [], _, _ => rfl
  | [], b :: y, h, _ => by simp [Op.bytesLess] at h
  | a :: x, [], _, h => by simp [Op.bytesLess] at h
  | a :: x, b :: y, h1, h2 => by
    simp only [Op.bytesLess, Bool.or_eq_false_iff, decide_eq_false_iff_not, Bool.and_eq_false_iff, beq_eq_false_iff_ne, UInt8.lt_iff_toNat_lt] at h1 h2
    have e : a = b := UInt8.toNat_inj.1 (by omega)
    subst e
    rw [bl_tri x y (by rcases h1.2 with h | h; exact absurd rfl h; exact h) (by rcases h2.2 with h | h; exact absurd rfl h; exact h)]
def slt (a b : ByteArray) : Bool := Op.bytesLess a.toList b.toList
def seq (a b : ByteArray) : Bool := a.toList == b.toList
def sle (a b : ByteArray) : Bool := slt a b || seq a b
theorem toList_inj {a b : ByteArray} (h : a.toList = b.toList) : a = b := by
  rw [ByteArray.toList_eq, ByteArray.toList_eq] at h
  cases a; cases b
  exact congrArg ByteArray.mk (Array.toList_inj.1 h)
theorem seq_iff (a b : ByteArray) : seq a b = true ↔ a = b := by
  unfold seq
  rw [beq_iff_eq]
  exact ⟨toList_inj, fun h => by rw [h]⟩
theorem seq_self (a : ByteArray) : seq a a = true := (seq_iff a a).2 rfl
theorem seq_ne {a b : ByteArray} (h : a ≠ b) : seq a b = false := by
  cases e : seq a b
  · rfl
  · exact absurd ((seq_iff a b).1 e) h
theorem slt_irr (a : ByteArray) : slt a a = false := bl_irr _
theorem slt_trans {a b c : ByteArray} (h1 : slt a b = true) (h2 : slt b c = true) : slt a c = true := bl_trans _ _ _ h1 h2
theorem slt_tri {a b : ByteArray} (h1 : slt a b = false) (h2 : slt b a = false) : a = b := toList_inj (bl_tri _ _ h1 h2)
theorem sle_not (a b : ByteArray) : sle a b = !slt b a := by
  unfold sle
  cases h1 : slt a b
  · cases h2 : slt b a
    · rw [slt_tri h1 h2, seq_self]; rfl
    · cases h3 : seq a b
      · rfl
      · rw [(seq_iff a b).1 h3, slt_irr] at h2; cases h2
  · cases h2 : slt b a
    · rfl
    · have := slt_trans h1 h2
      rw [slt_irr] at this; cases this
theorem sle_self (a : ByteArray) : sle a a = true := by rw [sle_not, slt_irr]; rfl
theorem sle_of_lt {a b : ByteArray} (h : slt a b = true) : sle a b = true := by unfold sle; rw [h]; rfl
theorem lt_of_lt_le {a b c : ByteArray} (h1 : slt a b = true) (h2 : sle b c = true) : slt a c = true := by
  unfold sle at h2
  rw [Bool.or_eq_true] at h2
  rcases h2 with h2 | h2
  · exact slt_trans h1 h2
  · rw [← (seq_iff b c).1 h2]; exact h1
theorem not_slt_le {a b : ByteArray} : slt a b = false ↔ sle b a = true := by rw [sle_not]; cases slt a b <;> simp
theorem emp_le (a : ByteArray) : slt a emp = false := by
  unfold slt
  rw [ByteArray.toList_eq emp]
  show Op.bytesLess _ [] = false
  cases a.toList <;> rfl
theorem emp_lt {a : ByteArray} (h : a ≠ emp) : slt emp a = true := by
  cases e : slt emp a
  · exact absurd (slt_tri (emp_le a) e) h
  · rfl

/-! ### Maps -/
structure M where
  cs : List ByteArray
  ns : List Int
instance : Inhabited M := ⟨⟨[], []⟩⟩
def isN (n k : Int) : Bool := decide (0 ≤ n) && decide (n < k)
theorem isN_iff (n k : Int) : isN n k = true ↔ 0 ≤ n ∧ n < k := by unfold isN; simp
/-- what is wrong with cuts -/
def ckc (ahead : ByteArray) : List ByteArray → Nat
  | [] => 0
  | c :: r => if 16 < c.size then 6 else if sle c ahead then 3 else ckc c r
def has (m : M) : Bool := decide (m.ns.length = m.cs.length + 1)
def chk (m : M) (k : Int) : Nat :=
  if k < 1 ∨ 4 < k then 1 else if 8 < m.ns.length then 9 else if ¬ m.ns.length = m.cs.length + 1 then 3 else
  if ¬ ckc emp m.cs = 0 then ckc emp m.cs else if m.ns.all (isN · k) then 0 else 7
def fnd (cs : List ByteArray) (key : ByteArray) : Nat := cs.countP fun c => sle c key
def own (m : M) (key : ByteArray) : Int := if fnd m.cs key < m.ns.length then m.ns.getD (fnd m.cs key) 0 else -1
def wth (key lo hi : ByteArray) : Bool := !slt key lo && (seq hi emp || slt key hi)
def lo (m : M) (i : Nat) : ByteArray := if 0 < i then m.cs.getD (i - 1) default else emp
def hi (m : M) (i : Nat) : ByteArray := if i < m.cs.length then m.cs.getD i default else emp
def node (m : M) (i : Nat) : Int := m.ns.getD i 0
/-- is there a shard i? -/
def there (m : M) (i : Int) : Bool := has m && isN i m.ns.length
def pnt (key l h : ByteArray) : Bool := decide (key.size ≤ 16) && (!seq key l && wth key l h)
def insA {α : Type} (l : List α) (i : Nat) (x : α) : List α := l.take i ++ x :: l.drop i
def delA {α : Type} (l : List α) (i : Nat) : List α := l.take i ++ l.drop (i + 1)
def setA {α : Type} (l : List α) (i : Nat) (x : α) : List α := l.set i x
def non : M := ⟨[], []⟩
def splE (m : M) (k i : Int) (key : ByteArray) : Nat :=
  if ¬ chk m k = 0 then chk m k else if there m i = false then 7 else if pnt key (lo m i.toNat) (hi m i.toNat) = false then 14 else if 8 ≤ m.ns.length then 9 else 0
def splM (m : M) (k i : Int) (key : ByteArray) : M := if splE m k i key = 0 then ⟨insA m.cs i.toNat key, insA m.ns i.toNat (node m i.toNat)⟩ else non
def mrgE (m : M) (k i : Int) : Nat :=
  if ¬ chk m k = 0 then chk m k else if isN i m.cs.length = false then 7 else if ¬ node m i.toNat = node m (i.toNat + 1) then 18 else 0
def mrgM (m : M) (k i : Int) : M := if mrgE m k i = 0 then ⟨delA m.cs i.toNat, delA m.ns i.toNat⟩ else non
def movE (m : M) (k i n : Int) : Nat :=
  if ¬ chk m k = 0 then chk m k else if there m i = false then 7 else if isN n k = false then 1 else if node m i.toNat = n then 8 else 0
def movM (m : M) (k i n : Int) : M := if movE m k i n = 0 then ⟨m.cs, setA m.ns i.toNat n⟩ else non

/-! ### Right maps -/
theorem pair_tail {a b : ByteArray} {l : List ByteArray} (h : slt a b = true) (p : (b :: l).Pairwise (fun x y => slt x y = true)) : (a :: b :: l).Pairwise (fun x y => slt x y = true) := by
  refine List.pairwise_cons.2 ⟨fun x hx => ?_, p⟩
  rcases List.mem_cons.1 hx with rfl | hx
  · exact h
  · exact slt_trans h ((List.pairwise_cons.1 p).1 x hx)
theorem ckc_iff : ∀ (l : List ByteArray) (a : ByteArray), ckc a l = 0 ↔ (∀ c ∈ l, c.size ≤ 16) ∧ (a :: l).Pairwise (fun x y => slt x y = true)
  | [], a => by simp [ckc]
  | c :: r, a => by
    unfold ckc
    by_cases h1 : 16 < c.size
    · rw [if_pos h1]
      exact ⟨fun h => by omega, fun h => by have := h.1 c (by simp); omega⟩
    · rw [if_neg h1]
      by_cases h2 : sle c a = true
      · rw [if_pos h2]
        refine ⟨fun h => by omega, fun h => ?_⟩
        have := (List.pairwise_cons.1 h.2).1 c (by simp)
        rw [sle_not, this] at h2; cases h2
      · rw [if_neg h2, ckc_iff r c]
        have h3 : slt a c = true := by rw [sle_not] at h2; simpa using h2
        refine ⟨fun h => ⟨?_, pair_tail h3 h.2⟩, fun h => ⟨fun x hx => h.1 x (by simp [hx]), (List.pairwise_cons.1 h.2).2⟩⟩
        intro x hx
        rcases List.mem_cons.1 hx with rfl | hx
        · omega
        · exact h.1 x hx
structure Ok (m : M) (k : Int) : Prop where
  k1 : 1 ≤ k
  k4 : k ≤ 4
  n8 : m.ns.length ≤ 8
  nc : m.ns.length = m.cs.length + 1
  sz : ∀ c ∈ m.cs, c.size ≤ 16
  pw : (emp :: m.cs).Pairwise (fun x y => slt x y = true)
  al : ∀ n ∈ m.ns, 0 ≤ n ∧ n < k
theorem chk_iff (m : M) (k : Int) : chk m k = 0 ↔ Ok m k := by
  unfold chk
  constructor
  · intro h
    split at h
    · omega
    · split at h
      · omega
      · split at h
        · omega
        · split at h
          · omega
          · split at h
            · rename_i h1 h2 h3 h4 h5
              have h4' : ckc emp m.cs = 0 := by omega
              rw [ckc_iff] at h4'
              exact ⟨by omega, by omega, by omega, by omega, h4'.1, h4'.2, fun n hn => (isN_iff n k).1 (List.all_eq_true.1 h5 n hn)⟩
            · omega
  · intro h
    rw [if_neg (by have := h.k1; have := h.k4; omega), if_neg (by have := h.n8; omega), if_neg (by have := h.nc; omega), if_neg (by rw [(ckc_iff _ _).2 ⟨h.sz, h.pw⟩]; omega), if_pos (List.all_eq_true.2 fun n hn => (isN_iff n k).2 (h.al n hn))]
theorem getD_mem {α : Type} [Inhabited α] {l : List α} {i : Nat} (h : i < l.length) (d : α) : l.getD i d ∈ l := by
  rw [List.getD_eq_getElem?_getD, List.getElem?_eq_getElem h]; exact List.getElem_mem h
theorem getD_at {α : Type} {l : List α} {i : Nat} (h : i < l.length) (d : α) : l.getD i d = l[i] := by
  rw [List.getD_eq_getElem?_getD, List.getElem?_eq_getElem h]; rfl
section
variable {m : M} {k : Int}
theorem Ok.asc (h : Ok m k) {i j : Nat} (hij : i < j) (hj : j < m.cs.length) : slt (m.cs.getD i default) (m.cs.getD j default) = true := by
  have := List.pairwise_iff_getElem.1 (List.pairwise_cons.1 h.pw).2 i j (by omega) hj hij
  rwa [getD_at (by omega), getD_at hj]
theorem Ok.pos (h : Ok m k) {i : Nat} (hi : i < m.cs.length) : slt emp (m.cs.getD i default) = true := (List.pairwise_cons.1 h.pw).1 _ (getD_mem hi _)
/-- The cuts that are not above a key are the first ones. -/
theorem cnt_first (l : List ByteArray) (key : ByteArray) (h : ∀ i j, i < j → j < l.length → slt (l.getD i default) (l.getD j default) = true) :
    ∀ i, i < l.length → (sle (l.getD i default) key = true ↔ i < fnd l key) := by
  induction l with
  | nil => intro i hi; simp at hi
  | cons c r ih =>
    have hr : ∀ i j, i < j → j < r.length → slt (r.getD i default) (r.getD j default) = true := fun i j hij hj => by
      have := h (i + 1) (j + 1) (by omega) (by simp; omega)
      simpa using this
    have ih' := ih hr
    intro i hi
    unfold fnd at ih' ⊢
    rw [List.countP_cons]
    cases i with
    | zero =>
      simp only [List.getD_cons_zero]
      by_cases hc : sle c key = true
      · simp [hc]
      · simp only [hc, if_false, Bool.false_eq_true, Nat.add_zero, false_iff, Nat.not_lt, Nat.le_zero]
        refine List.countP_eq_zero.2 fun x hx hxk => hc ?_
        obtain ⟨j, hj, rfl⟩ := List.mem_iff_getElem.1 hx
        have h1 := h 0 (j + 1) (by omega) (by simp; omega)
        simp only [List.getD_cons_zero, List.getD_cons_succ] at h1
        rw [getD_at hj] at h1
        exact sle_of_lt (lt_of_lt_le h1 hxk)
    | succ i =>
      simp only [List.getD_cons_succ]
      have hi' : i < r.length := by simpa using hi
      rw [ih' i hi']
      by_cases hc : sle c key = true
      · simp [hc]
      · have h0 : List.countP (fun c => sle c key) r = 0 := by
          refine List.countP_eq_zero.2 fun x hx hxk => hc ?_
          obtain ⟨j, hj, rfl⟩ := List.mem_iff_getElem.1 hx
          have h1 := h 0 (j + 1) (by omega) (by simp; omega)
          simp only [List.getD_cons_zero, List.getD_cons_succ] at h1
          rw [getD_at hj] at h1
          exact sle_of_lt (lt_of_lt_le h1 hxk)
        simp [hc, h0]
theorem fnd_le (l : List ByteArray) (key : ByteArray) : fnd l key ≤ l.length := List.countP_le_length
theorem Ok.first (h : Ok m k) (key : ByteArray) {i : Nat} (hi : i < m.cs.length) : sle (m.cs.getD i default) key = true ↔ i < fnd m.cs key := cnt_first m.cs key (fun _ _ a b => h.asc a b) i hi
/-- A right map parts the keys. -/
theorem Ok.parts (h : Ok m k) (key : ByteArray) {i : Nat} (hi : i < m.ns.length) : wth key (spnM.lo m i) (spnM.hi m i) = decide (i = fnd m.cs key) := by
  have hnc := h.nc
  have hf := fnd_le m.cs key
  have h1 : (!slt key (spnM.lo m i)) = decide (i ≤ fnd m.cs key) := by
    unfold spnM.lo
    by_cases h0 : 0 < i
    · rw [if_pos h0, ← sle_not, Bool.eq_iff_iff, h.first key (by omega), decide_eq_true_eq]; omega
    · rw [if_neg h0, emp_le]; simp; omega
  have h2 : (seq (spnM.hi m i) emp || slt key (spnM.hi m i)) = decide (fnd m.cs key ≤ i) := by
    unfold spnM.hi
    by_cases h0 : i < m.cs.length
    · rw [if_pos h0, seq_ne (fun e => by have := h.pos h0; rw [e, slt_irr] at this; cases this), Bool.false_or]
      have := h.first key h0
      rw [sle_not] at this
      rw [Bool.eq_iff_iff, decide_eq_true_eq]
      cases hs : slt key (m.cs.getD i default)
      · rw [hs] at this; simp at this; simp; omega
      · rw [hs] at this; simp at this; simp; omega
    · rw [if_neg h0, seq_self]; simp; omega
  unfold wth
  rw [h1, h2, Bool.eq_iff_iff]
  simp; omega
theorem Ok.find_lt (h : Ok m k) (key : ByteArray) : fnd m.cs key < m.ns.length := by have := fnd_le m.cs key; have := h.nc; omega
theorem Ok.owner (h : Ok m k) (key : ByteArray) : own m key = node m (fnd m.cs key) := by unfold own; rw [if_pos (h.find_lt key)]; rfl
theorem Ok.owner_in (h : Ok m k) (key : ByteArray) : 0 ≤ own m key ∧ own m key < k := by rw [h.owner]; exact h.al _ (getD_mem (h.find_lt key) _)
theorem has_iff (m : M) : has m = true ↔ m.ns.length = m.cs.length + 1 := by unfold has; simp
theorem there_iff (m : M) (i : Int) : there m i = true ↔ m.ns.length = m.cs.length + 1 ∧ 0 ≤ i ∧ i < m.ns.length := by
  unfold there; rw [Bool.and_eq_true, has_iff, isN_iff]

/-! ### Cuts, unions, moves -/
theorem insA_len {α : Type} (l : List α) (i : Nat) (x : α) (h : i ≤ l.length) : (insA l i x).length = l.length + 1 := by unfold insA; simp; omega
theorem delA_len {α : Type} (l : List α) (i : Nat) (h : i < l.length) : (delA l i).length = l.length - 1 := by unfold delA; simp; omega
theorem del_ins {α : Type} (l : List α) (i : Nat) (x : α) (h : i ≤ l.length) : delA (insA l i x) i = l := by
  unfold insA delA
  have e : (l.take i).length = i := by simp; omega
  rw [List.take_left' e, show l.take i ++ x :: l.drop i = (l.take i ++ [x]) ++ l.drop i by simp, List.drop_left' (by rw [List.length_append, e]; rfl), List.take_append_drop]
theorem insA_get {α : Type} (l : List α) (i : Nat) (x : α) (h : i ≤ l.length) (j : Nat) (d : α) : (insA l i x).getD j d = if j < i then l.getD j d else if j = i then x else l.getD (j - 1) d := by
  unfold insA
  rw [List.getD_eq_getElem?_getD, List.getElem?_append]
  have hl : (l.take i).length = i := by simp; omega
  rw [hl]
  by_cases h1 : j < i
  · rw [if_pos h1, if_pos h1, List.getElem?_take_of_lt h1, List.getD_eq_getElem?_getD]
  · rw [if_neg h1, if_neg h1]
    by_cases h2 : j = i
    · subst h2; simp
    · rw [if_neg h2, show j - i = (j - i - 1) + 1 by omega, List.getElem?_cons_succ, List.getElem?_drop, List.getD_eq_getElem?_getD, show i + (j - i - 1) = j - 1 by omega]
theorem setA_get {α : Type} (l : List α) (i : Nat) (x : α) (j : Nat) (d : α) (h : i < l.length) : (setA l i x).getD j d = if j = i then x else l.getD j d := by
  unfold setA
  rw [List.getD_eq_getElem?_getD, List.getElem?_set]
  by_cases h1 : j = i
  · subst h1; simp [h]
  · rw [if_neg (by omega), if_neg h1, List.getD_eq_getElem?_getD]
theorem splE_zero {i : Int} {key : ByteArray} (h : splE m k i key = 0) : Ok m k ∧ 0 ≤ i ∧ i.toNat < m.ns.length ∧ key.size ≤ 16 ∧ key ≠ spnM.lo m i.toNat ∧ wth key (spnM.lo m i.toNat) (spnM.hi m i.toNat) = true ∧ m.ns.length < 8 := by
  unfold splE at h
  split at h
  · omega
  · split at h
    · omega
    · split at h
      · omega
      · split at h
        · omega
        · rename_i h1 h2 h3 h4
          have h2' := (there_iff m i).1 (by simpa using h2)
          unfold pnt at h3
          simp at h3
          refine ⟨(chk_iff m k).1 (by omega), h2'.2.1, by omega, h3.1, fun e => ?_, h3.2.2, by omega⟩
          rw [e, seq_self] at h3; simp at h3
theorem Ok.split {i : Int} {key : ByteArray} (h : splE m k i key = 0) : Ok (splM m k i key) k := by
  obtain ⟨hk, h0, h1, h2, h3, h4, h5⟩ := splE_zero h
  have hnc := hk.nc
  have h6 : fnd m.cs key = i.toNat := by have := hk.parts key h1; rw [h4] at this; simp at this; omega
  unfold splM
  rw [if_pos h]
  have hil : i.toNat ≤ m.cs.length := by omega
  have hlo : slt (spnM.lo m i.toNat) key = true := by
    unfold wth at h4
    simp at h4
    cases e : slt (spnM.lo m i.toNat) key
    · exact absurd (slt_tri h4.1 e) h3
    · rfl
  refine ⟨hk.k1, hk.k4, ?_, ?_, ?_, ?_, ?_⟩
  · show (insA m.ns i.toNat _).length ≤ 8; rw [insA_len _ _ _ (by omega)]; omega
  · show (insA m.ns i.toNat _).length = (insA m.cs i.toNat _).length + 1; rw [insA_len _ _ _ (by omega), insA_len _ _ _ hil]; omega
  · intro c hc
    have hc : c ∈ insA m.cs i.toNat key := hc
    unfold insA at hc
    rcases List.mem_append.1 hc with hc | hc
    · exact hk.sz c (List.mem_of_mem_take hc)
    · rcases List.mem_cons.1 hc with rfl | hc
      · exact h2
      · exact hk.sz c (List.mem_of_mem_drop hc)
  · have hp := hk.pw
    show (emp :: insA m.cs i.toNat key).Pairwise _
    unfold insA
    have hkey : ∀ x ∈ m.cs.drop i.toNat, slt key x = true := fun x hx => by
      obtain ⟨j, hj, rfl⟩ := List.mem_iff_getElem.1 hx
      rw [List.getElem_drop]
      have hj' : i.toNat + j < m.cs.length := by simp at hj; omega
      have := hk.first key (i := i.toNat + j) hj'
      rw [h6, sle_not, getD_at hj'] at this
      cases e : slt key m.cs[i.toNat + j]
      · rw [e] at this
        exact absurd (this.1 rfl) (by omega)
      · rfl
    have hbe : ∀ x ∈ emp :: m.cs.take i.toNat, slt x key = true := fun x hx => by
      by_cases hi0 : 0 < i.toNat
      · have e : spnM.lo m i.toNat = m.cs.getD (i.toNat - 1) default := by unfold spnM.lo; rw [if_pos hi0]
        rw [e] at hlo
        rcases List.mem_cons.1 hx with rfl | hx
        · exact slt_trans (hk.pos (by omega)) hlo
        · obtain ⟨j, hj, rfl⟩ := List.mem_iff_getElem.1 hx
          simp at hj
          rw [List.getElem_take]
          by_cases hjl : j = i.toNat - 1
          · subst hjl; rwa [getD_at (by omega)] at hlo
          · have := hk.asc (i := j) (j := i.toNat - 1) (by omega) (by omega)
            rw [getD_at (by omega)] at this
            exact slt_trans this hlo
      · have e : spnM.lo m i.toNat = emp := by unfold spnM.lo; rw [if_neg hi0]
        rw [e] at hlo
        rw [show i.toNat = 0 by omega] at hx
        simp at hx
        subst hx; exact hlo
    rw [← List.cons_append, List.pairwise_append]
    have hpt : (emp :: m.cs.take i.toNat).Pairwise (fun x y => slt x y = true) := List.Pairwise.sublist (List.Sublist.cons_cons _ (List.take_sublist _ _)) hp
    refine ⟨hpt, List.pairwise_cons.2 ⟨hkey, List.Pairwise.sublist (List.drop_sublist _ _) (List.pairwise_cons.1 hp).2⟩, fun x hx y hy => ?_⟩
    rcases List.mem_cons.1 hy with rfl | hy
    · exact hbe x hx
    · exact slt_trans (hbe x hx) (hkey y hy)
  · intro n hn
    have hn : n ∈ insA m.ns i.toNat (node m i.toNat) := hn
    unfold insA at hn
    rcases List.mem_append.1 hn with hn | hn
    · exact hk.al n (List.mem_of_mem_take hn)
    · rcases List.mem_cons.1 hn with rfl | hn
      · exact hk.al _ (getD_mem h1 _)
      · exact hk.al n (List.mem_of_mem_drop hn)
theorem mrgE_zero {i : Int} (h : mrgE m k i = 0) : Ok m k ∧ 0 ≤ i ∧ i.toNat < m.cs.length ∧ node m i.toNat = node m (i.toNat + 1) := by
  unfold mrgE at h
  split at h
  · omega
  · split at h
    · omega
    · split at h
      · omega
      · rename_i h1 h2 h3
        have h2' := (isN_iff i _).1 (by simpa using h2)
        exact ⟨(chk_iff m k).1 (by omega), h2'.1, by omega, by simpa using h3⟩
theorem Ok.merge {i : Int} (h : mrgE m k i = 0) : Ok (mrgM m k i) k := by
  obtain ⟨hk, h0, h1, h2⟩ := mrgE_zero h
  have hnc := hk.nc
  unfold mrgM
  rw [if_pos h]
  have hsub : ∀ {α : Type} (l : List α), (delA l i.toNat).Sublist l := fun l => by
    unfold delA
    conv => rhs; rw [← List.take_append_drop i.toNat l]
    refine List.Sublist.append (List.Sublist.refl _) ?_
    rw [show i.toNat + 1 = i.toNat + 1 from rfl, ← List.drop_drop]
    exact List.drop_sublist _ _
  refine ⟨hk.k1, hk.k4, ?_, ?_, fun c hc => hk.sz c ((hsub m.cs).subset hc), List.Pairwise.sublist (List.Sublist.cons_cons _ (hsub m.cs)) hk.pw, fun n hn => hk.al n ((hsub m.ns).subset hn)⟩
  · show (delA m.ns i.toNat).length ≤ 8; rw [delA_len _ _ (by omega)]; have := hk.n8; omega
  · show (delA m.ns i.toNat).length = (delA m.cs i.toNat).length + 1; rw [delA_len _ _ (by omega), delA_len _ _ h1]; omega
theorem movE_zero {i n : Int} (h : movE m k i n = 0) : Ok m k ∧ 0 ≤ i ∧ i.toNat < m.ns.length ∧ 0 ≤ n ∧ n < k := by
  unfold movE at h
  split at h
  · omega
  · split at h
    · omega
    · split at h
      · omega
      · split at h
        · omega
        · rename_i h1 h2 h3 h4
          have h2' := (there_iff m i).1 (by simpa using h2)
          have h3' := (isN_iff n k).1 (by simpa using h3)
          exact ⟨(chk_iff m k).1 (by omega), h2'.2.1, by omega, h3'.1, h3'.2⟩
theorem Ok.move {i n : Int} (h : movE m k i n = 0) : Ok (movM m k i n) k := by
  obtain ⟨hk, h0, h1, h2, h3⟩ := movE_zero h
  unfold movM
  rw [if_pos h]
  refine ⟨hk.k1, hk.k4, ?_, ?_, hk.sz, hk.pw, fun x hx => ?_⟩
  · show (setA m.ns i.toNat n).length ≤ 8; unfold setA; rw [List.length_set]; exact hk.n8
  · show (setA m.ns i.toNat n).length = _; unfold setA; rw [List.length_set]; exact hk.nc
  · have hx : x ∈ setA m.ns i.toNat n := hx
    unfold setA at hx
    rcases List.mem_or_eq_of_mem_set hx with hx | rfl
    · exact hk.al x hx
    · exact ⟨h2, h3⟩
/-- A move changes the node of the shard's keys alone. -/
theorem move_owner {i n : Int} (h : movE m k i n = 0) (key : ByteArray) : own (movM m k i n) key = if (fnd m.cs key : Int) = i then n else own m key := by
  obtain ⟨hk, h0, h1, h2, h3⟩ := movE_zero h
  have hm := Ok.move h
  rw [hm.owner, hk.owner]
  unfold movM
  rw [if_pos h]
  unfold node
  show (setA m.ns i.toNat n).getD (fnd m.cs key) 0 = _
  rw [setA_get _ _ _ _ _ h1]
  by_cases e : fnd m.cs key = i.toNat
  · rw [if_pos e, if_pos (by omega)]
  · rw [if_neg e, if_neg (by omega)]
theorem fnd_ins (l : List ByteArray) (i : Nat) (x key : ByteArray) : fnd (insA l i x) key = fnd l key + if sle x key = true then 1 else 0 := by
  unfold fnd insA
  conv => rhs; rw [← List.take_append_drop i l]
  rw [List.countP_append, List.countP_append, List.countP_cons]
  omega
theorem split_find {i : Int} {at_ : ByteArray} (h : splE m k i at_ = 0) : fnd (splM m k i at_).cs at_ = i.toNat + 1 := by
  obtain ⟨hk, h0, h1, h2, h3, h4, h5⟩ := splE_zero h
  have h6 : fnd m.cs at_ = i.toNat := by have := hk.parts at_ h1; rw [h4] at this; simp at this; omega
  unfold splM
  rw [if_pos h]
  show fnd (insA m.cs i.toNat at_) at_ = _
  rw [fnd_ins, h6, if_pos (sle_self _)]
/-- A cut leaves each key at its node. -/
theorem split_owner {i : Int} {at_ : ByteArray} (h : splE m k i at_ = 0) (key : ByteArray) : own (splM m k i at_) key = own m key := by
  obtain ⟨hk, h0, h1, h2, h3, h4, h5⟩ := splE_zero h
  have h6 : fnd m.cs at_ = i.toNat := by have := hk.parts at_ h1; rw [h4] at this; simp at this; omega
  have hnc := hk.nc
  have hs := Ok.split h
  rw [hs.owner, hk.owner]
  unfold splM
  rw [if_pos h]
  unfold node
  show (insA m.ns i.toNat (m.ns.getD i.toNat 0)).getD (fnd (insA m.cs i.toNat at_) key) 0 = _
  have hf := fnd_le m.cs key
  rw [fnd_ins, insA_get _ _ _ (by omega)]
  rcases Nat.lt_trichotomy (fnd m.cs key) i.toNat with hlt | heq | hgt
  · have h7 : sle at_ key = false := by
      have e := hk.first at_ (i := fnd m.cs key) (by omega)
      have e2 := hk.first key (i := fnd m.cs key) (by omega)
      rw [h6] at e
      cases hx : sle at_ key
      · rfl
      · have e3 := e.2 hlt
        have e4 : sle (m.cs.getD (fnd m.cs key) default) key = true := by
          unfold sle at e3
          rw [Bool.or_eq_true] at e3
          rcases e3 with e3 | e3
          · exact sle_of_lt (lt_of_lt_le e3 hx)
          · rw [(seq_iff _ _).1 e3]; exact hx
        have := e2.1 e4
        omega
    rw [h7]
    simp only [Bool.false_eq_true, if_false, Nat.add_zero]
    rw [if_pos hlt]
  · by_cases hx : sle at_ key = true
    · rw [if_pos hx, if_neg (by omega), if_neg (by omega), heq]; simp
    · rw [if_neg hx, Nat.add_zero, if_neg (by omega), if_pos heq, heq]
  · have h7 : sle at_ key = true := by
      have e := hk.first at_ (i := i.toNat) (by omega)
      have e2 := (hk.first key (i := i.toNat) (by omega)).2 hgt
      rw [h6] at e
      have e3 : slt at_ (m.cs.getD i.toNat default) = true := by
        cases hz : slt at_ (m.cs.getD i.toNat default)
        · rw [not_slt_le] at hz; exact absurd (e.1 hz) (by omega)
        · rfl
      exact sle_of_lt (lt_of_lt_le e3 e2)
    rw [if_pos h7, if_neg (by omega), if_neg (by omega), Nat.add_sub_cancel]
/-- What a cut parted a union makes one again. -/
theorem merge_split {i : Int} {at_ : ByteArray} (h : splE m k i at_ = 0) : mrgE (splM m k i at_) k i = 0 ∧ mrgM (splM m k i at_) k i = m := by
  obtain ⟨hk, h0, h1, h2, h3, h4, h5⟩ := splE_zero h
  have hnc := hk.nc
  have hs := Ok.split h
  have he : splM m k i at_ = ⟨insA m.cs i.toNat at_, insA m.ns i.toNat (node m i.toNat)⟩ := by unfold splM; rw [if_pos h]
  have hE : mrgE (splM m k i at_) k i = 0 := by
    unfold mrgE
    rw [if_neg (by rw [(chk_iff _ _).2 hs]; omega)]
    rw [he]
    rw [if_neg (by rw [Bool.not_eq_false]; rw [isN_iff]; show 0 ≤ i ∧ i < ((insA m.cs i.toNat at_).length : Int); rw [insA_len _ _ _ (by omega)]; omega)]
    rw [if_neg (Decidable.not_not.2 _)]
    unfold node
    show (insA m.ns i.toNat (m.ns.getD i.toNat 0)).getD i.toNat 0 = (insA m.ns i.toNat (m.ns.getD i.toNat 0)).getD (i.toNat + 1) 0
    rw [insA_get _ _ _ (by omega), insA_get _ _ _ (by omega), if_neg (by omega), if_pos rfl, if_neg (by omega), if_neg (by omega), Nat.add_sub_cancel]
  refine ⟨hE, ?_⟩
  unfold mrgM
  rw [if_pos hE, he]
  show M.mk (delA (insA m.cs i.toNat at_) i.toNat) (delA (insA m.ns i.toNat (node m i.toNat)) i.toNat) = m
  rw [del_ins _ _ _ (by omega), del_ins _ _ _ (by omega)]
theorem ok_whole {k : Int} (h1 : 1 ≤ k) (h4 : k ≤ 4) : Ok ⟨[], [0]⟩ k := ⟨h1, h4, by simp, by simp, by simp, by simp, by simp; omega⟩
end
end Go.Proofs.Ytpijljbkdfjhcaa.spnM
