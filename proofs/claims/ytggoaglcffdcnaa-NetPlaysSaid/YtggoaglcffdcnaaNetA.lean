/- What a net is, plainly; worlds that change at some blocks alone; a net in memory. -/
import Derived.Test.YtggoaglcffdcnaaFraA
import Derived.Maps.AppendAt
import Derived.Deep.OwnRows
import Derived.Deep.QuietTactic
import Derived.BigQuiet
import Derived.Laws.CopyOwn
import Derived.StillTailTactics
import Derived.Deep.AppendLies
import Derived.Deep.RegionLaw
import Derived.Deep.Upon
import Derived.Lib.SliceRun
import Derived.IntWalk
namespace Go.Proofs.Ytggoaglcffdcnaa.netA
open Go.ChangeShapes Go.WideShapes Go.ChangeAt Go.RowKit Go.Deep
open numM rowA byt numA numB numC

theorem wrap_in (n : Int) (h1 : -9223372036854775808 ≤ n) (h2 : n ≤ 9223372036854775807) : IntKind.i64.wrap n = n := IntWalk.i64_in _ ⟨h1, h2⟩
theorem al0 (w : World) (o : Obj) : Below w.heap.size w (w.alloc o) := (Below.refl _ _).alloc (Nat.le_refl _) o
theorem below_drew (w : World) : Below w.heap.size w w.drew := (Below.refl _ _).drew
theorem undrew {w w' : World} (h : Below w.drew.heap.size w.drew w') : Below w.heap.size w w' := ⟨h.os, h.tape, h.output, h.size, h.block⟩
theorem undrewG {w w' : World} {x : Option Nat} (h : w.drew.grownBy w' x) : w.grownBy w' x := ⟨h.os, h.tape, h.output, h.size, h.block⟩

/-! ### Worlds that change at blocks of M alone -/
structure Cg (M : Nat → Prop) (w w' : World) : Prop where
  os : w'.os = w.os
  tape : w'.tape = w.tape
  output : w'.output = w.output
  size : w.heap.size ≤ w'.heap.size
  block : ∀ k, k < w.heap.size → ¬ M k → w'.heap[k]? = w.heap[k]?
section
variable {M M' : Nat → Prop} {w w0 w1 w2 w' : World}
theorem Cg.refl (M : Nat → Prop) (w : World) : Cg M w w := ⟨rfl, rfl, rfl, Nat.le_refl _, fun _ _ _ => rfl⟩
theorem Cg.of_below (M : Nat → Prop) (h : Below w.heap.size w w') : Cg M w w' := ⟨h.os, h.tape, h.output, h.size, fun k hk _ => h.block k hk⟩
theorem Cg.trans (h : Cg M w w1) (h2 : Cg M' w1 w2) (hm : ∀ k, k < w.heap.size → M' k → M k) : Cg M w w2 :=
  ⟨h2.os.trans h.os, h2.tape.trans h.tape, h2.output.trans h.output, Nat.le_trans h.size h2.size, fun k hk hn => (h2.block k (Nat.lt_of_lt_of_le hk h.size) (fun e => hn (hm k hk e))).trans (h.block k hk hn)⟩
theorem Cg.tran (h : Cg M w w1) (h2 : Cg M w1 w2) : Cg M w w2 := h.trans h2 fun _ _ e => e
theorem Cg.mono (h : Cg M w w1) (hm : ∀ k, k < w.heap.size → M k → M' k) : Cg M' w w1 := ⟨h.os, h.tape, h.output, h.size, fun k hk hn => h.block k hk fun e => hn (hm k hk e)⟩
theorem Cg.then (h : Cg M w w1) (h2 : Below w1.heap.size w1 w2) : Cg M w w2 := h.tran (Cg.of_below _ h2)
theorem Cg.below {B : Nat} (h : Cg M w w') (hB : B ≤ w.heap.size) (hm : ∀ k, k < B → ¬ M k) : Below B w w' := ⟨h.os, h.tape, h.output, h.size, fun k hk => h.block k (by omega) (hm k hk)⟩
theorem Cg.grown {row : Option Nat} (hg : w.grownBy w' row) : Cg (fun k => row = some k) w w' := ⟨hg.os, hg.tape, hg.output, hg.size, fun k hk hn => hg.block k hk fun e => hn e.symm⟩
theorem Cg.setCell (h : Cg M w0 w) {p : Addr} (hp : M p.block) (u : Value) : Cg M w0 (w.setCell p u) :=
  h.tran ⟨rfl, rfl, rfl, by rw [World.size_setCell]; exact Nat.le_refl _, fun k _ hn => Below.heap_setCell w p u k (fun e => hn (by rw [e]; exact hp))⟩
theorem Cg.cell1 (w : World) (p : Addr) (u : Value) : Cg (fun k => k = p.block) w (w.setCell p u) := Cg.setCell (M := fun k => k = p.block) (Cg.refl _ _) rfl u
theorem Cg.alloc (h : Cg M w0 w) (o : Obj) : Cg M w0 (w.alloc o) := h.then (al0 _ _)
theorem Cg.drew (h : Cg M w0 w) : Cg M w0 w.drew := ⟨h.os, h.tape, h.output, h.size, h.block⟩
end
/-- the colors of what is there stay, what comes is of color c -/
def recol (col : Nat → Nat) (w : World) (c : Nat) (k : Nat) : Nat := if k < w.heap.size then col k else c
def Ext (w : World) (col col' : Nat → Nat) : Prop := ∀ k, k < w.heap.size → col' k = col k
theorem Ext.refl (w : World) (col : Nat → Nat) : Ext w col col := fun _ _ => rfl
theorem rec_ext (col : Nat → Nat) (w : World) (c : Nat) : Ext w col (recol col w c) := fun _ hk => if_pos hk
theorem rec_new {col : Nat → Nat} {w : World} {c k : Nat} (h : w.heap.size ≤ k) : recol col w c k = c := if_neg (by omega)
theorem Ext.trans {w w1 : World} {c0 c1 c2 : Nat → Nat} (h1 : Ext w c0 c1) (hs : w.heap.size ≤ w1.heap.size) (h2 : Ext w1 c1 c2) : Ext w c0 c2 := fun k hk => (h2 k (by omega)).trans (h1 k hk)

/-! ### Rows of the call's own -/
theorem own_block {w w' : World} {base n sz : Nat} {t : TypeId} {v : Value} {xs : List Value} (h : w.ownsRow base t sz v n xs) (e : ∀ k, v.ownBlock = some k → w'.heap[k]? = w.heap[k]?) : w'.ownsRow base t sz v n xs := by
  refine ⟨h.1, ?_⟩
  rcases h.2 with h | ⟨g, cap, cur, rfl, h1, h2, h3⟩
  · exact .inl h
  · exact .inr ⟨g, cap, cur, rfl, h1, (e g rfl).trans h2, h3⟩
theorem own_low {w : World} {base n sz : Nat} {t : TypeId} {v : Value} {xs : List Value} (h : w.ownsRow base t sz v n xs) : w.ownsRow 0 t sz v n xs := by
  refine ⟨h.1, ?_⟩
  rcases h.2 with h | ⟨g, cap, cur, rfl, h1, h2, h3⟩
  · exact .inl h
  · exact .inr ⟨g, cap, cur, rfl, Nat.zero_le _, h2, h3⟩
theorem own_lo {w : World} {base n : Nat} {v : Value} {l : List Nat} (h : Own w base v n l) : Own w 0 v n l := ⟨h.1, h.2.1, h.2.2.1, own_low h.2.2.2⟩
theorem own_blk {w w' : World} {base n : Nat} {v : Value} {l : List Nat} (h : Own w base v n l) (e : ∀ k, v.ownBlock = some k → w'.heap[k]? = w.heap[k]?) : Own w' base v n l := ⟨h.1, h.2.1, h.2.2.1, own_block h.2.2.2 e⟩
theorem own_form {w : World} {base n sz : Nat} {t : TypeId} {v : Value} {xs : List Value} (h : w.ownsRow base t sz v n xs) : ∃ A c, v = .slice A n c ∧ n ≤ c ∧ c ≤ 9223372036854775807 := by
  rcases h.2 with ⟨rfl, rfl⟩ | ⟨g, cap, cur, rfl, _, _, h1, h2, _⟩
  · exact ⟨none, 0, rfl, by omega, by omega⟩
  · exact ⟨_, cap, rfl, h1, by unfold maxLen at h2; omega⟩
/-- A block has one type. -/
theorem row_apart {w : World} {p n k base sz : Nat} {t e : TypeId} {f : Nat → Value} {v : Value} {xs : List Value} (h : w.rowIs p t n f) (ho : w.ownsRow base e sz v k xs) (hne : t ≠ e) : v.ownBlock ≠ some p := by
  obtain ⟨c, hc, -, -⟩ := h
  rcases ho.2 with ⟨rfl, _⟩ | ⟨g, cap, cur, rfl, _, hg, _⟩
  · intro e; cases e
  · intro e1
    have e2 : g = p := by simpa [Value.ownBlock] using e1
    subst e2
    rw [hc] at hg
    simp at hg
    exact hne hg.2
theorem own_apart {w : World} {b1 b2 n k s1 s2 : Nat} {t e : TypeId} {v u : Value} {xs ys : List Value} (h : w.ownsRow b1 t s1 v n xs) (ho : w.ownsRow b2 e s2 u k ys) (hne : t ≠ e) {b : Nat} (hb : v.ownBlock = some b) : u.ownBlock ≠ some b := by
  rcases h.2 with ⟨rfl, _⟩ | ⟨g, cap, cur, rfl, _, hg, _⟩
  · cases hb
  · rcases ho.2 with ⟨rfl, _⟩ | ⟨g', cap', cur', rfl, _, hg', _⟩
    · intro e; cases e
    · intro e1
      have e2 : g' = b := by simpa [Value.ownBlock] using e1
      have e3 : g = b := by simpa [Value.ownBlock] using hb
      subst e2 e3
      rw [hg] at hg'
      simp at hg'
      exact hne hg'.2

/-! ### Rows of cells of things of several cells -/
def fl {α : Type} (f : α → List Value) (l : List α) : List Value := (l.map f).flatten
section
variable {α : Type} {f : α → List Value} {n : Nat}
theorem fl_nil : fl f [] = [] := rfl
theorem fl_cons (x : α) (l : List α) : fl f (x :: l) = f x ++ fl f l := rfl
theorem fl_app (a b : List α) : fl f (a ++ b) = fl f a ++ fl f b := by simp [fl]
theorem fl_one (x : α) : fl f [x] = f x := by simp [fl]
theorem fl_len (hn : ∀ x, (f x).length = n) : ∀ l : List α, (fl f l).length = l.length * n
  | [] => by simp [fl]
  | x :: l => by rw [fl_cons, List.length_append, hn, fl_len hn l, List.length_cons, Nat.succ_mul]; omega
theorem fl_get (hn : ∀ x, (f x).length = n) : ∀ {l : List α} {i j : Nat} {x : α} {u : Value}, l[i]? = some x → (f x)[j]? = some u → (fl f l)[i * n + j]? = some u
  | [], _, _, _, _, h, _ => by simp at h
  | a :: r, 0, j, x, u, h, hu => by
    simp only [List.getElem?_cons_zero, Option.some.injEq] at h
    subst h
    have := (List.getElem?_eq_some_iff.1 hu).1
    rw [fl_cons, Nat.zero_mul, Nat.zero_add, List.getElem?_append_left this]
    exact hu
  | a :: r, i + 1, j, x, u, h, hu => by
    rw [fl_cons, List.getElem?_append_right (by rw [hn, Nat.succ_mul]; omega), hn, show (i + 1) * n + j - n = i * n + j by rw [Nat.succ_mul]; omega]
    exact fl_get hn (by simpa using h) hu
theorem fl_drop (hn : ∀ x, (f x).length = n) (l : List α) (k : Nat) : fl f (l.drop k) = (fl f l).drop (k * n) := by
  by_cases h : k ≤ l.length
  · have e : fl f l = fl f (l.take k) ++ fl f (l.drop k) := by rw [← fl_app, List.take_append_drop]
    rw [e, List.drop_left' (by rw [fl_len hn, List.length_take, Nat.min_eq_left h])]
  · rw [List.drop_of_length_le (by omega), List.drop_of_length_le (by rw [fl_len hn]; exact Nat.mul_le_mul_right _ (by omega))]; rfl
theorem fl_take (hn : ∀ x, (f x).length = n) (l : List α) (k : Nat) : fl f (l.take k) = (fl f l).take (k * n) := by
  by_cases h : k ≤ l.length
  · have e : fl f l = fl f (l.take k) ++ fl f (l.drop k) := by rw [← fl_app, List.take_append_drop]
    rw [e, List.take_left' (by rw [fl_len hn, List.length_take, Nat.min_eq_left h])]
  · rw [List.take_of_length_le (by omega), List.take_of_length_le (by rw [fl_len hn]; exact Nat.mul_le_mul_right _ (by omega))]
theorem fl_all (h1 : ∀ x, ∀ u ∈ f x, u.oneCell' = true) (l : List α) : ∀ u ∈ fl f l, u.oneCell' = true := by
  intro u hu
  obtain ⟨y, hy, hu⟩ := List.mem_flatten.1 hu
  obtain ⟨x, _, rfl⟩ := List.mem_map.1 hy
  exact h1 x u hu
end

/-! ### A net -/
structure MP where
  b : List Nat
  sp : Bool
  A : Option Addr
  c : Nat
def MP.v (m : MP) : Value := .slice m.A m.b.length m.c
def MP.cs (m : MP) : List Value := [.slice m.A m.b.length m.c, .bool m.sp]
theorem MP.cs_len (m : MP) : m.cs.length = 2 := rfl
theorem MP.cs_one (m : MP) : ∀ u ∈ m.cs, u.oneCell' = true := by
  intro u hu
  simp only [MP.cs, List.mem_cons, List.not_mem_nil, or_false] at hu
  rcases hu with rfl | rfl <;> rfl
def MP.pk (m : MP) : List Nat × Bool := (m.b, m.sp)
def blks (ms : List MP) : List Nat := ms.filterMap fun m => m.v.ownBlock
theorem mem_blks {ms : List MP} {b : Nat} : b ∈ blks ms ↔ ∃ m ∈ ms, m.v.ownBlock = some b := by unfold blks; rw [List.mem_filterMap]
structure Ns where
  row : Nat → List (List Nat × Bool)
  lost : Nat
def upd {α : Type} (f : Nat → α) (k : Nat) (x : α) (j : Nat) : α := if j = k then x else f j
theorem upd_same {α : Type} (f : Nat → α) (k : Nat) (x : α) : upd f k x k = x := if_pos rfl
theorem upd_other {α : Type} (f : Nat → α) {k j : Nat} (x : α) (h : j ≠ k) : upd f k x j = f j := if_neg h
def cN (vs : Nat → Value) (lost : Nat) (i : Nat) : Value := if i = 441 then .int .i64 lost else vs i
structure NetIs (col : Nat → Nat) (c : Nat) (w : World) (p : Nat) (vs : Nat → Value) (ms : Nat → List MP) (lost : Nat) : Prop where
  row : w.rowIs p 64 442 (cN vs lost)
  own : ∀ k, k < 441 → w.ownsRow 0 45 2 (vs k) (ms k).length (fl MP.cs (ms k))
  byt : ∀ k, k < 441 → ∀ m ∈ ms k, Own w 0 m.v m.b.length m.b
  cp : col p = c
  cv : ∀ k, k < 441 → ∀ b, (vs k).ownBlock = some b → col b = c
  cb : ∀ k, k < 441 → ∀ m ∈ ms k, ∀ b, m.v.ownBlock = some b → col b = c
  sv : ∀ k j, k < 441 → j < 441 → k ≠ j → ∀ b, (vs k).ownBlock = some b → (vs j).ownBlock ≠ some b
  sb : ∀ k, k < 441 → (blks (ms k)).Nodup
  sk : ∀ k j, k < 441 → j < 441 → k ≠ j → ∀ b, b ∈ blks (ms k) → b ∉ blks (ms j)
  le : ∀ k, k < 441 → (ms k).length ≤ 48
  bl : ∀ k, k < 441 → ∀ m ∈ ms k, m.b.length ≤ 100000
section
variable {col col' : Nat → Nat} {c : Nat} {w w' w2 : World} {p : Nat} {vs : Nat → Value} {ms : Nat → List MP} {lost : Nat}
theorem NetIs.vlt (h : NetIs col c w p vs ms lost) {k : Nat} (hk : k < 441) {b : Nat} (e : (vs k).ownBlock = some b) : b < w.heap.size := ((h.own k hk).lt b e).2
theorem NetIs.blt (h : NetIs col c w p vs ms lost) {k : Nat} (hk : k < 441) {m : MP} (hm : m ∈ ms k) {b : Nat} (e : m.v.ownBlock = some b) : b < w.heap.size := ((h.byt k hk m hm).2.2.2.lt b e).2
/-- A net stays while nothing of its color changes. -/
theorem NetIs.other {M : Nat → Prop} (h : NetIs col c w p vs ms lost) (hg : Cg M w w') (hM : ∀ k, k < w.heap.size → col k = c → ¬ M k) (he : Ext w col col') : NetIs col' c w' p vs ms lost where
  row := h.row.of_block (hg.block p h.row.lt (hM p h.row.lt h.cp))
  own := fun k hk => own_block (h.own k hk) fun b e => hg.block b (h.vlt hk e) (hM b (h.vlt hk e) (h.cv k hk b e))
  byt := fun k hk m hm => own_blk (h.byt k hk m hm) fun b e => hg.block b (h.blt hk hm e) (hM b (h.blt hk hm e) (h.cb k hk m hm b e))
  cp := (he p h.row.lt).trans h.cp
  cv := fun k hk b e => (he b (h.vlt hk e)).trans (h.cv k hk b e)
  cb := fun k hk m hm b e => (he b (h.blt hk hm e)).trans (h.cb k hk m hm b e)
  sv := h.sv
  sb := h.sb
  sk := h.sk
  le := h.le
  bl := h.bl
theorem NetIs.below (h : NetIs col c w p vs ms lost) (hB : Below w.heap.size w w') : NetIs col c w' p vs ms lost := h.other (Cg.of_below (fun _ => False) hB) (fun _ _ _ e => e) (Ext.refl _ _)
theorem NetIs.ext (h : NetIs col c w p vs ms lost) (he : Ext w col col') : NetIs col' c w p vs ms lost := h.other (Cg.refl (fun _ => False) w) (fun _ _ _ e => e) he
/-- Other colors will do, where what has this one has it still. -/
theorem NetIs.recolor (h : NetIs col c w p vs ms lost) (he : ∀ k, k < w.heap.size → col k = c → col' k = c) : NetIs col' c w p vs ms lost where
  row := h.row
  own := h.own
  byt := h.byt
  cp := he p h.row.lt h.cp
  cv := fun k hk b e => he b (h.vlt hk e) (h.cv k hk b e)
  cb := fun k hk m hm b e => he b (h.blt hk hm e) (h.cb k hk m hm b e)
  sv := h.sv
  sb := h.sb
  sk := h.sk
  le := h.le
  bl := h.bl
/-- What is made on the way is of another color. -/
def mid (col : Nat → Nat) (w : World) (c : Nat) : Nat → Nat := recol col w (c + 1)
theorem NetIs.mid (h : NetIs col c w p vs ms lost) (hB : Below w.heap.size w w') : NetIs (mid col w c) c w' p vs ms lost := (h.ext (rec_ext col w (c + 1))).below hB
theorem mid_ne {col : Nat → Nat} {w : World} {c k : Nat} (hk : w.heap.size ≤ k) : netA.mid col w c k ≠ c := by unfold netA.mid; rw [rec_new hk]; omega
theorem mid_back {w2 : World} (hs : w.heap.size ≤ w2.heap.size) (h : NetIs (recol (mid col w c) w2 c) c w' p vs ms lost) : NetIs (recol col w c) c w' p vs ms lost := h.recolor fun k _ e => by
  by_cases h1 : k < w.heap.size
  · rw [rec_ext col w c k h1]
    unfold recol at e
    by_cases h2 : k < w2.heap.size
    · rw [if_pos h2] at e
      unfold netA.mid at e
      rwa [rec_ext col w (c + 1) k h1] at e
    · omega
  · exact rec_new (by omega)
theorem mid_cg {w2 : World} (hB : Below w.heap.size w w2) (h : Cg (fun b => mid col w c b = c) w2 w') : Cg (fun b => col b = c) w w' :=
  (Cg.of_below _ hB).trans h fun k hk e => by unfold mid at e; rwa [rec_ext col w (c + 1) k hk] at e
/-- One row of a net is another one, and is laid into its cell. -/
theorem NetIs.put (h : NetIs col c w p vs ms lost) {k : Nat} (hk : k < 441) (hg : w.grownBy w2 (vs k).ownBlock) {v' : Value} {l' : List MP}
    (ho : w2.ownsRow 0 45 2 v' l'.length (fl MP.cs l')) (hv : ∀ b, v'.ownBlock = some b → (vs k).ownBlock = some b ∨ w.heap.size ≤ b)
    (hb : ∀ m ∈ l', Own w2 0 m.v m.b.length m.b) (hc : ∀ b ∈ blks l', (w.heap.size ≤ b ∨ col b = c) ∧ ∀ j, j < 441 → j ≠ k → b ∉ blks (ms j)) (hn : (blks l').Nodup) (hl : l'.length ≤ 48) (hx : ∀ m ∈ l', m.b.length ≤ 100000) :
    Cg (fun b => col b = c) w (w2.setCell ⟨p, k, none⟩ v') ∧ NetIs (recol col w c) c (w2.setCell ⟨p, k, none⟩ v') p (upd vs k v') (upd ms k l') lost := by
  have hplt := h.row.lt
  have hpv : (vs k).ownBlock ≠ some p := row_apart h.row (h.own k hk) (by decide)
  have hr2 : w2.rowIs p 64 442 (cN vs lost) := h.row.of_block (hg.block p hplt (fun e => hpv e.symm))
  have hpv' : v'.ownBlock ≠ some p := row_apart hr2 ho (by decide)
  have hset : ∀ b, b ≠ p → (w2.setCell ⟨p, k, none⟩ v').heap[b]? = w2.heap[b]? := fun b hb => Below.heap_setCell w2 ⟨p, k, none⟩ v' b hb
  have hg1 : Cg (fun b => col b = c) w w2 := (Cg.grown hg).mono fun b _ e => h.cv k hk b e
  have hcg : Cg (fun b => col b = c) w (w2.setCell ⟨p, k, none⟩ v') := hg1.setCell h.cp v'
  -- rows and bytes that were there stay
  have hrow : ∀ j, j < 441 → j ≠ k → (w2.setCell ⟨p, k, none⟩ v').ownsRow 0 45 2 (vs j) (ms j).length (fl MP.cs (ms j)) := fun j hj hne => own_block (h.own j hj) fun b e =>
    (hset b (fun e2 => row_apart h.row (h.own j hj) (by decide) (by rw [e, e2]))).trans (hg.block b (h.vlt hj e) (fun e2 => h.sv k j hk hj (Ne.symm hne) b e2.symm e))
  have hbyt : ∀ j, j < 441 → ∀ m ∈ ms j, Own (w2.setCell ⟨p, k, none⟩ v') 0 m.v m.b.length m.b := fun j hj m hm => own_blk (h.byt j hj m hm) fun b e =>
    (hset b (fun e2 => row_apart h.row (h.byt j hj m hm).2.2.2 (by decide) (by rw [e, e2]))).trans (hg.block b (h.blt hj hm e) (fun e2 => own_apart (h.own k hk) (h.byt j hj m hm).2.2.2 (by decide) e2.symm e))
  have hnewb : ∀ m ∈ l', Own (w2.setCell ⟨p, k, none⟩ v') 0 m.v m.b.length m.b := fun m hm => own_blk (hb m hm) fun b e => hset b (fun e2 => row_apart hr2 (hb m hm).2.2.2 (by decide) (by rw [e, e2]))
  have hvc : ∀ b, v'.ownBlock = some b → recol col w c b = c := fun b e => by
    rcases hv b e with h1 | h1
    · exact (rec_ext col w c b (h.vlt hk h1)).trans (h.cv k hk b h1)
    · exact rec_new h1
  have hbc : ∀ b ∈ blks l', recol col w c b = c := fun b hb => by
    by_cases hs : b < w.heap.size
    · rw [rec_ext col w c b hs]
      rcases (hc b hb).1 with h1 | h1
      · omega
      · exact h1
    · exact rec_new (by omega)
  refine ⟨hcg, ?_⟩
  exact
    { row := (hr2.set k v').congr (fun i hi => by
        unfold cN upd
        by_cases h1 : i = k
        · subst h1; rw [if_pos rfl, if_neg (by omega), if_pos rfl]
        · rw [if_neg h1, if_neg h1])
      own := fun j hj => by
        by_cases e : j = k
        · subst e
          rw [upd_same, upd_same]
          exact own_block ho fun b e => hset b (fun e2 => hpv' (by rw [e, e2]))
        · rw [upd_other _ _ e, upd_other _ _ e]; exact hrow j hj e
      byt := fun j hj m hm => by
        by_cases e : j = k
        · subst e; rw [upd_same] at hm; exact hnewb m hm
        · rw [upd_other _ _ e] at hm; exact hbyt j hj m hm
      cp := (rec_ext col w c p hplt).trans h.cp
      cv := fun j hj b hb => by
        by_cases e : j = k
        · subst e; rw [upd_same] at hb; exact hvc b hb
        · rw [upd_other _ _ e] at hb; exact (rec_ext col w c b (h.vlt hj hb)).trans (h.cv j hj b hb)
      cb := fun j hj m hm b hb => by
        by_cases e : j = k
        · subst e; rw [upd_same] at hm; exact hbc b (mem_blks.2 ⟨m, hm, hb⟩)
        · rw [upd_other _ _ e] at hm; exact (rec_ext col w c b (h.blt hj hm hb)).trans (h.cb j hj m hm b hb)
      sv := fun i j hi hj hne b hb => by
        by_cases e : i = k
        · subst e
          rw [upd_same] at hb
          rw [upd_other _ _ (Ne.symm hne)]
          rcases hv b hb with h1 | h1
          · exact h.sv i j hi hj hne b h1
          · intro e2; have := h.vlt hj e2; omega
        · rw [upd_other _ _ e] at hb
          by_cases e2 : j = k
          · subst e2
            rw [upd_same]
            intro e3
            rcases hv b e3 with h1 | h1
            · exact h.sv i j hi hj hne b hb h1
            · have := h.vlt hi hb; omega
          · rw [upd_other _ _ e2]; exact h.sv i j hi hj hne b hb
      sb := fun j hj => by
        by_cases e : j = k
        · subst e; rw [upd_same]; exact hn
        · rw [upd_other _ _ e]; exact h.sb j hj
      sk := fun i j hi hj hne b hb => by
        by_cases e : i = k
        · subst e
          rw [upd_same] at hb
          rw [upd_other _ _ (Ne.symm hne)]
          exact (hc b hb).2 j hj (Ne.symm hne)
        · rw [upd_other _ _ e] at hb
          by_cases e2 : j = k
          · subst e2
            rw [upd_same]
            exact fun e3 => (hc b e3).2 i hi e hb
          · rw [upd_other _ _ e2]; exact h.sk i j hi hj hne b hb
      le := fun j hj => by
        by_cases e : j = k
        · subst e; rw [upd_same]; exact hl
        · rw [upd_other _ _ e]; exact h.le j hj
      bl := fun j hj m hm => by
        by_cases e : j = k
        · subst e; rw [upd_same] at hm; exact hx m hm
        · rw [upd_other _ _ e] at hm; exact h.bl j hj m hm }
theorem NetIs.mine (h : NetIs col c w p vs ms lost) {k : Nat} (hk : k < 441) {b : Nat} (hb : b ∈ blks (ms k)) : (w.heap.size ≤ b ∨ col b = c) ∧ ∀ j, j < 441 → j ≠ k → b ∉ blks (ms j) := by
  obtain ⟨m, hm, e⟩ := mem_blks.1 hb
  exact ⟨.inr (h.cb k hk m hm b e), fun j hj hne => h.sk k j hk hj (Ne.symm hne) b hb⟩
theorem NetIs.fresh (h : NetIs col c w p vs ms lost) {k : Nat} {b : Nat} (hb : w.heap.size ≤ b) : (w.heap.size ≤ b ∨ col b = c) ∧ ∀ j, j < 441 → j ≠ k → b ∉ blks (ms j) := by
  refine ⟨.inl hb, fun j hj _ e => ?_⟩
  obtain ⟨m, hm, e2⟩ := mem_blks.1 e
  have := h.blt hj hm e2
  omega
/-- Another count of what is lost. -/
theorem NetIs.setLost (h : NetIs col c w p vs ms lost) (n : Nat) : Cg (fun b => col b = c) w (w.setCell ⟨p, 441, none⟩ (.int .i64 n)) ∧ NetIs col c (w.setCell ⟨p, 441, none⟩ (.int .i64 n)) p vs ms n := by
  have hset : ∀ b, b ≠ p → (w.setCell ⟨p, 441, none⟩ (.int .i64 n)).heap[b]? = w.heap[b]? := fun b hb => Below.heap_setCell w ⟨p, 441, none⟩ _ b hb
  refine ⟨(Cg.refl _ _).setCell h.cp _, ?_⟩
  exact
    { row := (h.row.set 441 (.int .i64 n)).congr (fun i hi => by
        unfold cN
        by_cases h1 : i = 441
        · rw [if_pos h1, if_pos h1]
        · rw [if_neg h1, if_neg h1, if_neg h1])
      own := fun j hj => own_block (h.own j hj) fun b e => hset b (fun e2 => row_apart h.row (h.own j hj) (by decide) (by rw [e, e2]))
      byt := fun j hj m hm => own_blk (h.byt j hj m hm) fun b e => hset b (fun e2 => row_apart h.row (h.byt j hj m hm).2.2.2 (by decide) (by rw [e, e2]))
      cp := h.cp, cv := h.cv, cb := h.cb, sv := h.sv, sb := h.sb, sk := h.sk, le := h.le, bl := h.bl }
/-- what a walk loads of a way -/
theorem NetIs.cell (h : NetIs col c w p vs ms lost) {k : Nat} (hk : k < 441) : w.cell? ⟨p, k, none⟩ = some (vs k) ∧ w.frozen? ⟨p, k, none⟩ = false ∧ ∃ A cp, vs k = .slice A (ms k).length cp ∧ (ms k).length ≤ cp ∧ cp ≤ 9223372036854775807 := by
  refine ⟨?_, h.row.frozen k, own_form (h.own k hk)⟩
  rw [h.row.cell (i := k) (by omega)]
  unfold cN; rw [if_neg (by omega)]
theorem NetIs.cellL (h : NetIs col c w p vs ms lost) : w.cell? ⟨p, 441, none⟩ = some (.int .i64 lost) ∧ w.frozen? ⟨p, 441, none⟩ = false := by
  refine ⟨?_, h.row.frozen 441⟩
  rw [h.row.cell (i := 441) (by omega)]; rfl
end
/-- A net as it is told. -/
def NetAt (col : Nat → Nat) (c : Nat) (w : World) (p : Nat) (s : Ns) : Prop := ∃ vs ms, NetIs col c w p vs ms s.lost ∧ ∀ k, k < 441 → (ms k).map MP.pk = s.row k
theorem NetAt.other {M : Nat → Prop} {col col' : Nat → Nat} {c p : Nat} {w w' : World} {s : Ns} (h : NetAt col c w p s) (hg : Cg M w w') (hM : ∀ k, k < w.heap.size → col k = c → ¬ M k) (he : Ext w col col') : NetAt col' c w' p s := by
  obtain ⟨vs, ms, h, e⟩ := h
  exact ⟨vs, ms, h.other hg hM he, e⟩
theorem NetAt.below {col : Nat → Nat} {c p : Nat} {w w' : World} {s : Ns} (h : NetAt col c w p s) (hB : Below w.heap.size w w') : NetAt col c w' p s := by
  obtain ⟨vs, ms, h, e⟩ := h
  exact ⟨vs, ms, h.below hB, e⟩
theorem NetAt.ext {col col' : Nat → Nat} {c p : Nat} {w : World} {s : Ns} (h : NetAt col c w p s) (he : Ext w col col') : NetAt col' c w p s := by
  obtain ⟨vs, ms, h, e⟩ := h
  exact ⟨vs, ms, h.ext he, e⟩
section
variable {col : Nat → Nat} {c p : Nat} {w : World} {s : Ns}
theorem NetAt.cell (h : NetAt col c w p s) {k : Nat} (hk : k < 441) : w.frozen? ⟨p, k, none⟩ = false ∧ ∃ A cp, w.cell? ⟨p, k, none⟩ = some (.slice A (s.row k).length cp) ∧ (s.row k).length ≤ 48 := by
  obtain ⟨vs, ms, h, e⟩ := h
  obtain ⟨h1, h2, A, cp, h3, h4, h5⟩ := h.cell hk
  have h6 := h.le k hk
  have h7 : (s.row k).length = (ms k).length := by rw [← e k hk, List.length_map]
  rw [h7]
  exact ⟨h2, A, cp, by rw [h1, h3], h6⟩
theorem NetAt.cellL (h : NetAt col c w p s) : w.cell? ⟨p, 441, none⟩ = some (.int .i64 s.lost) ∧ w.frozen? ⟨p, 441, none⟩ = false := by
  obtain ⟨vs, ms, h, e⟩ := h
  exact h.cellL
theorem NetAt.lt (h : NetAt col c w p s) : p < w.heap.size := by
  obtain ⟨vs, ms, h, e⟩ := h
  exact h.row.lt
end
end Go.Proofs.Ytggoaglcffdcnaa.netA
