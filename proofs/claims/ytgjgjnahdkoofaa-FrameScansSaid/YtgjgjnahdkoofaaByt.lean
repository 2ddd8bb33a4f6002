/- What a walk is told of bytes: a slice that holds a list of them, a row of the call's own that holds them, and append onto such a row. -/
import Derived.Test.YtgjgjnahdkoofaaRows
import Derived.Test.YtgjgjnahdkoofaaRowA
import Derived.Test.YtgjgjnahdkoofaaNumM
import Derived.WalkKit
import Derived.ProofKit
import Derived.OwnWalk
import Derived.Below
import Derived.Deep.DeepAppendWide
import Derived.Laws.OwnMore
import Derived.Laws.BytesArg
import Derived.Lib.AppendStr
import Derived.Lib.SmallJoins
namespace Go.Proofs.Ytgjgjnahdkoofaa.byt
open Go.ChangeShapes Go.WideShapes Go.ChangeAt Go.RowKit
open numM rowA

/-- The n bytes at a are l. -/
def BL (w : World) (a : Option Addr) (n : Nat) (l : List Nat) : Prop :=
  l.length = n ∧ n ≤ 9223372036854775807 ∧ (∀ c ∈ l, c < 256) ∧ (n = 0 ∨ ∃ b off, a = some ⟨b, off, none⟩ ∧ b < w.heap.size ∧ ∀ i, i < n → w.cell? ⟨b, off + i, none⟩ = some (.int .u8 (nth l i)))
theorem BL.at {w : World} {a : Option Addr} {n : Nat} {l : List Nat} (h : BL w a n l) {i : Nat} (hi : i < n) :
    ∃ b off, a = some ⟨b, off, none⟩ ∧ w.cell? ⟨b, off + i, none⟩ = some (.int .u8 (nth l i)) := by
  rcases h.2.2.2 with h | ⟨b, off, h1, _, h2⟩
  · omega
  · exact ⟨b, off, h1, h2 i hi⟩
theorem BL.step {w w1 : World} {a : Option Addr} {n B : Nat} {l : List Nat} (h : BL w a n l) (hb : Below B w w1) (hB : w.heap.size ≤ B) : BL w1 a n l := by
  refine ⟨h.1, h.2.1, h.2.2.1, h.2.2.2.imp id ?_⟩
  rintro ⟨b, off, rfl, hlt, hc⟩
  refine ⟨b, off, rfl, by have := hb.size; omega, fun i hi => ?_⟩
  rw [hb.cell (p := ⟨b, off + i, none⟩) (show b < B by omega)]
  exact hc i hi
theorem BL.below {w w1 : World} {a : Option Addr} {n : Nat} {l : List Nat} (h : BL w a n l) (hb : Below w.heap.size w w1) : BL w1 a n l := h.step hb (Nat.le_refl _)
theorem BL.none_ (w : World) (a : Option Addr) : BL w a 0 [] := ⟨rfl, by omega, by simp, .inl rfl⟩
theorem BL.nil_ (w : World) (a : Option Addr) (n : Nat) (h : n = 0) : BL w a n [] := by subst h; exact BL.none_ w a
theorem nth_drop (l : List Nat) (k i : Nat) : nth (l.drop k) i = nth l (k + i) := by
  unfold nth; rw [List.getD_eq_getElem?_getD, List.getD_eq_getElem?_getD, List.getElem?_drop]
theorem nth_take (l : List Nat) {k i : Nat} (h : i < k) : nth (l.take k) i = nth l i := by
  unfold nth; rw [List.getD_eq_getElem?_getD, List.getD_eq_getElem?_getD, List.getElem?_take_of_lt h]
theorem BL.drop {w : World} {b off n : Nat} {l : List Nat} (h : BL w (some ⟨b, off, none⟩) n l) (k : Nat) : BL w (some ⟨b, off + k, none⟩) (n - k) (l.drop k) := by
  refine ⟨by rw [List.length_drop, h.1], by have := h.2.1; omega, fun c hc => h.2.2.1 c (List.mem_of_mem_drop hc), ?_⟩
  rcases h.2.2.2 with h0 | ⟨b', off', h1, h2, h3⟩
  · exact .inl (by omega)
  · cases h1
    exact .inr ⟨b, off + k, rfl, h2, fun i hi => by rw [Nat.add_assoc, nth_drop]; exact h3 _ (by omega)⟩
theorem BL.take {w : World} {a : Option Addr} {n : Nat} {l : List Nat} (h : BL w a n l) (k : Nat) (hk : k ≤ n) : BL w a k (l.take k) := by
  refine ⟨by rw [List.length_take, h.1]; omega, by have := h.2.1; omega, fun c hc => h.2.2.1 c (List.mem_of_mem_take hc), ?_⟩
  rcases h.2.2.2 with h0 | ⟨b', off', h1, h2, h3⟩
  · exact .inl (by omega)
  · exact .inr ⟨b', off', h1, h2, fun i hi => by rw [nth_take l hi]; exact h3 _ (by omega)⟩
theorem BL.lt {w : World} {a : Option Addr} {n : Nat} {l : List Nat} (h : BL w a n l) : ∀ c ∈ l, c < 256 := h.2.2.1

theorem row_bl {w : World} {a : Option Addr} {len cap : Nat} {zs : List Int} (h : IsRow .u8 w a len cap zs) : BL w a len ((zs.take len).map Int.toNat) := by
  have hl := row_len h
  have hz : ∀ i, i < len → i < zs.length := by
    rcases h with ⟨_, h, _, _⟩ | ⟨x, hx, h1, h2, h3, h4, h5⟩ <;> intro i hi <;> omega
  have hwf : ∀ n ∈ zs, 0 ≤ n ∧ n < 256 := by
    rcases h with ⟨_, _, _, rfl⟩ | ⟨x, hx, h1, h2, h3, h4, h5⟩
    · simp
    · intro n hn
      have := bounds_u8 (h5 n hn)
      omega
  have hlen : ((zs.take len).map Int.toNat).length = len := by
    rw [List.length_map, List.length_take]
    rcases h with ⟨_, h, _, _⟩ | ⟨x, hx, h1, h2, h3, h4, h5⟩ <;> omega
  refine ⟨hlen, by omega, ?_, ?_⟩
  · intro c hc
    obtain ⟨n, hn, rfl⟩ := List.mem_map.1 hc
    have := hwf n (List.mem_of_mem_take hn)
    omega
  · by_cases h0 : len = 0
    · exact .inl h0
    · rcases h with ⟨_, h, _, _⟩ | ⟨x, hx, h1, h2, h3, h4, h5⟩
      · omega
      · obtain ⟨b, off, rfl, hc⟩ := ints_at h4 (by omega)
        have hc0 := hc 0 (by omega)
        refine .inr ⟨b, off, hx, World.block_lt_of_cell? _ _ hc0, fun i hi => ?_⟩
        have hp : i < zs.length := by omega
        rw [hc i hp]
        have hb := hwf (zs.getD i 0) (by simp [List.getD, hp])
        congr 2
        unfold nth
        rw [List.getD_eq_getElem?_getD, List.getD_eq_getElem?_getD, List.getElem?_map, List.getElem?_take_of_lt hi] at *
        rw [List.getElem?_eq_getElem hp] at *
        show zs[i] = ((zs[i].toNat : Nat) : Int)
        have h0 : 0 ≤ zs[i] := hb.1
        rw [Int.toNat_of_nonneg h0]

/-- Bytes, as cells. -/
def ub (l : List Nat) : List Value := l.map fun (c : Nat) => Value.int .u8 (c : Int)
theorem ub_len (l : List Nat) : (ub l).length = l.length := by simp [ub]
theorem ub_get (l : List Nat) {i : Nat} (h : i < l.length) : (ub l)[i]? = some (.int .u8 (nth l i)) := by
  unfold ub nth
  rw [List.getElem?_map, List.getElem?_eq_getElem h, List.getD_eq_getElem?_getD, List.getElem?_eq_getElem h]; rfl
theorem ub_one (l : List Nat) : ∀ u ∈ ub l, u.oneCell' = true := by
  intro u hu
  obtain ⟨i, _, rfl⟩ := List.mem_map.1 hu
  rfl
theorem ub_add (l k : List Nat) : ub (l ++ k) = ub l ++ ub k := by simp [ub]
theorem bytes8 : (Try.prog.info? 5).map (fun i => (i.zero, i.size, i.bytes)) = some (some (.int .u8 0), 1, 1) := by kernel_rfl

/-- A row of the call's own that holds bytes. -/
def Own (w : World) (base : Nat) (v : Value) (n : Nat) (l : List Nat) : Prop := l.length = n ∧ (∀ c ∈ l, c < 256) ∧ n ≤ 9223372036854775807 ∧ w.ownsRow base 5 1 v n (ub l)
theorem Own.form {w : World} {base n : Nat} {v : Value} {l : List Nat} (h : Own w base v n l) :
    ∃ A cap, v = .slice A n cap ∧ n ≤ cap ∧ cap ≤ 9223372036854775807 ∧ (A = none → cap = 0) ∧ (∀ x, A = some x → ∃ g, x = ⟨g, 0, none⟩) ∧ BL w A n l := by
  obtain ⟨hl, hb, hm, ho⟩ := h
  have ho' := ho
  rcases ho.2 with ⟨rfl, hx⟩ | ⟨g, cap, cur, rfl, hbg, hg, hnc, hcm, hcs, htake⟩
  · subst hx
    obtain rfl : l = [] := List.eq_nil_of_length_eq_zero hl
    exact ⟨none, 0, rfl, by omega, by omega, fun _ => rfl, fun x h => (by cases h), BL.none_ w none⟩
  · refine ⟨some ⟨g, 0, none⟩, cap, rfl, hnc, by unfold maxLen at hcm; omega, fun h => (by cases h), fun x h => (by cases h; exact ⟨g, rfl⟩), hl, hm, hb, .inr ⟨g, 0, rfl, (ho'.lt g rfl).2, fun i hi => ?_⟩⟩
    rw [Nat.zero_add, ho'.cellAt i (by omega), ub_get l (by omega)]
theorem Own.nil_ (w : World) (base : Nat) : Own w base (.slice none 0 0) 0 [] := ⟨rfl, by simp, by omega, by rw [show ub [] = [] from rfl]; exact World.ownsRow_nil w base _ 1⟩
theorem Own.made (w : World) (base : Nat) (hb : base ≤ w.heap.size) (l : List Nat) (hl : ∀ c ∈ l, c < 256) (hm : l.length ≤ 1000) (C : Array Value) (hC : C = (ub l).toArray) :
    Own (w.alloc (.cells C 5)) base (.slice (some ⟨w.heap.size, 0, none⟩) l.length l.length) l.length l := by
  subst hC
  refine ⟨rfl, hl, by omega, ?_⟩
  have h := World.ownsRow_lit (e := 5) (size := 1) w (ub l).toArray l.length hb (by unfold maxLen; omega) (by simp [ub_len])
  exact h
theorem Own.alloc {w : World} {base n : Nat} {v : Value} {l : List Nat} (h : Own w base v n l) (o : Obj) : Own (w.alloc o) base v n l := ⟨h.1, h.2.1, h.2.2.1, h.2.2.2.alloc o⟩
theorem Own.drew {w : World} {base n : Nat} {v : Value} {l : List Nat} (h : Own w base v n l) : Own w.drew base v n l := h
theorem Own.more {w : World} {base base' n : Nat} {v : Value} {l : List Nat} (h : Own w base v n l) (hb : base' ≤ base) : Own w base' v n l := by
  refine ⟨h.1, h.2.1, h.2.2.1, h.2.2.2.1, ?_⟩
  rcases h.2.2.2.2 with h | ⟨g, cap, cur, h1, h2, h3⟩
  · exact .inl h
  · exact .inr ⟨g, cap, cur, h1, by omega, h3⟩
/-- What the call owns stands when nothing below a bound is touched. -/
theorem Own.below {w w1 : World} {base n B : Nat} {v : Value} {l : List Nat} (h : Own w base v n l) (hb : Below B w w1) (hB : w.heap.size ≤ B) : Own w1 base v n l := by
  refine ⟨h.1, h.2.1, h.2.2.1, h.2.2.2.1, ?_⟩
  have hlt := h.2.2.2.lt
  rcases h.2.2.2.2 with h | ⟨g, cap, cur, rfl, h2, h3, h4⟩
  · exact .inl h
  · have := (hlt g rfl).2
    exact .inr ⟨g, cap, cur, rfl, h2, (hb.block g (by omega)).trans h3, h4⟩

section
variable {P : Program}
theorem run_app_nil (w : World) (base : Nat) (t ty e : TypeId) (i : TypeInfo) (ht : P.underlying t = some (.slice e)) (hi : P.info? e = some i) {v : Value} {n : Nat} {xs : List Value} (hown : w.ownsRow base e 1 v n xs) (A : Option Addr) (c : Nat) :
    (Builtin.append_ #[t, t] ty #[v, .slice A 0 c]).run P w = .ok v w := by
  rcases hown.2 with ⟨rfl, rfl⟩ | ⟨g, cap, cur, rfl, _, _, hnc, _⟩
  · rcases A with _ | a <;> simp [Builtin.append_, run_underlying ht, sizeOf, typeInfo, hi, Builtin.lenOf, Builtin.firstCells, loadCells, loadCellsFrom]
  · rcases A with _ | a <;> simp [Builtin.append_, run_underlying ht, sizeOf, typeInfo, hi, Builtin.lenOf, Builtin.firstCells, hnc, storeCells, loadCells, loadCellsFrom]

theorem run_app (w : World) (base : Nat) (t ty : TypeId) (i : TypeInfo) (ht : P.underlying t = some (.slice 5)) (hi : P.info? 5 = some i) (hz : i.zero = some (.int .u8 0)) (h1 : i.size = 1) (h2 : i.bytes = 1)
    {v : Value} {n : Nat} {l : List Nat} (hown : Own w base v n l) (A : Option Addr) (m c : Nat) {k : List Nat} (hb : BL w A m k) (hroom : n + m + (n + m) / 4 + 192 ≤ 281474976710656) (hbase : base ≤ w.heap.size) :
    ∃ v' w', (Builtin.append_ #[t, t] ty #[v, .slice A m c]).run P w = .ok v' w' ∧ Own w' base v' (n + m) (l ++ k) ∧ w.grownBy w' v.ownBlock := by
  have hl : (l ++ k).length = n + m := by rw [List.length_append, hown.1, hb.1]
  have hlt : ∀ c ∈ l ++ k, c < 256 := fun c hc => (List.mem_append.1 hc).elim (hown.2.1 c) (hb.2.2.1 c)
  by_cases hm : m = 0
  · subst hm
    have hk : k = [] := List.eq_nil_of_length_eq_zero hb.1
    subst hk
    refine ⟨v, w, run_app_nil w base t ty _ i ht hi hown.2.2.2 A c, ?_, ⟨rfl, rfl, rfl, Nat.le_refl _, fun _ _ _ => rfl⟩⟩
    rw [List.append_nil]; exact hown
  · obtain ⟨b, off, rfl, _⟩ := hb.at (show 0 < m by omega)
    obtain ⟨v', w', hr, ho, hg, _⟩ := run_append_own_wide (P := P) w base t ty 5 i (.int .u8 0) 1 1 ht hi hz h1 h2 rfl (by decide) v n (ub l) hown.2.2.2 ⟨b, off, none⟩ m c (ub k) (by rw [ub_len, hb.1]; omega)
      (fun j u hu => by
        have hj : j < k.length := by
          have := (List.getElem?_eq_some_iff.1 hu).1
          rwa [ub_len] at this
        rw [ub_get k hj] at hu
        cases hu
        rcases hb.2.2.2 with h0 | ⟨b', off', e', _, h3⟩
        · omega
        · cases e'
          rw [add_plain]
          exact h3 j (by have := hb.1; omega)) (ub_one k) (by unfold maxLen; omega) (by omega) hbase
    rw [← ub_add] at ho
    exact ⟨v', w', hr, ⟨hl, hlt, by omega, ho⟩, hg⟩

/-- append of bytes onto a row of the call's own: whatever is appended. -/
theorem wpList_app {w : World} {ops : Array Oper} {rest : List Oper} {o : Oper} {a : Act} {Q : Exit → Act → World → Prop} (hgd : o.guard = none) (s x : Operand) (t : TypeId)
    (ho : o.op = .call { callee := .builtin .append, args := #[s, x], argTypes := #[t, t] })
    (base : Nat) (i : TypeInfo) (ht : P.underlying t = some (.slice 5)) (hi : P.info? 5 = some i) (hz : i.zero = some (.int .u8 0)) (h1 : i.size = 1) (h2 : i.bytes = 1)
    (v : Value) (n : Nat) (l : List Nat) (hs : a.eval s = v) (hown : Own w base v n l) (A : Option Addr) (m c : Nat) (k : List Nat) (hx : a.eval x = .slice A m c) (hb : BL w A m k)
    (hroom : n + m + (n + m) / 4 + 192 ≤ 281474976710656) (hbase : base ≤ w.heap.size)
    (h : ∀ v' w', Own w' base v' (n + m) (l ++ k) → w.grownBy w' v.ownBlock → wpList P ops Q rest (a.put o.dst v') w') : wpList P ops Q (o :: rest) a w := by
  refine wpList_plain hgd fun K hK => ?_
  obtain ⟨v', w', hr, h3, h4⟩ := run_app (P := P) w base t o.type i ht hi hz h1 h2 hown A m c hb hroom hbase
  unfold Oper.wp execOp
  simp only [ho, resolve, invoke, builtin, Sem.run_bind, Sem.run_pure, Result.andThen_ok, List.map_toArray, List.map_cons, List.map_nil, hs, hx, hr]
  exact hK _ _ (h v' w' h3 h4)
end
/-- What stands below a base stands behind an append onto a row from it on. -/
theorem Own.grown {w w1 w2 : World} {base n : Nat} {v : Value} {l : List Nat} (h : Own w1 base v n l) (hB : Below base w w1) (hg : w1.grownBy w2 v.ownBlock) (hb : base ≤ w1.heap.size) : Below base w w2 :=
  hB.grown hg hb (fun k e => (h.2.2.2.lt k e).1)

/-! ### Strings -/
def strOf (l : List Nat) : ByteArray := strOfNums (l.map fun (c : Nat) => (c : Int))
theorem run_str {P : Program} {w : World} (src e dst : TypeId) (hs : P.underlying src = some (.slice e)) (he : P.underlying e = some (.int .u8)) (hd : P.underlying dst = some .string) {A : Option Addr} {n : Nat} {l : List Nat} (c : Nat) (h : BL w A n l) :
    (convert src dst (.slice A n c)).run P w = .ok (.string (strOf l)) w := by
  rcases h.2.2.2 with h0 | ⟨b, off, rfl, _, h3⟩
  · subst h0
    have : l = [] := List.eq_nil_of_length_eq_zero h.1
    subst this
    rcases A with _ | ⟨b, off, sp⟩
    · exact run_convert_bytes_nil w src e hs he 0 c dst hd
    · rw [run_convert_bytes_string w src dst e _ 0 c hs he hd]
      simp [Conv.bytesToString, loadCells, loadCellsFrom]
      rfl
  · refine run_convert_bytes_arg w src e hs he b off n c _ (by simp [h.1]) (fun i hi => ?_) dst hd
    rw [h3 i hi]
    unfold nth
    congr 2
    simp [List.getD_eq_getElem?_getD, List.getElem?_map]
    rw [List.getElem?_eq_getElem (by have := h.1; omega)]
    rfl
end Go.Proofs.Ytgjgjnahdkoofaa.byt
