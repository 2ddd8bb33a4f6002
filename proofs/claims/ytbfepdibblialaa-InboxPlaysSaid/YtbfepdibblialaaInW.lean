/- Rows that begin anywhere in a block of the call's own, as one is whose first was cut off: reads, stores, the cut of the first, append. -/
import Derived.Test.YtbfepdibblialaaGen
set_option linter.unusedVariables false
set_option linter.unusedSimpArgs false
namespace Go.Proofs.Ytbfepdibblialaa.inW
open Go.ChangeShapes Go.WideShapes Go.ChangeAt Go.RowKit Go.Deep
open gen

def Win (w : World) (base : Nat) (e : TypeId) (size : Nat) (A : Option Addr) (n cap : Nat) (xs : List Value) : Prop :=
  xs.length = n * size ∧ ((A = none ∧ n = 0 ∧ cap = 0) ∨ ∃ g o, ∃ cur : Array Value, A = some ⟨g, o, none⟩ ∧ base ≤ g ∧ w.heap[g]? = some (.cells cur e (0, 0)) ∧ n ≤ cap ∧ cap ≤ maxLen ∧ o + cap * size ≤ cur.size ∧ (cur.toList.drop o).take (n * size) = xs)
section
variable {P : Program} {w w1 : World} {base b2 : Nat} {e : TypeId} {size : Nat} {A : Option Addr} {n cap : Nat} {xs : List Value}
theorem Win.nil (w : World) (base : Nat) (e : TypeId) (size : Nat) : Win w base e size none 0 0 [] := ⟨by simp, .inl ⟨rfl, rfl, rfl⟩⟩
theorem Win.of_own (h : w.ownsRow base e size (.slice A n cap) n xs) : Win w base e size A n cap xs := by
  refine ⟨h.1, ?_⟩
  rcases h.2 with ⟨h1, h2⟩ | ⟨g, cap', cur, h1, h2, h3, h4, h5, h6, h7⟩
  · simp only [Value.slice.injEq] at h1
    exact .inl ⟨h1.1, h2, h1.2.2⟩
  · simp only [Value.slice.injEq] at h1
    obtain ⟨rfl, -, rfl⟩ := h1
    exact .inr ⟨g, 0, cur, rfl, h2, h3, h4, h5, by omega, by simpa using h7⟩
theorem Win.cap_le (h : Win w base e size A n cap xs) : n ≤ cap ∧ cap ≤ 9223372036854775807 ∧ (A = none → cap = 0) := by
  rcases h.2 with ⟨rfl, rfl, rfl⟩ | ⟨g, o, cur, rfl, _, _, h4, h5, _⟩
  · exact ⟨by omega, by omega, fun _ => rfl⟩
  · exact ⟨h4, by unfold maxLen at h5; omega, fun e => by cases e⟩
theorem Win.ty (h : Win w base e size A n cap xs) {k : Nat} (hk : (Value.slice A n cap).ownBlock = some k) : base ≤ k ∧ ∃ cur, w.heap[k]? = some (.cells cur e (0, 0)) := by
  rcases h.2 with ⟨rfl, rfl, rfl⟩ | ⟨g, o, cur, rfl, hb, hg, _⟩
  · cases hk
  · cases hk
    exact ⟨hb, cur, hg⟩
theorem Win.lt (h : Win w base e size A n cap xs) {k : Nat} (hk : (Value.slice A n cap).ownBlock = some k) : k < w.heap.size := by
  obtain ⟨_, cur, hg⟩ := h.ty hk
  exact (Array.getElem?_eq_some_iff.1 hg).1
theorem Win.block (h : Win w base e size A n cap xs) (hk : ∀ k, (Value.slice A n cap).ownBlock = some k → w1.heap[k]? = w.heap[k]?) : Win w1 base e size A n cap xs := by
  refine ⟨h.1, ?_⟩
  rcases h.2 with h1 | ⟨g, o, cur, rfl, hb, hg, hr⟩
  · exact .inl h1
  · exact .inr ⟨g, o, cur, rfl, hb, (hk g rfl).trans hg, hr⟩
theorem Win.more (h : Win w base e size A n cap xs) (hb : b2 ≤ base) : Win w b2 e size A n cap xs := by
  refine ⟨h.1, ?_⟩
  rcases h.2 with h1 | ⟨g, o, cur, rfl, hb1, hr⟩
  · exact .inl h1
  · exact .inr ⟨g, o, cur, rfl, by omega, hr⟩
theorem Win.below (h : Win w base e size A n cap xs) (hB : Below w.heap.size w w1) : Win w1 base e size A n cap xs := h.block fun k hk => hB.block k (h.lt hk)
/-- where it lies -/
theorem Win.pos (h : Win w base e size A n cap xs) (hn : 0 < n) : ∃ g o, A = some ⟨g, o, none⟩ := by
  rcases h.2 with ⟨_, h0, _⟩ | ⟨g, o, cur, rfl, _⟩
  · omega
  · exact ⟨g, o, rfl⟩
theorem Win.cell {g o : Nat} (h : Win w base e size (some ⟨g, o, none⟩) n cap xs) {j : Nat} {u : Value} (hj : xs[j]? = some u) : w.cell? ⟨g, o + j, none⟩ = some u := by
  rcases h.2 with ⟨h0, _⟩ | ⟨g', o', cur, h1, _, hg, _, _, _, ht⟩
  · cases h0
  · cases h1
    rw [cell_of_row w g (o + j) cur e (0, 0) hg]
    rw [← ht, List.getElem?_take] at hj
    split at hj
    · rw [List.getElem?_drop] at hj; simpa using hj
    · cases hj
theorem Win.fz {g o : Nat} (h : Win w base e size (some ⟨g, o, none⟩) n cap xs) (j : Nat) : w.frozen? ⟨g, j, none⟩ = false := by
  rcases h.2 with ⟨h0, _⟩ | ⟨g', o', cur, h1, _, hg, _⟩
  · cases h0
  · cases h1
    simp [World.frozen?, hg]
theorem drop_take_set {α : Type} (l : List α) (o m j : Nat) (u : α) (hj : j < m) : ((l.set (o + j) u).drop o).take m = ((l.drop o).take m).set j u := by
  apply List.ext_getElem?
  intro i
  rw [List.getElem?_take, List.getElem?_set, List.getElem?_take, List.getElem?_drop, List.getElem?_set, List.getElem?_drop]
  simp only [List.length_take, List.length_drop]
  by_cases h1 : i < m
  · rw [if_pos h1]
    by_cases h2 : j = i
    · subst h2
      rw [if_pos rfl, if_pos rfl]
      by_cases h3 : o + j < l.length
      · rw [if_pos h3, if_pos (by omega)]
      · rw [if_neg h3, if_neg (by omega)]
    · rw [if_neg (by omega), if_neg h2, if_pos h1]
  · rw [if_neg h1, if_neg (by omega), if_neg h1]
theorem Win.store {g o : Nat} (h : Win w base e size (some ⟨g, o, none⟩) n cap xs) {j : Nat} (hj : j < n * size) (u : Value) : Win (w.setCell ⟨g, o + j, none⟩ u) base e size (some ⟨g, o, none⟩) n cap (xs.set j u) := by
  refine ⟨by rw [List.length_set]; exact h.1, ?_⟩
  rcases h.2 with ⟨h0, _⟩ | ⟨g', o', cur, h1, hb, hg, hn, hm, hs, ht⟩
  · cases h0
  · cases h1
    refine .inr ⟨g, o, cur.setIfInBounds (o + j) u, rfl, hb, heap_setCell_same w g (o + j) cur e u hg, hn, hm, by simpa using hs, ?_⟩
    rw [Array.toList_setIfInBounds, drop_take_set _ _ _ _ _ hj, ht]
/-! ### The cut of the first -/
def tlA (A : Option Addr) (cap size : Nat) : Option Addr := if cap = 1 then A else A.map (·.add (1 * size))
theorem Win.tail (h : Win w base e size A n cap xs) (hn : 0 < n) : Win w base e size (tlA A cap size) (n - 1) (cap - 1) (xs.drop size) := by
  obtain ⟨hl, h⟩ := h
  have hml : n * size = (n - 1) * size + size := by obtain ⟨k, rfl⟩ : ∃ k, n = k + 1 := ⟨n - 1, by omega⟩; simp [Nat.add_mul]
  refine ⟨by rw [List.length_drop, hl, hml]; omega, ?_⟩
  rcases h with ⟨_, h0, _⟩ | ⟨g, o, cur, rfl, hb, hg, hnc, hm, hs, ht⟩
  · omega
  · have hmc : cap * size = (cap - 1) * size + size := by obtain ⟨k, rfl⟩ : ∃ k, cap = k + 1 := ⟨cap - 1, by omega⟩; simp [Nat.add_mul]
    unfold tlA
    by_cases h1 : cap = 1
    · rw [if_pos h1]
      subst h1
      obtain rfl : n = 1 := by omega
      refine .inr ⟨g, o, cur, rfl, hb, hg, Nat.le_refl _, by unfold maxLen; omega, by omega, ?_⟩
      have : xs.drop size = [] := List.drop_of_length_le (by omega)
      rw [this]; simp
    · rw [if_neg h1]
      refine .inr ⟨g, o + size, cur, by simp only [Option.map_some, add_plain, Nat.one_mul], hb, hg, by omega, by omega, by omega, ?_⟩
      rw [← ht, List.drop_take, List.drop_drop, hml, Nat.add_sub_cancel]
theorem tlA_block (A : Option Addr) (n cap size n' c' : Nat) (hA : ∀ a, A = some a → a.spot = none) : (Value.slice (tlA A cap size) n' c').ownBlock = (Value.slice A n cap).ownBlock := by
  unfold tlA
  split
  · rcases A with _ | ⟨b, o, s⟩ <;> rfl
  · rcases A with _ | ⟨b, o, s⟩
    · rfl
    · obtain rfl : s = none := hA _ rfl
      simp only [Option.map_some, add_plain]
      rfl
theorem Win.plain (h : Win w base e size A n cap xs) : ∀ a, A = some a → a.spot = none := by
  intro a ha
  rcases h.2 with ⟨h0, _⟩ | ⟨g, o, cur, h0, _⟩
  · rw [h0] at ha; cases ha
  · rw [h0] at ha; cases ha; rfl
theorem run_tail {t : TypeId} {i : TypeInfo} (ht : P.underlying t = some (.slice e)) (hi : P.info? e = some i) (hsz : i.size = size) (A : Option Addr) (n cap : Nat) (hn : 0 < n) (hc : n ≤ cap) (w : World) :
    (Instr.slice t (.slice A n cap) (some (.int .i64 1)) none none).run P w = .ok (.slice (tlA A cap size) (n - 1) (cap - 1)) w := by
  subst hsz
  have h1 : ((1 : Int) ≤ (n : Int)) := by omega
  have h2 : (cap = 1) ↔ (cap = Int.toNat 1) := by constructor <;> intro h <;> exact h
  simp only [Instr.slice, Instr.sliceBounds, Instr.sliceBound, run_underlying ht, sizeOf, typeInfo, hi, asIntOf, Sem.run_bind, Sem.run_pure, Result.andThen_ok]
  simp [h1, hi, tlA]
/-! ### append -/
theorem run_win_room {t ty : TypeId} {i : TypeInfo} (ht : P.underlying t = some (.slice e)) (hi : P.info? e = some i)
    (g o sLen sCap : Nat) (cur : Array Value) (hg : w.heap[g]? = some (.cells cur e (0, 0)))
    (a : Addr) (m c : Nat) (news : List Value) (hl : news.length = m * i.size) (hnews : ∀ j u, news[j]? = some u → w.cell? (a.add j) = some u) (h1 : ∀ u ∈ news, u.oneCell' = true)
    (hroom : sLen + m ≤ sCap) (hfit : o + sLen * i.size + news.length ≤ cur.size) :
    (Builtin.append_ #[t, t] ty #[.slice (some ⟨g, o, none⟩) sLen sCap, .slice (some a) m c]).run P w =
      .ok (.slice (some ⟨g, o, none⟩) (sLen + m) sCap) (w.setRow g (cur.toList.take (o + sLen * i.size) ++ news ++ cur.toList.drop (o + sLen * i.size + news.length)).toArray) := by
  have hf := run_firstCells_some (P := P) w i.size m a m c news hl hnews
  have hst := run_storeCells_at P g (o + sLen * i.size) e news 0 cur w hg (by simpa using hfit) h1
  simp only [Nat.add_zero] at hst
  simp [Builtin.append_, run_underlying ht, sizeOf, typeInfo, hi, Builtin.lenOf, hroom, hf, Addr.add_lit, hst]
theorem run_win_nil {t ty : TypeId} {i : TypeInfo} (ht : P.underlying t = some (.slice e)) (hi : P.info? e = some i) (A B : Option Addr) (n cap c : Nat) (hn : n ≤ cap) :
    (Builtin.append_ #[t, t] ty #[.slice A n cap, .slice B 0 c]).run P w = .ok (.slice A n cap) w := by
  rcases A with _ | a <;> rcases B with _ | b <;> simp [Builtin.append_, run_underlying ht, sizeOf, typeInfo, hi, Builtin.lenOf, Builtin.firstCells, hn, storeCells, loadCells, loadCellsFrom]
theorem run_win (w : World) (base : Nat) (t ty e : TypeId) (i : TypeInfo) (z : Value) (size bytes : Nat) (ht : P.underlying t = some (.slice e)) (hi : P.info? e = some i) (hz : i.zero = some z)
    (hsize : i.size = size) (hby : i.bytes = bytes) (hzs : z.cells.size = size) (hsz : 0 < size) (A : Option Addr) (n cap : Nat) (xs : List Value) (hown : Win w base e size A n cap xs)
    (B : Option Addr) (m c : Nat) (ys : List Value) (hl : ys.length = m * size) (hst : Stand w B m ys) (h1 : ∀ u ∈ ys, u.oneCell' = true) (h63 : n + m ≤ maxLen) (hbytes : (n + m) * bytes ≤ 140737488355328) (hbase : base ≤ w.heap.size) :
    ∃ A' c' w', (Builtin.append_ #[t, t] ty #[.slice A n cap, .slice B m c]).run P w = .ok (.slice A' (n + m) c') w' ∧ Win w' base e size A' (n + m) c' (xs ++ ys) ∧ w.grownBy w' (Value.slice A n cap).ownBlock ∧ ((Value.slice A' (n + m) c').ownBlock = (Value.slice A n cap).ownBlock ∨ (Value.slice A' (n + m) c').ownBlock = some w.heap.size) := by
  rcases hown.2 with ⟨rfl, rfl, rfl⟩ | ⟨g, o, cur, rfl, hbg, hg, hnc, hcm, hcs, htake⟩
  · have hx : xs = [] := List.eq_nil_of_length_eq_zero (by simpa using hown.1)
    subst hx
    obtain ⟨A', c', w', hr, ho, hgr, hat⟩ := run_gen (P := P) w base t ty e i z size bytes ht hi hz hsize hby hzs hsz (.slice none 0 0) 0 [] (World.ownsRow_nil w base e size) B m c ys hl hst h1 h63 hbytes hbase
    exact ⟨A', c', w', hr, Win.of_own ho, hgr, hat⟩
  · by_cases hm : m = 0
    · subst hm
      have hy : ys = [] := List.eq_nil_of_length_eq_zero (by simpa using hl)
      subst hy
      exact ⟨_, _, w, run_win_nil ht hi _ _ n cap c hnc, by rw [List.append_nil]; exact hown, ⟨rfl, rfl, rfl, Nat.le_refl _, fun _ _ _ => rfl⟩, .inl rfl⟩
    · rcases hst with h0 | ⟨ad, rfl, hc⟩
      · exact absurd h0 hm
      · subst hsize
        subst hby
        have hlen : (xs ++ ys).length = (n + m) * i.size := by rw [List.length_append, hown.1, hl, Nat.add_mul]
        by_cases hroom : n + m ≤ cap
        · have hle : (n + m) * i.size ≤ cap * i.size := Nat.mul_le_mul_right _ hroom
          have hadd : (n + m) * i.size = n * i.size + m * i.size := Nat.add_mul _ _ _
          have hfit : o + n * i.size + ys.length ≤ cur.size := by omega
          have hr := run_win_room (P := P) (ty := ty) ht hi g o n cap cur hg ad m c ys hl hc h1 hroom hfit
          refine ⟨_, _, _, hr, ⟨hlen, .inr ⟨g, o, _, rfl, hbg, setRow_heap w g cur _ e _ hg, hroom, hcm, ?_, ?_⟩⟩, ⟨rfl, rfl, rfl, by simp, fun k _ hk => setRow_other w g k _ (fun e => hk (by simp [Value.ownBlock, e]))⟩, Or.inl rfl⟩
          · simp only [List.size_toArray, List.length_append, List.length_take, List.length_drop, Array.length_toList]
            omega
          · simp only [List.append_assoc]
            rw [List.drop_append_of_le_length (by simp; omega), List.drop_take, Nat.add_sub_cancel_left, htake, ← List.append_assoc, ← hlen]
            exact List.take_left
        · have holds : ∀ j u, xs[j]? = some u → w.cell? ((⟨g, o, none⟩ : Addr).add j) = some u := fun j u hj => by rw [add_plain]; exact hown.cell hj
          have hge := grownCap_ge w (n + m) cap e
          have hcm2 : grownCap w (n + m) cap e ≤ maxLen := grownCap_le_maxLen w (n + m) cap e h63
          have hsmall : n + m ≤ 9223372036854775807 := by simp only [maxLen] at h63; omega
          have hr := run_append_grow (P := P) w t ty e i z ht hi hz ⟨g, o, none⟩ n cap xs hown.1 holds ad m c ys hl hc (by omega) (by omega) (growslice_fits (by omega) hbytes)
          refine ⟨_, _, _, hr, ⟨hlen, .inr ⟨w.heap.size, 0, _, rfl, hbase, heap_alloc_new w.drew _, hge, hcm2, ?_, ?_⟩⟩, ⟨rfl, rfl, rfl, by simp, fun k hk _ => heap_alloc_old w.drew _ hk⟩, Or.inr rfl⟩
          · simp only [Array.size_append, List.size_toArray, size_zeroCells, hzs, hown.1, hl]
            have : grownCap w (n + m) cap e * i.size = (n + m) * i.size + (grownCap w (n + m) cap e - (n + m)) * i.size := by rw [← Nat.add_mul]; congr 1; omega
            have := Nat.add_mul n m i.size
            omega
          · simp only [Array.toList_append, List.append_assoc, List.drop_zero]
            rw [← List.append_assoc, ← hlen]
            exact List.take_left
theorem wpList_win {w : World} {ops : Array Oper} {rest : List Oper} {o : Oper} {a : Act} {Q : Exit → Act → World → Prop} (hgd : o.guard = none) (s x : Operand) (t : TypeId)
    (ho : o.op = .call { callee := .builtin .append, args := #[s, x], argTypes := #[t, t] })
    (base : Nat) (e : TypeId) (i : TypeInfo) (z : Value) (size bytes : Nat) (ht : P.underlying t = some (.slice e)) (hi : P.info? e = some i) (hz : i.zero = some z)
    (hsize : i.size = size) (hby : i.bytes = bytes) (hzs : z.cells.size = size) (hsz : 0 < size) (A : Option Addr) (n cap : Nat) (xs : List Value) (hs : a.eval s = .slice A n cap) (hown : Win w base e size A n cap xs)
    (B : Option Addr) (m c : Nat) (ys : List Value) (hx : a.eval x = .slice B m c) (hl : ys.length = m * size) (hst : Stand w B m ys) (h1 : ∀ u ∈ ys, u.oneCell' = true) (h63 : n + m ≤ maxLen) (hbytes : (n + m) * bytes ≤ 140737488355328) (hbase : base ≤ w.heap.size)
    (h : ∀ A' c' w', Win w' base e size A' (n + m) c' (xs ++ ys) → w.grownBy w' (Value.slice A n cap).ownBlock → ((Value.slice A' (n + m) c').ownBlock = (Value.slice A n cap).ownBlock ∨ (Value.slice A' (n + m) c').ownBlock = some w.heap.size) → wpList P ops Q rest (a.put o.dst (.slice A' (n + m) c')) w') : wpList P ops Q (o :: rest) a w := by
  refine wpList_plain hgd fun K hK => ?_
  obtain ⟨A', c', w', hr, h3, h4, h5⟩ := run_win (P := P) w base t o.type e i z size bytes ht hi hz hsize hby hzs hsz A n cap xs hown B m c ys hl hst h1 h63 hbytes hbase
  unfold Oper.wp execOp
  simp only [ho, resolve, invoke, builtin, Sem.run_bind, Sem.run_pure, Result.andThen_ok, List.map_toArray, List.map_cons, List.map_nil, hs, hx, hr]
  exact hK _ _ (h A' c' w' h3 h4 h5)
theorem step_win {w : World} {ops : Array Oper} {o : Oper} {a : Act} {K : Act → World → Prop} {Q : Exit → Act → World → Prop} {E : Prop} (hgd : o.guard = none) (s x : Operand) (t : TypeId)
    (ho : o.op = .call { callee := .builtin .append, args := #[s, x], argTypes := #[t, t] })
    (base : Nat) (e : TypeId) (i : TypeInfo) (z : Value) (size bytes : Nat) (ht : P.underlying t = some (.slice e)) (hi : P.info? e = some i) (hz : i.zero = some z)
    (hsize : i.size = size) (hby : i.bytes = bytes) (hzs : z.cells.size = size) (hsz : 0 < size) (A : Option Addr) (n cap : Nat) (xs : List Value) (hs : a.eval s = .slice A n cap) (hown : Win w base e size A n cap xs)
    (B : Option Addr) (m c : Nat) (ys : List Value) (hx : a.eval x = .slice B m c) (hl : ys.length = m * size) (hst : Stand w B m ys) (h1 : ∀ u ∈ ys, u.oneCell' = true) (h63 : n + m ≤ maxLen) (hbytes : (n + m) * bytes ≤ 140737488355328) (hbase : base ≤ w.heap.size)
    (h : ∀ A' c' w', Win w' base e size A' (n + m) c' (xs ++ ys) → w.grownBy w' (Value.slice A n cap).ownBlock → ((Value.slice A' (n + m) c').ownBlock = (Value.slice A n cap).ownBlock ∨ (Value.slice A' (n + m) c').ownBlock = some w.heap.size) → K (a.put o.dst (.slice A' (n + m) c')) w') :
    if Region.wanted o (yielded ops a.tmps) = true then Oper.wp P o a w K Q else E := by
  have hw : Region.wanted o (yielded ops a.tmps) = true := by simp [Region.wanted, hgd]
  rw [if_pos hw]
  obtain ⟨A', c', w', hr, h3, h4, h5⟩ := run_win (P := P) w base t o.type e i z size bytes ht hi hz hsize hby hzs hsz A n cap xs hown B m c ys hl hst h1 h63 hbytes hbase
  unfold Oper.wp
  simp [execOp, ho, resolve, invoke, builtin, hs, hx, hr, Result.andThen]
  exact h A' c' w' h3 h4 h5
end
end Go.Proofs.Ytbfepdibblialaa.inW
