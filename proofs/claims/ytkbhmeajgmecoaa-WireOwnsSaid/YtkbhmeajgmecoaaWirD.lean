/- Parts put behind one another: the contracts of joined and of put; numbers of a fixed width, texts and the byte for Gone as bytes, in the program and in the document's own answer. -/
import Derived.Test.YtkbhmeajgmecoaaWirA
import Derived.Maps.AppendAt
import Derived.Deep.AppendLies
namespace Go.Proofs.Ytkbhmeajgmecoaa.wirD
open Go.ChangeShapes Go.WideShapes Go.ChangeAt Go.RowKit
open numM numN rowA byt numA numB numC numD numE wirM wirA

theorem BL.kept {w w1 : World} {a : Option Addr} {n : Nat} {l : List Nat} {x : Option Nat} (h : BL w a n l) (hg : w.grownBy w1 x) (hx : ∀ y, a = some y → some y.block ≠ x) : BL w1 a n l := by
  refine ⟨h.1, h.2.1, h.2.2.1, h.2.2.2.imp id ?_⟩
  rintro ⟨b, off, rfl, hlt, hc⟩
  refine ⟨b, off, rfl, by have := hg.size; omega, fun i hi => ?_⟩
  rw [hg.cell_far ⟨b, off + i, none⟩ hlt (hx ⟨b, off, none⟩ rfl)]
  exact hc i hi

def lth (ls : List (List Nat)) (i : Nat) : List Nat := ls.getD i []
theorem lth_eq {ls : List (List Nat)} {i : Nat} (h : i < ls.length) : lth ls i = ls[i] := by simp [lth, h]
theorem flat_take {ls : List (List Nat)} {k : Nat} (h : k < ls.length) : (ls.take (k + 1)).flatten = (ls.take k).flatten ++ lth ls k := by
  rw [List.take_succ_eq_append_getElem h, List.flatten_append, lth_eq h]; simp
theorem flat_le (ls : List (List Nat)) (k : Nat) : (ls.take k).flatten.length ≤ ls.flatten.length := by
  conv => rhs; rw [← List.take_append_drop k ls]
  rw [List.flatten_append, List.length_append]; omega
theorem lth_le (ls : List (List Nat)) {k : Nat} (h : k < ls.length) : (ls.take k).flatten.length + (lth ls k).length ≤ ls.flatten.length := by
  have := flat_le ls (k + 1)
  rw [flat_take h, List.length_append] at this; exact this

/-- The n slices of bytes at a are ls; neither they nor what they hold lies in block x. -/
def Lst (x : Option Nat) (w : World) (a : Option Addr) (n : Nat) (ls : List (List Nat)) : Prop :=
  ls.length = n ∧ n ≤ 9223372036854775807 ∧ ∀ i, i < n → ∃ b off A m c, a = some ⟨b, off, none⟩ ∧ b < w.heap.size ∧ some b ≠ x ∧ w.cell? ⟨b, off + i, none⟩ = some (.slice A m c) ∧ BL w A m (lth ls i) ∧
    (∀ y, A = some y → some y.block ≠ x) ∧ (∀ y, A = some y → y.block < w.heap.size)
theorem Lst.kept {x z : Option Nat} {w w1 : World} {a : Option Addr} {n : Nat} {ls : List (List Nat)} (h : Lst x w a n ls) (hg : w.grownBy w1 z) (hz : z = x ∨ ∀ k, z = some k → w.heap.size ≤ k) : Lst x w1 a n ls := by
  refine ⟨h.1, h.2.1, fun i hi => ?_⟩
  obtain ⟨b, off, A, m, c, h1, h2, h3, h4, h5, h6, h7⟩ := h.2.2 i hi
  have e : ∀ k, k < w.heap.size → some k ≠ x → some k ≠ z := by
    intro k hk hx
    rcases hz with rfl | hz
    · exact hx
    · intro e; have := hz k e.symm; omega
  refine ⟨b, off, A, m, c, h1, by have := hg.size; omega, h3, ?_, BL.kept h5 hg (fun y hy => e _ (h7 y hy) (h6 y hy)), h6, fun y hy => by have := h7 y hy; have := hg.size; omega⟩
  rw [hg.cell_far ⟨b, off + i, none⟩ h2 (e _ h2 h3)]
  exact h4
theorem Lst.at {x : Option Nat} {w : World} {a : Option Addr} {n : Nat} {ls : List (List Nat)} (h : Lst x w a n ls) {i : Nat} (hi : i < n) :
    ∃ b off A m c, a = some ⟨b, off, none⟩ ∧ w.cell? ⟨b, off + i, none⟩ = some (.slice A m c) ∧ BL w A m (lth ls i) := by
  obtain ⟨b, off, A, m, c, h1, h2, h3, h4, h5, h6, h7⟩ := h.2.2 i hi
  exact ⟨b, off, A, m, c, h1, h4, h5⟩

section
variable {P : Program}
theorem run_app_at (w : World) (base : Nat) (t ty : TypeId) (i : TypeInfo) (ht : P.underlying t = some (.slice 5)) (hi : P.info? 5 = some i) (hz : i.zero = some (.int .u8 0)) (h1 : i.size = 1) (h2 : i.bytes = 1)
    {v : Value} {n : Nat} {l : List Nat} (hown : Own w base v n l) (A : Option Addr) (m c : Nat) {k : List Nat} (hb : BL w A m k) (hroom : n + m ≤ 140737488355328) (hbase : base ≤ w.heap.size) :
    ∃ v' w', (Builtin.append_ #[t, t] ty #[v, .slice A m c]).run P w = .ok v' w' ∧ Own w' base v' (n + m) (l ++ k) ∧ w.grownBy w' v.ownBlock ∧ (v'.ownBlock = v.ownBlock ∨ v'.ownBlock = some w.heap.size) := by
  have hl : (l ++ k).length = n + m := by rw [List.length_append, hown.1, hb.1]
  have hlt : ∀ c ∈ l ++ k, c < 256 := fun c hc => (List.mem_append.1 hc).elim (hown.2.1 c) (hb.2.2.1 c)
  by_cases hm : m = 0
  · subst hm
    have hk : k = [] := List.eq_nil_of_length_eq_zero hb.1
    subst hk
    refine ⟨v, w, run_app_nil w base t ty _ i ht hi hown.2.2.2 A c, ?_, ⟨rfl, rfl, rfl, Nat.le_refl _, fun _ _ _ => rfl⟩, .inl rfl⟩
    rw [List.append_nil]; exact hown
  · obtain ⟨b, off, rfl, _⟩ := hb.at (show 0 < m by omega)
    obtain ⟨v', w', hr, ho, hg, _, hat⟩ := run_append_own_at (P := P) w base t ty 5 i (.int .u8 0) 1 1 ht hi hz h1 h2 rfl (by decide) v n (ub l) hown.2.2.2 ⟨b, off, none⟩ m c (ub k) (by rw [ub_len, hb.1]; omega)
      (fun j u hu => by
        have hj : j < k.length := by
          have := (List.getElem?_eq_some_iff.1 hu).1
          rwa [ub_len] at this
        rw [ub_get k hj] at hu
        cases hu
        rcases hb.2.2.2 with h0 | ⟨b', off', e', _, h3⟩
        · omega
        · cases e'
          rw [add_plain]
          exact h3 j (by have := hb.1; omega)) (ub_one k) (by unfold maxLen; omega) (by omega) hbase
    rw [← ub_add] at ho
    exact ⟨v', w', hr, ⟨hl, hlt, by omega, ho⟩, hg, hat⟩
theorem wpList_app_at {w : World} {ops : Array Oper} {rest : List Oper} {o : Oper} {a : Act} {Q : Exit → Act → World → Prop} (hgd : o.guard = none) (s x : Operand) (t : TypeId)
    (ho : o.op = .call { callee := .builtin .append, args := #[s, x], argTypes := #[t, t] })
    (base : Nat) (i : TypeInfo) (ht : P.underlying t = some (.slice 5)) (hi : P.info? 5 = some i) (hz : i.zero = some (.int .u8 0)) (h1 : i.size = 1) (h2 : i.bytes = 1)
    (v : Value) (n : Nat) (l : List Nat) (hs : a.eval s = v) (hown : Own w base v n l) (A : Option Addr) (m c : Nat) (k : List Nat) (hx : a.eval x = .slice A m c) (hb : BL w A m k)
    (hroom : n + m ≤ 140737488355328) (hbase : base ≤ w.heap.size)
    (h : ∀ v' w', Own w' base v' (n + m) (l ++ k) → w.grownBy w' v.ownBlock → (v'.ownBlock = v.ownBlock ∨ v'.ownBlock = some w.heap.size) → wpList P ops Q rest (a.put o.dst v') w') : wpList P ops Q (o :: rest) a w := by
  refine wpList_plain hgd fun K hK => ?_
  obtain ⟨v', w', hr, h3, h4, h5⟩ := run_app_at (P := P) w base t o.type i ht hi hz h1 h2 hown A m c hb hroom hbase
  unfold Oper.wp execOp
  simp only [ho, resolve, invoke, builtin, Sem.run_bind, Sem.run_pure, Result.andThen_ok, List.map_toArray, List.map_cons, List.map_nil, hs, hx, hr]
  exact hK _ _ (h v' w' h3 h4 h5)
end

/-! ### joined -/
theorem grown_below {w w1 : World} {x : Option Nat} (hg : w.grownBy w1 x) (hx : ∀ k, x = some k → w.heap.size ≤ k) : Below w.heap.size w w1 := (Below.refl _ _).grown hg (Nat.le_refl _) hx
theorem below_grown0 {w w1 : World} (h : Below w.heap.size w w1) (x : Option Nat) : w.grownBy w1 x := ⟨h.os, h.tape, h.output, h.size, fun k hk _ => h.block k hk⟩
set_option maxRecDepth 100000 in
theorem joined_any (x : Option Nat) (a : Option Addr) (n c : Nat) (ls : List (List Nat)) (w : World) (h : Lst x w a n ls) (hsz : ls.flatten.length ≤ 1099511627776) :
    Calls Try.prog 48 #[.slice a n c] w (Makes w ls.flatten) := by
  obtain ⟨i0, hi, hz0, hz1, hz2⟩ := info_parts bytes8
  have hn := h.2.1
  have hln := Lib.hid h.1
  replace h := Lib.hid h
  go_enter Try.func48, Try.ntmps48
  go_wp2
  go_loopw [3, 8] (fun v i wr => ∃ k : Nat, k ≤ n ∧ i = .int .i64 k ∧ Hid (Own wr w.heap.size v (ls.take k).flatten.length (ls.take k).flatten) ∧ Hid (Below w.heap.size w wr)) (fun _ i _ => n - (intOf i).toNat)
  case atStart => exact ⟨0, by omega, rfl, Own.nil_ w _, Below.refl _ _⟩
  case round =>
    obtain ⟨k, hk, rfl, hown, hB⟩ := hrel
    by_cases hlt : k < n
    · have hll := Lib.hid (show k < ls.length by rw [hln.out]; exact hlt)
      obtain ⟨b, off, A, m, c, rfl, hc, hbl⟩ := (h.out.kept (below_grown0 hB.out none) (.inr (by intro k e; cases e))).at hlt
      have hbound := lth_le ls hll.out
      rw [hbl.1] at hbound
      have hsb := Lib.hid hB.out.size
      replace hbl := Lib.hid hbl
      go_wp2_with (at_builtin; (refine wpList_app rfl _ _ 31 rfl w.heap.size i0 Try.underlying31 hi hz0 hz1 hz2 _ _ (ls.take k).flatten rfl hown.out A m _ (lth ls k) rfl hbl.out ?c1 ?c2 ?_))
      case c1 => omega
      case c2 => exact hsb.out
      intro v' w1 hown1 hgrow
      have hBn := Lib.hid (hown.out.grown hB.out hgrow hsb.out)
      rw [← flat_take hll.out] at hown1
      have hown2 := Lib.hid (show Own w1 w.heap.size v' (ls.take (k + 1)).flatten.length (ls.take (k + 1)).flatten by rw [hown1.1]; exact hown1)
      clear hgrow hown1
      go_wp2
      go_roundw
      case rel => exact ⟨k + 1, by omega, by go_num, hown2, hBn⟩
      case measure => simp [intOf]; omega
    · obtain rfl : k = n := by omega
      rw [← hln.out, List.take_length] at hown
      clear h
      go_wp2
      go_ret
      exact Makes.of rfl hown.out hB.out

/-! ### put -/
/-- What put answers: bytes behind bytes, in the row that came in or in a new one. -/
def Puts (base : Nat) (w : World) (v : Value) (l : List Nat) (e : Ending) (w' : World) : Prop :=
  ∃ A cap, e = .returned (.slice A l.length cap) ∧ Own w' base (.slice A l.length cap) l.length l ∧ w.grownBy w' v.ownBlock ∧ ((Value.slice A l.length cap).ownBlock = v.ownBlock ∨ ∀ k, (Value.slice A l.length cap).ownBlock = some k → w.heap.size ≤ k)
theorem Puts.of {base n : Nat} {w w' : World} {v v' : Value} {l : List Nat} (hn : l.length = n) (h : Own w' base v' n l) (hg : w.grownBy w' v.ownBlock) (hat : v'.ownBlock = v.ownBlock ∨ ∀ k, v'.ownBlock = some k → w.heap.size ≤ k) : Puts base w v l (.returned v') w' := by
  subst hn
  obtain ⟨A, cap, rfl, _⟩ := h.form
  exact ⟨A, cap, rfl, h, hg, hat⟩
theorem grown_then {w w1 w2 : World} {x z : Option Nat} (h1 : w.grownBy w1 x) (h2 : w1.grownBy w2 z) (hz : z = x ∨ ∀ k, z = some k → w.heap.size ≤ k) : w.grownBy w2 x := by
  refine ⟨h2.os.trans h1.os, h2.tape.trans h1.tape, h2.output.trans h1.output, Nat.le_trans h1.size h2.size, fun k hk hx => ?_⟩
  rw [h2.block k (Nat.lt_of_lt_of_le hk h1.size) ?_, h1.block k hk hx]
  rcases hz with rfl | hz
  · exact hx
  · intro e; have := hz k e.symm; omega
set_option maxRecDepth 100000 in
theorem put_any (base : Nat) (v : Value) (n0 : Nat) (l : List Nat) (a : Option Addr) (n c : Nat) (ls : List (List Nat)) (w : World) (ho : Own w base v n0 l) (hb : base ≤ w.heap.size) (h : Lst v.ownBlock w a n ls) (hsz : l.length + ls.flatten.length ≤ 1099511627776) :
    Calls Try.prog 54 #[v, .slice a n c] w (Puts base w v (l ++ ls.flatten)) := by
  obtain ⟨i0, hi, hz0, hz1, hz2⟩ := info_parts bytes8
  have hn := h.2.1
  have hln := Lib.hid h.1
  replace h := Lib.hid h
  generalize hx : v.ownBlock = x at *
  replace hx := Lib.hid hx
  have hl0 := Lib.hid ho.1
  replace ho := Lib.hid ho
  go_enter Try.func54, Try.ntmps54
  go_wp2
  go_loopw [0, 5] (fun u i wr => ∃ k : Nat, k ≤ n ∧ i = .int .i64 k ∧ Hid (Own wr base u (l ++ (ls.take k).flatten).length (l ++ (ls.take k).flatten)) ∧ Hid (w.grownBy wr x) ∧ Hid (u.ownBlock = x ∨ ∀ k, u.ownBlock = some k → w.heap.size ≤ k)) (fun _ i _ => n - (intOf i).toNat)
  case atStart => exact ⟨0, by omega, rfl, by rw [List.take_zero, List.flatten_nil, List.append_nil, hl0.out]; exact ho, ⟨rfl, rfl, rfl, Nat.le_refl _, fun _ _ _ => rfl⟩, .inl hx.out⟩
  case round =>
    obtain ⟨k, hk, rfl, hown, hg, hat⟩ := hrel
    by_cases hlt : k < n
    · have hll := Lib.hid (show k < ls.length by rw [hln.out]; exact hlt)
      obtain ⟨b, off, A, m, c, rfl, hc, hbl⟩ := (h.out.kept hg.out (.inl rfl)).at hlt
      have hbound := lth_le ls hll.out
      rw [hbl.1] at hbound
      have hsb := Lib.hid hg.out.size
      replace hbl := Lib.hid hbl
      go_wp2_with (at_builtin; (refine wpList_app_at rfl _ _ 31 rfl base i0 Try.underlying31 hi hz0 hz1 hz2 _ _ (l ++ (ls.take k).flatten) rfl hown.out A m _ (lth ls k) rfl hbl.out ?c1 ?c2 ?_))
      case c1 => rw [List.length_append]; omega
      case c2 => have := hsb.out; omega
      intro v' w1 hown1 hgrow hat1
      have hgn := Lib.hid (grown_then hg.out hgrow hat.out)
      (try rw [List.append_assoc] at hown1)
      rw [← flat_take hll.out] at hown1
      have hown2 := Lib.hid (show Own w1 base v' (l ++ (ls.take (k + 1)).flatten).length (l ++ (ls.take (k + 1)).flatten) by rw [hown1.1]; exact hown1)
      have hat2 := Lib.hid (show v'.ownBlock = x ∨ ∀ k, v'.ownBlock = some k → w.heap.size ≤ k from by
        rcases hat1 with h1 | h1
        · rw [h1]; exact hat.out
        · exact .inr fun k e => by rw [h1] at e; cases e; exact hsb.out)
      clear hgrow hown1 hat1
      go_wp2
      go_roundw
      case rel => exact ⟨k + 1, by omega, by go_num, hown2, hgn, hat2⟩
      case measure => simp [intOf]; omega
    · obtain rfl : k = n := by omega
      rw [← hln.out, List.take_length] at hown
      clear h
      go_wp2
      go_ret
      exact Puts.of rfl hown.out (by rw [hx.out]; exact hg.out) (by rw [hx.out]; exact hat.out)
end Go.Proofs.Ytkbhmeajgmecoaa.wirD
