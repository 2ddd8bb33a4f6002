/- slices.Clone and slices.Delete at texts and at integers, in the words of rows of the call's own. -/
import Derived.Test.YtpijljbkdfjhcaaSpnN
import Derived.Shelf.Slices.Clone
import Derived.Shelf.Slices.Delete
set_option linter.unusedVariables false
namespace Go.Proofs.Ytpijljbkdfjhcaa.spnP
open Go.ChangeShapes Go.WideShapes Go.ChangeAt Go.RowKit Go.Shelf
open spnM spnA spnL spnN

def renCS : Ren := ⟨fun | 16 => 49 | n => n, fun | 24 => 23 | n => n, fun n => n⟩
theorem laysCS : Lays2.n16 Try.prog renCS := {
  mixed := by kernel_rfl
  f16 := Try.func49.trans (congrArg some (by kernel_rfl))
  t4 := Try.underlying4
  a4 := Try.isAgg4
  z4 := Try.sizeOf4
  v4 := Try.zeroValue4
  t9 := Try.underlying9
  a9 := Try.isAgg9
  z9 := Try.sizeOf9
  v9 := Try.zeroValue9
  t24 := Try.underlying23
  a24 := Try.isAgg23
  z24 := Try.sizeOf23
  v24 := Try.zeroValue23
  i9 := by kernel_rfl }
def renCI : Ren := ⟨fun | 15 => 50 | n => n, fun | 22 => 24 | n => n, fun n => n⟩
theorem laysCI : Lays2.n15 Try.prog renCI := {
  mixed := by kernel_rfl
  f15 := Try.func50.trans (congrArg some (by kernel_rfl))
  t3 := Try.underlying3
  a3 := Try.isAgg3
  z3 := Try.sizeOf3
  v3 := Try.zeroValue3
  t4 := Try.underlying4
  a4 := Try.isAgg4
  z4 := Try.sizeOf4
  v4 := Try.zeroValue4
  t22 := Try.underlying24
  a22 := Try.isAgg24
  z22 := Try.sizeOf24
  v22 := Try.zeroValue24
  i3 := by kernel_rfl }
def renDS : Ren := ⟨fun | 24 => 63 | n => n, fun | 24 => 23 | n => n, fun n => n⟩
theorem laysDS : Lays2.n24 Try.prog renDS := {
  mixed := by kernel_rfl
  f24 := Try.func63.trans (congrArg some (by kernel_rfl))
  t0 := Try.underlying0
  a0 := Try.isAgg0
  z0 := Try.sizeOf0
  v0 := Try.zeroValue0
  t3 := Try.underlying3
  a3 := Try.isAgg3
  z3 := Try.sizeOf3
  v3 := Try.zeroValue3
  t4 := Try.underlying4
  a4 := Try.isAgg4
  z4 := Try.sizeOf4
  v4 := Try.zeroValue4
  t9 := Try.underlying9
  a9 := Try.isAgg9
  z9 := Try.sizeOf9
  v9 := Try.zeroValue9
  t24 := Try.underlying23
  a24 := Try.isAgg23
  z24 := Try.sizeOf23
  v24 := Try.zeroValue23
  i9 := by kernel_rfl }
def renDI : Ren := ⟨fun | 23 => 64 | n => n, fun | 22 => 24 | n => n, fun n => n⟩
theorem laysDI : Lays2.n23 Try.prog renDI := {
  mixed := by kernel_rfl
  f23 := Try.func64.trans (congrArg some (by kernel_rfl))
  t0 := Try.underlying0
  a0 := Try.isAgg0
  z0 := Try.sizeOf0
  v0 := Try.zeroValue0
  t3 := Try.underlying3
  a3 := Try.isAgg3
  z3 := Try.sizeOf3
  v3 := Try.zeroValue3
  t4 := Try.underlying4
  a4 := Try.isAgg4
  z4 := Try.sizeOf4
  v4 := Try.zeroValue4
  t22 := Try.underlying24
  a22 := Try.isAgg24
  z22 := Try.sizeOf24
  v22 := Try.zeroValue24
  i3 := by kernel_rfl }

/-! ### Clone -/
/-- What Clone answers: the same elements in new memory. -/
def Cln (T : TypeId) (n : Nat) (xs : List Value) (w : World) (e : Ending) (w' : World) : Prop :=
  ∃ A' c', e = .returned (.slice A' n c') ∧ w'.ownsRow w.heap.size T 1 (.slice A' n c') n xs ∧ Below w.heap.size w w'
theorem own_slice {w : World} {base n : Nat} {T : TypeId} {v : Value} {xs : List Value} (h : w.ownsRow base T 1 v n xs) : ∃ A c, v = .slice A n c := by
  rcases h.2 with ⟨rfl, rfl⟩ | ⟨g, cap, cur, rfl, _⟩
  · exact ⟨none, 0, rfl⟩
  · exact ⟨_, _, rfl⟩
theorem cln_of {w w' : World} {T : TypeId} {n : Nat} {v : Value} {xs : List Value} (h : w'.ownsRow w.heap.size T 1 v n xs) (hB : Below w.heap.size w w') : Cln T n xs w (.returned v) w' := by
  obtain ⟨A, c, rfl⟩ := own_slice h
  exact ⟨A, c, rfl, h, hB⟩
theorem cloneS (A : Option Addr) (n c : Nat) (l : List ByteArray) (w : World) (h : RL Value.string w A n l) (hn : A = none → n = 0) (hb : n * 16 ≤ 140737488355328) :
    Calls Try.prog 49 #[.slice A n c] w (Cln 9 n (l.map Value.string) w) := by
  have hl := h.1
  cases A with
  | none =>
    obtain rfl := hn rfl
    obtain rfl : l = [] := List.eq_nil_of_length_eq_zero hl
    refine (Any.slices_Clone_string_nil laysCS 0 c w).mono ?_
    rintro e w' ⟨rfl, rfl⟩
    exact cln_of (World.ownsRow_nil _ _ _ 1) (Below.refl _ _)
  | some a =>
    by_cases h0 : n = 0
    · subst h0
      obtain rfl : l = [] := List.eq_nil_of_length_eq_zero hl
      refine (Any.slices_Clone_string_zero laysCS a c w).mono ?_
      rintro e w' ⟨v', rfl, ho, _, hB⟩
      exact cln_of ho hB
    · obtain ⟨b, off, e, hlt, hc⟩ := h.at (show 0 < n by omega)
      cases e
      refine (Any.slices_Clone_string laysCS b off n c l w (by omega) hb (fun j hj => hc j (by omega))).mono ?_
      rintro e w' ⟨v', rfl, ho, _, hB⟩
      rw [List.take_of_length_le (by omega)] at ho
      exact cln_of ho hB
theorem cloneI (A : Option Addr) (n c : Nat) (l : List Int) (w : World) (h : RL (Value.int .i64) w A n l) (hn : A = none → n = 0) (hb : n * 8 ≤ 140737488355328) :
    Calls Try.prog 50 #[.slice A n c] w (Cln 3 n (l.map (Value.int .i64)) w) := by
  have hl := h.1
  cases A with
  | none =>
    obtain rfl := hn rfl
    obtain rfl : l = [] := List.eq_nil_of_length_eq_zero hl
    refine (Any.slices_Clone_int_nil laysCI 0 c w).mono ?_
    rintro e w' ⟨rfl, rfl⟩
    exact cln_of (World.ownsRow_nil _ _ _ 1) (Below.refl _ _)
  | some a =>
    by_cases h0 : n = 0
    · subst h0
      obtain rfl : l = [] := List.eq_nil_of_length_eq_zero hl
      refine (Any.slices_Clone_int_zero laysCI a c w).mono ?_
      rintro e w' ⟨v', rfl, ho, _, hB⟩
      exact cln_of ho hB
    · obtain ⟨b, off, e, hlt, hc⟩ := h.at (show 0 < n by omega)
      cases e
      refine (Any.slices_Clone_int laysCI b off n c l w (by omega) hb (fun j hj => hc j (by omega))).mono ?_
      rintro e w' ⟨v', rfl, ho, _, hB⟩
      rw [List.take_of_length_le (by omega)] at ho
      exact cln_of ho hB

/-! ### Delete -/
section
variable {α : Type} [Inhabited α]
theorem put_blk (enc : α → Value) (w : World) (g q : Nat) (d : Array α) (cur : Array Value) (T : TypeId) (hg : w.heap[g]? = some (.cells cur T (0, 0))) :
    (Sort.putRow enc (Sort.ahead w q) g 0 d).heap[g]? = some (.cells (Sort.putCells enc 0 d cur) T (0, 0)) := by
  unfold Sort.putRow Sort.mapBlock
  show (w.heap.modify g _)[g]? = _
  rw [Array.getElem?_modify, if_pos rfl, hg]
  rfl
theorem put_take (enc : α → Value) (d : Array α) (cur : Array Value) (k : Nat) (hk : k ≤ d.size) (hc : d.size ≤ cur.size) : (Sort.putCells enc 0 d cur).toList.take k = (d.toList.take k).map enc := by
  apply List.ext_getElem?
  intro j
  rw [List.getElem?_map, List.getElem?_take, List.getElem?_take]
  by_cases hj : j < k
  · rw [if_pos hj, if_pos hj]
    unfold Sort.putCells
    rw [Array.getElem?_toList, Array.getElem?_mapIdx, Array.getElem?_eq_getElem (by omega), Array.getElem?_toList, Array.getElem?_eq_getElem (by omega)]
    simp only [Option.map_some, Option.some.injEq]
    rw [if_pos ⟨by omega, by omega⟩, Nat.sub_zero, getElem!_pos d j (by omega)]
  · rw [if_neg hj, if_neg hj]; rfl
theorem put_grown (enc : α → Value) (w : World) (g q : Nat) (d : Array α) : w.grownBy (Sort.putRow enc (Sort.ahead w q) g 0 d) (some g) := by
  refine ⟨rfl, rfl, rfl, ?_, fun k hk hn => ?_⟩
  · show w.heap.size ≤ (w.heap.modify g _).size; simp
  · show (w.heap.modify g _)[k]? = w.heap[k]?
    rw [Array.getElem?_modify, if_neg (fun e => hn (by rw [e]))]
theorem del_here (enc : α → Value) {T : TypeId} {base g n c i q : Nat} {l : List α} {z : α} {w : World} {cur : Array Value} (hb : base ≤ g) (hg : w.heap[g]? = some (.cells cur T (0, 0))) (hcm : c ≤ maxLen) (hcs : cur.size = c) (hl : l.length = n) (hi : i < n) (hnc : n ≤ c) :
    Ins T base (some ⟨g, 0, none⟩) n c (n - 1) ((delA l i).map enc) w (.returned (.slice (some ⟨g, 0, none⟩) (n - 1) c)) (Sort.putRow enc (Sort.ahead w q) g 0 (l.take i ++ l.drop (i + 1) ++ List.replicate 1 z).toArray) := by
  have hsz : (l.take i ++ l.drop (i + 1) ++ List.replicate 1 z).toArray.size = n := by simp; omega
  have hd := delA_len l i (by omega)
  refine ⟨_, _, rfl, ⟨by simp; omega, .inr ⟨g, c, _, rfl, hb, put_blk enc w g q _ cur T hg, by omega, hcm, by unfold Sort.putCells; simp; omega, ?_⟩⟩, put_grown enc w g q _, .inl rfl⟩
  rw [Nat.mul_one, put_take enc _ cur (n - 1) (by omega) (by omega)]
  congr 1
  show List.take (n - 1) (l.take i ++ l.drop (i + 1) ++ List.replicate 1 z) = delA l i
  rw [List.take_left' (by simp; omega)]
  rfl
end
theorem delS (base n c i : Nat) (A : Option Addr) (l : List ByteArray) (j : Int) (w : World) (hown : w.ownsRow base 9 1 (.slice A n c) n (l.map Value.string)) (hi : i < n) (hj : j = (i : Int) + 1) (hc : c ≤ 9223372036854775807) :
    Calls Try.prog 63 #[.slice A n c, .int .i64 i, .int .i64 j] w (Ins 9 base A n c (n - 1) ((delA l i).map Value.string) w) := by
  subst hj
  have hl : l.length = n := by have := hown.1; simp at this; omega
  rcases hown.2 with ⟨e, rfl⟩ | ⟨g, cap, cur, e, hbg, hg, hnc, hcm, hcs, htk⟩
  · omega
  · cases e
    rw [Nat.mul_one] at hcs htk
    have hz : (l.map fun s : ByteArray => s.data.toList).length = n := by simp; omega
    have henc : ∀ s : ByteArray, encStr s.data.toList = Value.string s := fun s => by cases s; simp [encStr]
    have hH : Sort.Holds encStr w g 0 (l.map fun s : ByteArray => s.data.toList).toArray := fun k hk => by
      have hk' : k < l.length := by simpa using hk
      refine ⟨?_, frozen_of_row w g _ cur _ hg⟩
      rw [getElem!_pos _ k hk]
      simp only [List.getElem_toArray, List.getElem_map]
      rw [henc]
      refine cell_of_take hg htk ?_
      rw [List.getElem?_map, List.getElem?_eq_getElem hk']; rfl
    have h := Any.slices_Delete_string laysDS g 0 c i (i + 1) (l.map fun s : ByteArray => s.data.toList) w hH (by omega) hc (by omega) (by omega)
    rw [hz, show i + 1 - i = 1 by omega] at h
    refine h.mono ?_
    rintro e w' ⟨rfl, q, rfl⟩
    have hd := del_here (α := List UInt8) encStr (l := l.map fun s : ByteArray => s.data.toList) (z := []) (q := q) hbg hg hcm (by omega) hz hi hnc
    have hm : (delA (l.map fun s : ByteArray => s.data.toList) i).map encStr = (delA l i).map Value.string := by
      unfold delA
      rw [List.map_append, List.map_append, List.map_take, List.map_drop, List.map_take, List.map_drop, List.map_map]
      have : (encStr ∘ fun s : ByteArray => s.data.toList) = Value.string := funext henc
      rw [this]
    rw [hm] at hd
    exact hd
theorem delI (base n c i : Nat) (A : Option Addr) (l : List Int) (j : Int) (w : World) (hown : w.ownsRow base 3 1 (.slice A n c) n (l.map (Value.int .i64))) (hi : i < n) (hj : j = (i : Int) + 1) (hc : c ≤ 9223372036854775807) :
    Calls Try.prog 64 #[.slice A n c, .int .i64 i, .int .i64 j] w (Ins 3 base A n c (n - 1) ((delA l i).map (Value.int .i64)) w) := by
  subst hj
  have hl : l.length = n := by have := hown.1; simp at this; omega
  rcases hown.2 with ⟨e, rfl⟩ | ⟨g, cap, cur, e, hbg, hg, hnc, hcm, hcs, htk⟩
  · omega
  · cases e
    rw [Nat.mul_one] at hcs htk
    have hH : Sort.Holds (Value.int .i64) w g 0 l.toArray := fun k hk => by
      have hk' : k < l.length := by simpa using hk
      refine ⟨?_, frozen_of_row w g _ cur _ hg⟩
      rw [getElem!_pos _ k hk]
      simp only [List.getElem_toArray]
      refine cell_of_take hg htk ?_
      rw [List.getElem?_map, List.getElem?_eq_getElem hk']; rfl
    have h := Any.slices_Delete_int laysDI g 0 c i (i + 1) l w hH (by omega) hc (by omega) (by omega)
    rw [hl, show i + 1 - i = 1 by omega] at h
    refine h.mono ?_
    rintro e w' ⟨rfl, q, rfl⟩
    exact del_here (Value.int .i64) (z := 0) (q := q) hbg hg hcm (by omega) hl hi hnc
end Go.Proofs.Ytpijljbkdfjhcaa.spnP
