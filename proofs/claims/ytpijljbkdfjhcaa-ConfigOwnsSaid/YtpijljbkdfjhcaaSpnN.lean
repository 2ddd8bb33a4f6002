/- slices.Insert at texts and at integers, in one word for all of its roads: a row of the call's own gets one element more. -/
import Derived.Test.YtpijljbkdfjhcaaSpnL
import Derived.Laws.Rows
import Derived.Laws.OwnMore
set_option linter.unusedVariables false
namespace Go.Proofs.Ytpijljbkdfjhcaa.spnN
open Go.ChangeShapes Go.WideShapes Go.ChangeAt Go.RowKit Go.Shelf
open spnM spnA spnL

theorem blk_sets (g : Nat) (t : TypeId) : ∀ (vs : List Value) (o : Nat) (cs : Array Value) (w : World), w.heap[g]? = some (.cells cs t (0, 0)) → o + vs.length ≤ cs.size →
    ∃ cs' : Array Value, (w.setCells g o vs).heap[g]? = some (.cells cs' t (0, 0)) ∧ cs'.toList = cs.toList.take o ++ vs ++ cs.toList.drop (o + vs.length) ∧ cs'.size = cs.size
  | [], o, cs, w, h, _ => ⟨cs, h, by simp, rfl⟩
  | v :: r, o, cs, w, h, hl => by
    obtain ⟨cs', h1, h2, h3⟩ := blk_sets g t r (o + 1) (cs.setIfInBounds o v) (w.setCell ⟨g, o, none⟩ v) (heap_setCell_same w g o cs t v h) (by simp at hl ⊢; omega)
    refine ⟨cs', h1, ?_, by rw [h3]; simp⟩
    have ho : o < cs.toList.length := by simp at hl ⊢; omega
    rw [h2, Array.toList_setIfInBounds, List.take_succ_eq_append_getElem (by simpa using ho), List.getElem_set_self, List.take_set_of_le (Nat.le_refl o), List.drop_set_of_lt (by omega)]
    simp
    congr 1
    omega
theorem sets_other (g : Nat) : ∀ (vs : List Value) (o : Nat) (w : World) (k : Nat), k ≠ g → (w.setCells g o vs).heap[k]? = w.heap[k]?
  | [], _, _, _, _ => rfl
  | v :: r, o, w, k, h => by rw [World.setCells, sets_other g r _ _ k h]; exact heap_setCell_other _ _ _ _ h
theorem sets_size (g : Nat) : ∀ (vs : List Value) (o : Nat) (w : World), (w.setCells g o vs).heap.size = w.heap.size
  | [], _, _ => rfl
  | v :: r, o, w => by rw [World.setCells, sets_size g r]; simp
theorem sets_same (g : Nat) : ∀ (vs : List Value) (o : Nat) (w : World), (w.setCells g o vs).os = w.os ∧ (w.setCells g o vs).tape = w.tape ∧ (w.setCells g o vs).output = w.output
  | [], _, _ => ⟨rfl, rfl, rfl⟩
  | v :: r, o, w => by
    obtain ⟨h1, h2, h3⟩ := sets_same g r (o + 1) (w.setCell ⟨g, o, none⟩ v)
    exact ⟨h1, h2, h3⟩
theorem sets_grown (w w0 : World) (g o : Nat) (vs : List Value) (h : w.grownBy w0 (some g)) : w.grownBy (w0.setCells g o vs) (some g) := by
  obtain ⟨h1, h2, h3⟩ := sets_same g vs o w0
  exact ⟨h1.trans h.os, h2.trans h.tape, h3.trans h.output, by rw [sets_size]; exact h.size, fun k hk hn => (sets_other g vs o w0 k (fun e => hn (by rw [e]))).trans (h.block k hk hn)⟩
theorem grown_refl (w : World) (row : Option Nat) : w.grownBy w row := ⟨rfl, rfl, rfl, Nat.le_refl _, fun _ _ _ => rfl⟩
theorem grown_drew {w w0 : World} {row : Option Nat} (h : w.grownBy w0 row) : w.grownBy w0.drew row := ⟨h.os, h.tape, h.output, h.size, h.block⟩

/-- A row of the call's own is another one now: its cells, its length. -/
def Ins (T : TypeId) (base : Nat) (A : Option Addr) (n c k : Nat) (xs : List Value) (w : World) (e : Ending) (w' : World) : Prop :=
  ∃ A' c', e = .returned (.slice A' k c') ∧ w'.ownsRow base T 1 (.slice A' k c') k xs ∧ w.grownBy w' (Value.slice A n c).ownBlock ∧
    ((Value.slice A' k c').ownBlock = (Value.slice A n c).ownBlock ∨ ∃ b, (Value.slice A' k c').ownBlock = some b ∧ w.heap.size ≤ b)

section
variable {T : TypeId} {base g n c i : Nat} {xs : List Value} {x : Value} {w : World} {cur : Array Value}
/-- In place. -/
theorem ins_here (hb : base ≤ g) (hg : w.heap[g]? = some (.cells cur T (0, 0))) (hcm : c ≤ maxLen) (hcs : cur.size = c) (hl : xs.length = n) (htk : cur.toList.take n = xs) (hi : i ≤ n) (hr : n + 1 ≤ c) :
    Ins T base (some ⟨g, 0, none⟩) n c (n + 1) (xs.take i ++ x :: xs.drop i) w (.returned (.slice (some ⟨g, 0, none⟩) (n + 1) c)) ((w.drew.setCells g (i + 1) (xs.drop i)).setCells g i [x]) := by
  obtain ⟨c1, h1, h2, h3⟩ := blk_sets g T (xs.drop i) (i + 1) cur w.drew hg (by simp; omega)
  obtain ⟨c2, h4, h5, h6⟩ := blk_sets g T [x] i c1 _ h1 (by simp; omega)
  refine ⟨_, _, rfl, ⟨by simp; omega, .inr ⟨g, c, c2, rfl, hb, h4, hr, hcm, by omega, ?_⟩⟩, sets_grown _ _ _ _ _ (sets_grown _ _ _ _ _ (grown_drew (grown_refl w _))), .inl rfl⟩
  have ht : cur.toList.take i = xs.take i := by rw [← htk, List.take_take, Nat.min_eq_left hi]
  have hc1 : c1.toList.take i = xs.take i := by
    rw [h2, List.append_assoc, List.take_append_of_le_length (by simp; omega), List.take_take, Nat.min_eq_left (by omega), ht]
  have hc2 : c1.toList.drop (i + 1) = xs.drop i ++ cur.toList.drop (n + 1) := by
    rw [h2, List.append_assoc, List.drop_left' (by simp; omega)]
    congr 2
    simp; omega
  rw [h5, hc1, show i + [x].length = i + 1 from rfl, hc2, Nat.mul_one]
  rw [show xs.take i ++ [x] ++ (xs.drop i ++ cur.toList.drop (n + 1)) = (xs.take i ++ x :: xs.drop i) ++ cur.toList.drop (n + 1) by simp]
  rw [List.take_left' (by simp; omega)]
/-- At the end, in place. -/
theorem ins_end (hb : base ≤ g) (hg : w.heap[g]? = some (.cells cur T (0, 0))) (hcm : c ≤ maxLen) (hcs : cur.size = c) (hl : xs.length = n) (htk : cur.toList.take n = xs) (hr : n + 1 ≤ c) :
    Ins T base (some ⟨g, 0, none⟩) n c (n + 1) (xs.take n ++ x :: xs.drop n) w (.returned (.slice (some ⟨g, 0, none⟩) (n + 1) c)) (w.setCells g (0 + n) [x]) := by
  obtain ⟨c2, h4, h5, h6⟩ := blk_sets g T [x] (0 + n) cur w hg (by simp; omega)
  refine ⟨_, _, rfl, ⟨by simp; omega, .inr ⟨g, c, c2, rfl, hb, h4, hr, hcm, by omega, ?_⟩⟩, sets_grown _ _ _ _ _ (grown_refl w _), .inl rfl⟩
  rw [h5, Nat.mul_one, Nat.zero_add, htk, List.take_of_length_le (by omega : xs.length ≤ n), List.drop_of_length_le (by omega : xs.length ≤ n), List.take_left' (by simp; omega)]
/-- At the end, in new memory. -/
theorem ins_new (A : Option Addr) (hb : base ≤ w.heap.size) (hl : xs.length = n) (cap : Nat) (hcap : n + 1 ≤ cap) (hcm : cap ≤ maxLen) (Z : Array Value) (hZ : Z.size = cap - (n + 1)) :
    Ins T base A n c (n + 1) (xs.take n ++ x :: xs.drop n) w (.returned (.slice (some ⟨w.heap.size, 0, none⟩) (n + 1) cap)) (w.drew.alloc (.cells ((xs ++ [x]).toArray ++ Z) T)) := by
  refine ⟨_, _, rfl, ⟨by simp; omega, .inr ⟨w.heap.size, cap, _, rfl, hb, heap_alloc_new w.drew _, hcap, hcm, by simp; omega, ?_⟩⟩, ⟨rfl, rfl, rfl, by simp, fun k hk _ => Below.heap_alloc w.drew _ k hk⟩, .inr ⟨_, rfl, Nat.le_refl _⟩⟩
  rw [Nat.mul_one, List.take_of_length_le (by omega : xs.length ≤ n), List.drop_of_length_le (by omega : xs.length ≤ n)]
  simp only [Array.toList_append]
  rw [List.take_left' (by simp; omega)]
/-- In new memory. -/
theorem ins_grow (A : Option Addr) (hb : base ≤ w.heap.size) (hl : xs.length = n) (hi : i < n) (cap : Nat) (hcap : n + 1 ≤ cap) (hcm : cap ≤ maxLen) (Y Z : Array Value) (hY : Y.size = n + 1 - i) (hZ : Z.size = cap - (n + 1)) :
    Ins T base A n c (n + 1) (xs.take i ++ x :: xs.drop i) w (.returned (.slice (some ⟨w.heap.size, 0, none⟩) (n + 1) cap)) ((((w.alloc (.cells ((xs.take i).toArray ++ Y ++ Z) T)).drew.setCells w.heap.size i [x]).drew).setCells w.heap.size (i + 1) (xs.drop i)) := by
  have hsz : ((xs.take i).toArray ++ Y ++ Z).size = cap := by simp; omega
  obtain ⟨c1, h1, h2, h3⟩ := blk_sets w.heap.size T [x] i _ (w.alloc (.cells ((xs.take i).toArray ++ Y ++ Z) T)).drew (heap_alloc_new w _) (by rw [hsz]; simp; omega)
  obtain ⟨c2, h4, h5, h6⟩ := blk_sets w.heap.size T (xs.drop i) (i + 1) c1 (((w.alloc (.cells ((xs.take i).toArray ++ Y ++ Z) T)).drew.setCells w.heap.size i [x]).drew) h1 (by rw [h3, hsz]; simp; omega)
  have h0 : w.grownBy (w.alloc (.cells ((xs.take i).toArray ++ Y ++ Z) T)) (some w.heap.size) := ⟨rfl, rfl, rfl, by simp, fun k hk _ => Below.heap_alloc w _ k hk⟩
  have hg := sets_grown w _ w.heap.size (i + 1) (xs.drop i) (grown_drew (sets_grown w _ w.heap.size i [x] (grown_drew h0)))
  refine ⟨_, _, rfl, ⟨by simp; omega, .inr ⟨w.heap.size, cap, c2, rfl, hb, h4, hcap, hcm, by omega, ?_⟩⟩, ⟨hg.os, hg.tape, hg.output, hg.size, fun k hk _ => hg.block k hk (fun e => by cases e; omega)⟩, .inr ⟨_, rfl, Nat.le_refl _⟩⟩
  have hc1 : c1.toList.take (i + 1) = xs.take i ++ [x] := by
    rw [h2]
    simp only [Array.toList_append]
    rw [List.take_left' (by simp; omega), List.take_append_of_le_length (by simp; omega), List.take_append_of_le_length (by simp; omega), List.take_of_length_le (by simp; omega)]
  rw [h5, hc1, Nat.mul_one, List.take_left' (by simp; omega)]
  simp
end
theorem zsize (z : Value) (k : Nat) (h : z.cells.size = 1) : (Builtin.zeroCells z.cells k).size = k := by rw [size_zeroCells, h]; omega
theorem get_one {x v : Value} {j : Nat} (h : [x][j]? = some v) : j = 0 ∧ v = x := by
  cases j with
  | zero => simp at h; exact ⟨rfl, h.symm⟩
  | succ j => simp at h
theorem cell_of_take {w : World} {g n : Nat} {cur : Array Value} {T : TypeId} {xs : List Value} (hg : w.heap[g]? = some (.cells cur T (0, 0))) (htk : cur.toList.take n = xs) {j : Nat} {v : Value} (h : xs[j]? = some v) : w.cell? ⟨g, 0 + j, none⟩ = some v := by
  rw [Nat.zero_add]
  have hj : j < xs.length := (List.getElem?_eq_some_iff.1 h).1
  unfold World.cell?
  rw [hg]
  simp only [Option.isSome_none, Bool.false_eq_true, if_false]
  rw [← htk, List.getElem?_take] at h
  split at h
  · rw [← h]; simp
  · cases h
theorem cell_in {w : World} {g j : Nat} {cur : Array Value} {T : TypeId} (hg : w.heap[g]? = some (.cells cur T (0, 0))) (hj : j < cur.size) : (w.cell? ⟨g, j, none⟩).isSome = true := by
  unfold World.cell?
  rw [hg]
  simp [hj]
theorem shape_of {w : World} {g : Nat} {cur : Array Value} {T : TypeId} (hg : w.heap[g]? = some (.cells cur T (0, 0))) : w.shape? g = some (T, cur.size) := by
  unfold World.shape?
  rw [hg]
set_option maxRecDepth 100000 in
theorem insS (base n c i vb : Nat) (A : Option Addr) (xs : List Value) (x : ByteArray) (w : World) (hown : w.ownsRow base 9 1 (.slice A n c) n xs) (hi : i ≤ n) (h1 : ∀ v ∈ xs, v.oneCell' = true)
    (hvb : w.heap[vb]? = some (.cells #[.string x] 9 (0, 0))) (hne : (Value.slice A n c).ownBlock ≠ some vb) (hn : n ≤ 1000) (hc : c ≤ 9223372036854775807) (hb0 : base ≤ w.heap.size) :
    Calls Try.prog 60 #[.slice A n c, .int .i64 i, .slice (some ⟨vb, 0, none⟩) 1 1] w (Ins 9 base A n c (n + 1) (xs.take i ++ .string x :: xs.drop i) w) := by
  have hvs : ∀ j v, [Value.string x][j]? = some v → w.cell? ⟨vb, 0 + j, none⟩ = some v := fun j v h => by
    obtain ⟨rfl, rfl⟩ := get_one h
    exact cell_of_take hvb (n := 1) (xs := [Value.string x]) rfl rfl
  have h1v : ∀ v ∈ [Value.string x], v.oneCell' = true := fun v hv => by simp at hv; subst hv; rfl
  have hl : xs.length = n := by have := hown.1; omega
  have hge := grownCap_ge w (n + 1) c 9
  have hgl := grownCap_le_maxLen w (n + 1) c 9 (by unfold maxLen; omega)
  rcases hown.2 with ⟨e, rfl⟩ | ⟨g, cap, cur, e, hbg, hg, hnc, hcm, hcs, htk⟩
  · cases e
    obtain rfl : xs = [] := List.eq_nil_of_length_eq_zero hl
    obtain rfl : i = 0 := by omega
    refine (Any2.slices_Insert_string_end_grow laysS none 0 0 vb 0 1 1 [] [.string x] w (by omega) (by omega) (by omega) (by omega) rfl rfl (fun _ => rfl) (fun a h => by cases h) hvs h1v).mono ?_
    rintro e w' ⟨rfl, rfl⟩
    exact ins_new (xs := []) (n := 0) none hb0 rfl _ hge hgl _ (zsize _ _ rfl)
  · cases e
    rw [Nat.mul_one] at hcs htk
    have hcl : ∀ j v, xs[j]? = some v → w.cell? ⟨g, 0 + j, none⟩ = some v := fun j v h => cell_of_take hg htk h
    have hgv : vb ≠ g := fun e => hne (by rw [e]; rfl)
    by_cases hin : i = n
    · subst hin
      by_cases hr : i + 1 ≤ c
      · refine (Any2.slices_Insert_string_end_room laysS g 0 i c vb 0 1 1 [.string x] w (by omega) hr hc rfl (fun j hj => by rw [Nat.zero_add]; exact cell_in hg (by omega)) (fun j _ => frozen_of_row w g _ cur _ hg) hvs h1v).mono ?_
        rintro e w' ⟨rfl, rfl⟩
        exact ins_end hbg hg hcm (by omega) hl htk hr
      · refine (Any2.slices_Insert_string_end_grow laysS (some ⟨g, 0, none⟩) i c vb 0 1 1 xs [.string x] w (by omega) hnc (by omega) (by omega) hl rfl (fun h => by cases h) (fun a h j v hv => by cases h; rw [add_plain]; exact hcl j v hv) hvs h1v).mono ?_
        rintro e w' ⟨rfl, rfl⟩
        exact ins_new _ hb0 hl _ hge hgl _ (zsize _ _ rfl)
    · by_cases hr : n + 1 ≤ c
      · refine (Any2.slices_Insert_string_shift laysS g 0 n c i vb 0 1 1 xs [.string x] w (by omega) (by omega) hr hc hgv hl rfl hcl (fun j hj => by rw [Nat.zero_add]; exact cell_in hg (by omega)) (fun j _ => frozen_of_row w g _ cur _ hg) hvs h1 h1v
          _ _ _ _ (shape_of hvb) (shape_of hg) (by omega) (frozen_of_row w vb _ _ _ hvb) (frozen_of_row w vb _ _ _ hvb)).mono ?_
        rintro e w' ⟨rfl, rfl⟩
        rw [Nat.zero_add, Nat.zero_add]
        exact ins_here hbg hg hcm (by omega) hl htk hi hr
      · refine (Any2.slices_Insert_string_grow laysS g 0 n c i vb 0 1 1 xs [.string x] w (by omega) (by omega) hnc (by omega) (by omega) hl rfl hcl hvs h1 h1v).mono ?_
        rintro e w' ⟨rfl, rfl⟩
        exact ins_grow _ hb0 hl (by omega) _ hge hgl _ _ (zsize _ _ rfl) (zsize _ _ rfl)
set_option maxRecDepth 100000 in
theorem insI (base n c i vb : Nat) (A : Option Addr) (xs : List Value) (x : Int) (w : World) (hown : w.ownsRow base 3 1 (.slice A n c) n xs) (hi : i ≤ n) (h1 : ∀ v ∈ xs, v.oneCell' = true)
    (hvb : w.heap[vb]? = some (.cells #[.int .i64 x] 3 (0, 0))) (hne : (Value.slice A n c).ownBlock ≠ some vb) (hn : n ≤ 1000) (hc : c ≤ 9223372036854775807) (hb0 : base ≤ w.heap.size) :
    Calls Try.prog 61 #[.slice A n c, .int .i64 i, .slice (some ⟨vb, 0, none⟩) 1 1] w (Ins 3 base A n c (n + 1) (xs.take i ++ .int .i64 x :: xs.drop i) w) := by
  have hvs : ∀ j v, [Value.int .i64 x][j]? = some v → w.cell? ⟨vb, 0 + j, none⟩ = some v := fun j v h => by
    obtain ⟨rfl, rfl⟩ := get_one h
    exact cell_of_take hvb (n := 1) (xs := [Value.int .i64 x]) rfl rfl
  have h1v : ∀ v ∈ [Value.int .i64 x], v.oneCell' = true := fun v hv => by simp at hv; subst hv; rfl
  have hl : xs.length = n := by have := hown.1; omega
  have hge := grownCap_ge w (n + 1) c 3
  have hgl := grownCap_le_maxLen w (n + 1) c 3 (by unfold maxLen; omega)
  rcases hown.2 with ⟨e, rfl⟩ | ⟨g, cap, cur, e, hbg, hg, hnc, hcm, hcs, htk⟩
  · cases e
    obtain rfl : xs = [] := List.eq_nil_of_length_eq_zero hl
    obtain rfl : i = 0 := by omega
    refine (Any2.slices_Insert_int_end_grow laysI none 0 0 vb 0 1 1 [] [.int .i64 x] w (by omega) (by omega) (by omega) (by omega) rfl rfl (fun _ => rfl) (fun a h => by cases h) hvs h1v).mono ?_
    rintro e w' ⟨rfl, rfl⟩
    exact ins_new (xs := []) (n := 0) none hb0 rfl _ hge hgl _ (zsize _ _ rfl)
  · cases e
    rw [Nat.mul_one] at hcs htk
    have hcl : ∀ j v, xs[j]? = some v → w.cell? ⟨g, 0 + j, none⟩ = some v := fun j v h => cell_of_take hg htk h
    have hgv : vb ≠ g := fun e => hne (by rw [e]; rfl)
    by_cases hin : i = n
    · subst hin
      by_cases hr : i + 1 ≤ c
      · refine (Any2.slices_Insert_int_end_room laysI g 0 i c vb 0 1 1 [.int .i64 x] w (by omega) hr hc rfl (fun j hj => by rw [Nat.zero_add]; exact cell_in hg (by omega)) (fun j _ => frozen_of_row w g _ cur _ hg) hvs h1v).mono ?_
        rintro e w' ⟨rfl, rfl⟩
        exact ins_end hbg hg hcm (by omega) hl htk hr
      · refine (Any2.slices_Insert_int_end_grow laysI (some ⟨g, 0, none⟩) i c vb 0 1 1 xs [.int .i64 x] w (by omega) hnc (by omega) (by omega) hl rfl (fun h => by cases h) (fun a h j v hv => by cases h; rw [add_plain]; exact hcl j v hv) hvs h1v).mono ?_
        rintro e w' ⟨rfl, rfl⟩
        exact ins_new _ hb0 hl _ hge hgl _ (zsize _ _ rfl)
    · by_cases hr : n + 1 ≤ c
      · refine (Any2.slices_Insert_int_shift laysI g 0 n c i vb 0 1 1 xs [.int .i64 x] w (by omega) (by omega) hr hc hgv hl rfl hcl (fun j hj => by rw [Nat.zero_add]; exact cell_in hg (by omega)) (fun j _ => frozen_of_row w g _ cur _ hg) hvs h1 h1v
          _ _ _ _ (shape_of hvb) (shape_of hg) (by omega) (frozen_of_row w vb _ _ _ hvb) (frozen_of_row w vb _ _ _ hvb)).mono ?_
        rintro e w' ⟨rfl, rfl⟩
        rw [Nat.zero_add, Nat.zero_add]
        exact ins_here hbg hg hcm (by omega) hl htk hi hr
      · refine (Any2.slices_Insert_int_grow laysI g 0 n c i vb 0 1 1 xs [.int .i64 x] w (by omega) (by omega) hnc (by omega) (by omega) hl rfl hcl hvs h1 h1v).mono ?_
        rintro e w' ⟨rfl, rfl⟩
        exact ins_grow _ hb0 hl (by omega) _ hge hgl _ _ (zsize _ _ rfl) (zsize _ _ rfl)
end Go.Proofs.Ytpijljbkdfjhcaa.spnN
