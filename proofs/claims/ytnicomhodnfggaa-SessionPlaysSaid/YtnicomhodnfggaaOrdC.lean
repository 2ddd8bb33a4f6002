/- The contract of strings.Clone; a version laid at a place of a row of the call's own. -/
import Derived.Test.YtnicomhodnfggaaOrdE
import Derived.Shelf.Pu.Clone
import Derived.Laws.OwnMore
import Derived.Deep.RegionLaw
import Derived.Deep.DeepCutAuto
import Derived.Deep.CutBlock
import Derived.Deep.CutRange
set_option linter.unusedVariables false
set_option linter.unusedSimpArgs false
set_option maxRecDepth 100000
namespace Go.Proofs.Ytnicomhodnfggaa.ordC
open Go.ChangeShapes Go.WideShapes Go.ChangeAt Go.RowKit Go.Deep Go.Shelf
open opV chnM gen chnA chnR chnE

def cl_ren : Go.Shelf.Ren := ⟨fun | 25 => 34 | n => n, fun | 0 => 0 | 3 => 3 | 4 => 4 | 5 => 5 | 9 => 9 | 37 => 68 | 47 => 69 | n => n, fun | n => n⟩
theorem cl_lay : Go.Proofs.LaysPu.n25 Try.prog cl_ren := {
  mixed := by kernel_rfl
  f25 := Try.func34.trans (congrArg some (by kernel_rfl))
  t0 := Try.underlying0
  a0 := Try.isAgg0
  z0 := Try.sizeOf0
  v0 := Try.zeroValue0
  i0 := by kernel_rfl
  t3 := Try.underlying3
  a3 := Try.isAgg3
  z3 := Try.sizeOf3
  v3 := Try.zeroValue3
  i3 := by kernel_rfl
  t4 := Try.underlying4
  a4 := Try.isAgg4
  z4 := Try.sizeOf4
  v4 := Try.zeroValue4
  i4 := by kernel_rfl
  t5 := Try.underlying5
  a5 := Try.isAgg5
  z5 := Try.sizeOf5
  v5 := Try.zeroValue5
  i5 := by kernel_rfl
  t9 := Try.underlying9
  a9 := Try.isAgg9
  z9 := Try.sizeOf9
  v9 := Try.zeroValue9
  i9 := by kernel_rfl
  t37 := Try.underlying68
  a37 := Try.isAgg68
  z37 := Try.sizeOf68
  v37 := Try.zeroValue68
  i37 := by kernel_rfl
  t47 := Try.underlying69
  a47 := Try.isAgg69
  z47 := Try.sizeOf69
  v47 := Try.zeroValue69
  i47 := by kernel_rfl }

theorem clone_any (s : ByteArray) (w : World) (h : s.size ≤ 281474976710656) : Calls Try.prog 27 #[.string s] w fun e w' => e = .returned (.string s) ∧ Below w.heap.size w w' := by
  go_enter Try.func27, Try.ntmps27
  go_wp2_with (fail)
  refine (AnyPu.stringslite_Clone cl_lay s w h).mono ?_
  rintro e w' ⟨rfl, hB⟩
  go_wp2
  go_ret
  exact ⟨rfl, hB⟩
/-- texts that may be copied -/
def Sm (l : List Ver) : Prop := ∀ v ∈ l, v.key.size ≤ 281474976710656 ∧ v.val.size ≤ 281474976710656
/-! ### A version laid at place i of a row of the call's own -/
theorem set_six {xs : List Value} {a : Nat} (v0 v1 v2 v3 v4 v5 : Value) (h : a + 6 ≤ xs.length) : ((((((xs.set a v0).set (a + 1) v1).set (a + 2) v2).set (a + 3) v3).set (a + 4) v4).set (a + 5) v5) = xs.take a ++ ([v0, v1, v2, v3, v4, v5] ++ xs.drop (a + 6)) := by
  apply List.ext_getElem
  · simp; omega
  · intro i h1 h2
    simp only [List.length_set] at h1
    simp only [List.getElem_set]
    rcases Nat.lt_or_ge i a with h3 | h3
    · rw [if_neg (by omega), if_neg (by omega), if_neg (by omega), if_neg (by omega), if_neg (by omega), if_neg (by omega), List.getElem_append_left (by simp; omega), List.getElem_take]
    · rw [List.getElem_append_right (by simp; omega)]
      have hl : (xs.take a).length = a := by simp; omega
      simp only [hl]
      rcases Nat.lt_or_ge i (a + 6) with h4 | h4
      · have : i = a ∨ i = a + 1 ∨ i = a + 2 ∨ i = a + 3 ∨ i = a + 4 ∨ i = a + 5 := by omega
        rcases this with rfl | rfl | rfl | rfl | rfl | rfl <;> simp
      · rw [if_neg (by omega), if_neg (by omega), if_neg (by omega), if_neg (by omega), if_neg (by omega), if_neg (by omega), List.getElem_append_right (by simp; omega), List.getElem_drop]
        congr 1
        simp; omega
theorem fl_set {m : List Ver} {i : Nat} {v : Ver} (hi : i < m.length) :
    (((((((fl m).set (i * 6) (.string v.key)).set (i * 6 + 1) (.string v.val)).set (i * 6 + 2) (.bool v.gone)).set (i * 6 + 3) (.int .u64 v.ts)).set (i * 6 + 4) (.int .i64 v.dc)).set (i * 6 + 5) (.int .i64 v.tx)) = fl (m.set i v) := by
  rw [set_six _ _ _ _ _ _ (by rw [fl_len]; omega), List.set_eq_take_append_cons_drop, if_pos hi, fl_app, fl_cons, fl_take, fl_drop]
  rw [show (i + 1) * 6 = i * 6 + 6 by omega]
  rfl
abbrev putAt (w : World) (g o : Nat) (v : Ver) : World := (((((w.setCell ⟨g, o, none⟩ (.string v.key)).setCell ⟨g, o + 1, none⟩ (.string v.val)).setCell ⟨g, o + 2, none⟩ (.bool v.gone)).setCell ⟨g, o + 3, none⟩ (.int .u64 v.ts)).setCell ⟨g, o + 4, none⟩ (.int .i64 v.dc)).setCell ⟨g, o + 5, none⟩ (.int .i64 v.tx)
theorem putAt_other {g k : Nat} (h : k ≠ g) (w : World) (o : Nat) (v : Ver) : (putAt w g o v).heap[k]? = w.heap[k]? := by
  unfold putAt
  rw [Below.heap_setCell _ _ _ _ h, Below.heap_setCell _ _ _ _ h, Below.heap_setCell _ _ _ _ h, Below.heap_setCell _ _ _ _ h, Below.heap_setCell _ _ _ _ h, Below.heap_setCell _ _ _ _ h]
theorem putAt_size (w : World) (g o : Nat) (v : Ver) : (putAt w g o v).heap.size = w.heap.size := by simp [putAt]
theorem stored6 {X : World} {g c n base : Nat} {xs : List Value} (h : X.ownsRow base 41 6 (.slice (some ⟨g, 0, none⟩) n c) n xs) (o : Nat) (v : Ver) :
    (putAt X g o v).ownsRow base 41 6 (.slice (some ⟨g, 0, none⟩) n c) n ((((((xs.set o (.string v.key)).set (o + 1) (.string v.val)).set (o + 2) (.bool v.gone)).set (o + 3) (.int .u64 v.ts)).set (o + 4) (.int .i64 v.dc)).set (o + 5) (.int .i64 v.tx)) :=
  ((((((h.stored o _).1.stored (o + 1) _).1.stored (o + 2) _).1.stored (o + 3) _).1.stored (o + 4) _).1.stored (o + 5) _).1
theorem putAt_below {B g : Nat} {w0 w : World} (h : Below B w0 w) (hg : B ≤ g) (o : Nat) (v : Ver) : Below B w0 (putAt w g o v) :=
  (((((h.setCell (p := ⟨g, o, none⟩) hg _).setCell (p := ⟨g, o + 1, none⟩) hg _).setCell (p := ⟨g, o + 2, none⟩) hg _).setCell (p := ⟨g, o + 3, none⟩) hg _).setCell (p := ⟨g, o + 4, none⟩) hg _).setCell (p := ⟨g, o + 5, none⟩) hg _
theorem made6 (n : Nat) : (madeCells (Value.agg #[.string { data := #[] }, .string { data := #[] }, .bool false, .int .u64 0, .int .i64 0, .int .i64 0]).cells (n * 6)).toList = fl (List.replicate n default) := by
  apply List.ext_getElem
  · rw [Array.length_toList, size_madeCells, fl_len, List.length_replicate]
  · intro i h1 h2
    rw [fl_len, List.length_replicate] at h2
    obtain ⟨u, hu0⟩ : ∃ u, (fl (List.replicate n (default : Ver)))[i]? = some u := ⟨_, List.getElem?_eq_getElem (by rw [fl_len, List.length_replicate]; exact h2)⟩
    have hr0 := (List.getElem?_eq_some_iff.1 hu0).2
    obtain ⟨a, j, e, hj, ha, hu⟩ := fl_at hu0
    refine Eq.trans ?_ hr0.symm
    clear hu0 hr0
    rw [List.length_replicate] at ha
    have hd : nt (List.replicate n (default : Ver)) a = default := by rw [nt_at (by simpa using ha), List.getElem_replicate]
    rw [hd] at hu
    have hr : i % 6 = j := by omega
    have hj' : j = 0 ∨ j = 1 ∨ j = 2 ∨ j = 3 ∨ j = 4 ∨ j = 5 := by omega
    simp only [madeCells, Array.getElem_toList, Array.getElem_map, Array.getElem_range, Value.cells, List.size_toArray, List.length_cons, List.length_nil, Nat.reduceAdd, hr]
    rcases hj' with rfl | rfl | rfl | rfl | rfl | rfl <;> (simp only [cL, default, Inhabited.default, List.getElem?_cons_zero, List.getElem?_cons_succ, Option.some.injEq] at hu; rw [← hu]; rfl)
end Go.Proofs.Ytnicomhodnfggaa.ordC
