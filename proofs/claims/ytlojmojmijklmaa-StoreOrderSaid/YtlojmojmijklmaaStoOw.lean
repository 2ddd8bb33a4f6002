/- A row of versions of the call's own in another order (for StoreOrder). -/
import Derived.Test.YtlojmojmijklmaaStoOs
import Derived.Test.YtlojmojmijklmaaStoMv
import Derived.Test.YtlojmojmijklmaaStoOn
import Derived.Test.YtlojmojmijklmaaOpS
import Derived.Test.YtlojmojmijklmaaChnI
import Derived.Test.YtlojmojmijklmaaChnJ
import Derived.Laws.Bits64
import Derived.Deep.RegionLaw
set_option linter.unusedVariables false
set_option maxRecDepth 100000
namespace Go.Proofs.Ytlojmojmijklmaa.stoOw
open Go.ChangeShapes Go.WideShapes Go.ChangeAt Go.RowKit Go.Deep
open opV opS chnM gen chnA chnB chnR chnI chnJ chnT stoM stoOs

theorem set_six {xs : List Value} {a : Nat} (v0 v1 v2 v3 v4 v5 : Value) (h : a + 6 ≤ xs.length) : ((((((xs.set a v0).set (a + 1) v1).set (a + 2) v2).set (a + 3) v3).set (a + 4) v4).set (a + 5) v5) = xs.take a ++ ([v0, v1, v2, v3, v4, v5] ++ xs.drop (a + 6)) := by
  apply List.ext_getElem
  · simp; omega
  · intro i h1 h2
    simp only [List.length_set] at h1
    simp only [List.getElem_set]
    rcases Nat.lt_or_ge i a with h3 | h3
    · rw [if_neg (by omega), if_neg (by omega), if_neg (by omega), if_neg (by omega), if_neg (by omega), if_neg (by omega), List.getElem_append_left (by simp; omega), List.getElem_take]
    · rw [List.getElem_append_right (by simp; omega)]
      have hl : (xs.take a).length = a := by simp; omega
      simp only [hl]
      rcases Nat.lt_or_ge i (a + 6) with h4 | h4
      · have : i = a ∨ i = a + 1 ∨ i = a + 2 ∨ i = a + 3 ∨ i = a + 4 ∨ i = a + 5 := by omega
        rcases this with rfl | rfl | rfl | rfl | rfl | rfl <;> simp
      · rw [if_neg (by omega), if_neg (by omega), if_neg (by omega), if_neg (by omega), if_neg (by omega), if_neg (by omega), List.getElem_append_right (by simp; omega), List.getElem_drop]
        congr 1
        simp; omega
theorem fl_set {m : List Ver} {i : Nat} {v : Ver} (hi : i < m.length) :
    (((((((fl m).set (i * 6) (.string v.key)).set (i * 6 + 1) (.string v.val)).set (i * 6 + 2) (.bool v.gone)).set (i * 6 + 3) (.int .u64 v.ts)).set (i * 6 + 4) (.int .i64 v.dc)).set (i * 6 + 5) (.int .i64 v.tx)) = fl (m.set i v) := by
  rw [set_six _ _ _ _ _ _ (by rw [fl_len]; omega), List.set_eq_take_append_cons_drop, if_pos hi, fl_app, fl_cons, fl_take, fl_drop]
  rw [show (i + 1) * 6 = i * 6 + 6 by omega]
  rfl
/-- a version is laid at place i of a row of the call's own -/
abbrev putAt (w : World) (g o : Nat) (v : Ver) : World := (((((w.setCell ⟨g, o, none⟩ (.string v.key)).setCell ⟨g, o + 1, none⟩ (.string v.val)).setCell ⟨g, o + 2, none⟩ (.bool v.gone)).setCell ⟨g, o + 3, none⟩ (.int .u64 v.ts)).setCell ⟨g, o + 4, none⟩ (.int .i64 v.dc)).setCell ⟨g, o + 5, none⟩ (.int .i64 v.tx)
/-- the row in another order -/
structure Ow (W : World) (L : List Ver) (A : Option Addr) (c : Nat) (m : List Ver) (X : World) : Prop where
  pm : Pm L m
  own : X.ownsRow W.heap.size 35 6 (.slice A L.length c) L.length (fl m)
  bel : Below W.heap.size W X
section
variable {W X X1 : World} {L m : List Ver} {A : Option Addr} {g c i k : Nat} {v : Ver}
theorem Ow.lt (h : Ow W L (some ⟨g, 0, none⟩) c m X) : W.heap.size ≤ g ∧ g < X.heap.size := World.ownsRow.lt h.own g rfl
theorem Ow.below (h : Ow W L A c m X) (hB : Below X.heap.size X X1) : Ow W L A c m X1 := ⟨h.pm, own_block h.own fun k e => hB.block k (World.ownsRow.lt h.own k e).2, trans0 h.bel hB⟩
theorem Ow.drew (h : Ow W L A c m X) : Ow W L A c m X.drew := ⟨h.pm, h.own, h.bel.drew⟩
theorem Ow.gv (h : Ow W L A c m X) : GV X W.heap.size A c m := by
  unfold GV; rw [h.pm.len]; exact h.own
theorem Ow.some_ (h : Ow W L A c m X) (hl : 0 < L.length) : ∃ g, A = some ⟨g, 0, none⟩ := by
  rcases h.own.2 with ⟨e, h0⟩ | ⟨g, _, _, e, _⟩
  · omega
  · simp only [Value.slice.injEq] at e
    exact ⟨g, e.1⟩
theorem Ow.v6 (h : Ow W L (some ⟨g, 0, none⟩) c m X) (hi : i < L.length) (hs : L.length ≤ 1000) : V6 g (i * 6) (nt m i) X := by
  have hv := h.gv.hv (by rw [h.pm.len]; omega)
  obtain ⟨b, off, e, _, hc⟩ := hv.at (i := i) (by rw [h.pm.len]; exact hi)
  simp only [Option.some.injEq, Addr.mk.injEq, and_true] at e
  obtain ⟨rfl, rfl⟩ := e
  rw [Nat.zero_add] at hc
  exact hc
theorem Ow.fz (h : Ow W L (some ⟨g, 0, none⟩) c m X) (o : Nat) : X.frozen? ⟨g, o, none⟩ = false := World.ownsRow.frozenAt h.own o
theorem stored6 {n base : Nat} {xs : List Value} (h : X.ownsRow base 35 6 (.slice (some ⟨g, 0, none⟩) n c) n xs) (o : Nat) (v : Ver) :
    (putAt X g o v).ownsRow base 35 6 (.slice (some ⟨g, 0, none⟩) n c) n ((((((xs.set o (.string v.key)).set (o + 1) (.string v.val)).set (o + 2) (.bool v.gone)).set (o + 3) (.int .u64 v.ts)).set (o + 4) (.int .i64 v.dc)).set (o + 5) (.int .i64 v.tx)) :=
  ((((((h.stored o _).1.stored (o + 1) _).1.stored (o + 2) _).1.stored (o + 3) _).1.stored (o + 4) _).1.stored (o + 5) _).1
theorem putAt_below {B : Nat} {w0 w : World} (h : Below B w0 w) (hg : B ≤ g) (o : Nat) (v : Ver) : Below B w0 (putAt w g o v) :=
  (((((h.setCell (p := ⟨g, o, none⟩) hg _).setCell (p := ⟨g, o + 1, none⟩) hg _).setCell (p := ⟨g, o + 2, none⟩) hg _).setCell (p := ⟨g, o + 3, none⟩) hg _).setCell (p := ⟨g, o + 4, none⟩) hg _).setCell (p := ⟨g, o + 5, none⟩) hg _
theorem Ow.swap (h : Ow W L (some ⟨g, 0, none⟩) c m X) (hi : i < L.length) (hk : k < L.length) : Ow W L (some ⟨g, 0, none⟩) c (sws m i k) (putAt (putAt X g (i * 6) (nt m k)) g (k * 6) (nt m i)) := by
  have hl := h.pm.len
  refine ⟨h.pm.swap (by omega) (by omega), ?_, putAt_below (putAt_below h.bel h.lt.1 _ _) h.lt.1 _ _⟩
  have h1 := stored6 h.own (i * 6) (nt m k)
  rw [fl_set (by omega)] at h1
  have h2 := stored6 h1 (k * 6) (nt m i)
  rw [fl_set (by simp; omega)] at h2
  exact h2
end
theorem pick (s : Int) (n : Nat) (h0 : 0 < n) (h4 : n ≤ 40) : ∃ i : Nat, i < n ∧ wrap64 ((IntKind.u64.wrap s).tmod (n : Int)) = (i : Int) := by
  have h1 : 0 ≤ IntKind.u64.wrap s := by rw [IntKind.wrap_u64]; omega
  have h2 := Int.emod_lt_of_pos (IntKind.u64.wrap s) (show (0 : Int) < (n : Int) by omega)
  have h3 := Int.emod_nonneg (IntKind.u64.wrap s) (show (n : Int) ≠ 0 by omega)
  rw [Int.tmod_eq_emod_of_nonneg h1]
  generalize IntKind.u64.wrap s % (n : Int) = q at *
  refine ⟨q.toNat, by omega, ?_⟩
  unfold wrap64
  omega
theorem emp_own (w : World) (base : Nat) (h : base ≤ w.heap.size) : (w.alloc (.cells #[] 35)).ownsRow base 35 6 (.slice (some ⟨w.heap.size, 0, none⟩) 0 0) 0 [] :=
  ⟨rfl, .inr ⟨w.heap.size, 0, #[], rfl, h, heap_alloc_new w _, by omega, by unfold maxLen; omega, rfl, rfl⟩⟩
/-- A copy of what came in is made out of an empty row. -/
theorem copied {w X w9 : World} {A9 : Option Addr} {c9 g : Nat} {a : List Ver} (hX : Below w.heap.size w X) (hgb : w.heap.size ≤ g) (ho : w9.ownsRow w.heap.size 35 6 (.slice A9 a.length c9) a.length (fl a)) (hg : X.grownBy w9 (Value.slice (some ⟨g, 0, none⟩) 0 0).ownBlock) :
    GV w9 w.heap.size A9 c9 a ∧ Below w.heap.size w w9 := ⟨ho, hX.grown hg hX.size (fun k e => by cases e; exact hgb)⟩
end Go.Proofs.Ytlojmojmijklmaa.stoOw
