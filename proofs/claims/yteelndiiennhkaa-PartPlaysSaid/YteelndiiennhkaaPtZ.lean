/- Both sides side by side. -/
import Derived.Test.YteelndiiennhkaaPtR
set_option linter.unusedVariables false
set_option linter.unusedSimpArgs false
set_option maxRecDepth 100000
namespace Go.Proofs.Yteelndiiennhkaa.ptZ
open Go.ChangeShapes Go.WideShapes Go.ChangeAt Go.RowKit Go.Deep
open opG opO hlcA gen ptM ptL ptN ptG ptA ptJ ptQ ptR

/-- the document's side, of a color of its own -/
def XD (q : Nat) (S : Pt) : Wh := fun col V => DocAt col 2 V q S
theorem st_XD {d q : Nat} {S : Pt} (h2 : 2 ≠ d) : St d (XD q S) := fun _ _ _ _ hg he h => DocAt.other h hg h2 he
abbrev zD (w : World) : World := w.alloc (.cells #[.int .u64 0, .slice none 0 0] TD)
section
variable {w V V' : World} {p q B : Nat} {S Y Y' : Pt} {o : Oq} {X Z : Wh}
theorem j_rot (h : J w (X2 X (X2 (XD q Y) Z)) V) : J w (X2 (XD q Y) (X2 X Z)) V := by
  obtain ⟨col, h1, h2, h3, h4⟩ := h
  exact ⟨col, h1, h3, h2, h4⟩
theorem j_rot' (h : J w (X2 (XD q Y) (X2 X Z)) V) : J w (X2 X (X2 (XD q Y) Z)) V := by
  obtain ⟨col, h1, h2, h3, h4⟩ := h
  exact ⟨col, h1, h3, h2, h4⟩
theorem j_dlv {F : FuncId} {args : Array Value} {v : Value} (h : J w (X2 (XS p S) (X2 (XD q Y) Z)) V) (hZ : St 2 Z)
    (hcall : ∀ col, Fresh col V → DocAt col 2 V q Y → Calls Try.prog F args V (fun e w' => e = .returned v ∧ DLv col 2 q Y' V w')) : Calls Try.prog F args V fun e w' => e = .returned v ∧ J w (X2 (XS p S) (X2 (XD q Y') Z)) w' := by
  have h' := j_rot h
  obtain ⟨col, h1, h2, h3⟩ := h'
  refine (hcall col h1.fr h2).mono ?_
  rintro e w' ⟨hE, col', hC, hD⟩
  exact ⟨hE, j_rot' ⟨col', h1.go hC (by decide), hD, st_X2 (st_XS (by decide)) hZ _ _ _ _ hC.2.2 hC.1 h3⟩⟩
theorem jd_prepare (h : J w (X2 (XS p S) (X2 (XD q Y) Z)) V) (hZ : St 2 Z) (hok : Y.ok) (hn : Y.os.length ≤ 1000) (ho : kOp o) : Calls Try.prog 9 #[.pointer (some ⟨q, 0, none⟩), .int .u64 o.tx, .int .u64 o.t, .int .i64 o.ms] V fun e w' =>
    e = .returned (.tuple #[.int .u64 (prT Y o.tx o.t o.ms), .int .i64 (prE Y o.tx o.t o.ms)]) ∧ J w (X2 (XS p S) (X2 (XD q (prS Y o.tx o.t o.ms)) Z)) w' :=
  j_dlv h hZ fun col hf hd => dprepare_at V hd hf hok hn ho.t0 (by have := ho.t1; omega)
theorem jd_commit (h : J w (X2 (XS p S) (X2 (XD q Y) Z)) V) (hZ : St 2 Z) (hok : Y.ok) (hn : Y.os.length ≤ 1000) (ho : kOp o) : Calls Try.prog 11 #[.pointer (some ⟨q, 0, none⟩), .int .u64 o.tx, .int .u64 o.t, .int .i64 o.ms] V fun e w' =>
    e = .returned (.int .i64 (coE Y o.tx o.t o.ms)) ∧ J w (X2 (XS p S) (X2 (XD q (coS Y o.tx o.t o.ms)) Z)) w' :=
  j_dlv h hZ fun col hf hd => dcommit_at V hd hf hok hn ho.t0 (by have := ho.t1; omega)
theorem jd_stable (h : J w (X2 (XS p S) (X2 (XD q Y) Z)) V) (hZ : St 2 Z) (hok : Y.ok) (hn : Y.os.length ≤ 1000) (ms : Int) : Calls Try.prog 13 #[.pointer (some ⟨q, 0, none⟩), .int .i64 ms] V fun e w' =>
    e = .returned (.tuple #[.int .u64 (sbT Y ms), .int .i64 (sbE ms)]) ∧ J w (X2 (XS p S) (X2 (XD q (sbS Y ms)) Z)) w' :=
  j_dlv h hZ fun col hf hd => dstable_at V hd hf hok hn ms
theorem jd_see (h : J w (X2 (XS p S) (X2 (XD q Y) Z)) V) (hZ : St 2 Z) (t : Int) : Calls Try.prog 15 #[.pointer (some ⟨q, 0, none⟩), .int .u64 t] V fun e w' =>
    e = .returned (.tuple #[]) ∧ J w (X2 (XS p S) (X2 (XD q (seS Y t)) Z)) w' :=
  j_dlv h hZ fun col hf hd => dsee_at V hd hf t
theorem st9d (hZ : St 9 Z) : St 9 (X2 (XS p S) (X2 (XD q Y) Z)) := st_X2 (st_XS (by decide)) (st_X2 (st_XD (by decide)) hZ)
theorem jd_box (h : J w (X2 (XS p S) (X2 (XD q Y) Z)) V) (hZ : St 9 Z) (o : Oq) : J w (X2 (XS p S) (X2 (XD q Y) (X2 (XB V.heap.size o) Z))) (V.alloc (.cells (cO o) 31)) := by
  obtain ⟨col, h1, h2, h3, h4, h5⟩ := j_box h (st9d hZ) o
  exact ⟨col, h1, h3, h4, h2, h5⟩
theorem jd_o4 (h : J w (X2 (XS p S) (X2 (XD q Y) (X2 (XB B o) Z))) V) : O4 B 0 o V := by
  obtain ⟨col, h1, h2, h3, h4, h5⟩ := h
  exact h4.1
theorem jd_drop (h : J w (X2 (XS p S) (X2 (XD q Y) (X2 (XB B o) Z))) V) : J w (X2 (XS p S) (X2 (XD q Y) Z)) V := by
  obtain ⟨col, h1, h2, h3, h4, h5⟩ := h
  exact ⟨col, h1, h2, h3, h5⟩
theorem jd_cells (h : J w (X2 (XS p S) (X2 (XD q Y) Z)) V) : ∃ A cA, V.cell? ⟨q, 0, none⟩ = some (.int .u64 Y.ck) ∧ V.cell? ⟨q, 1, none⟩ = some (.slice A Y.os.length cA) := by
  obtain ⟨col, h1, h2, ⟨A, cA, h3⟩, h4⟩ := h
  exact ⟨A, cA, h3.cells.1, h3.cells.2.1⟩
theorem jq_open (h : J w (X2 (XS p S) X) V) (n : Nat) : Calls Try.prog 16 #[.pointer (some ⟨p, 0, none⟩)] (V.drewN n) fun e w' => e = .returned (.int .i64 (S.os.length : Int)) ∧ ∃ m, w' = V.drewN m := by
  obtain ⟨col, h1, h2, h3⟩ := h
  exact (open_at (V.drewN n) (h2.below (bdrN n (Below.refl _ _)))).mono fun e w' ⟨a, b⟩ => ⟨a, n, b.symm⟩
theorem jq_clock (h : J w (X2 (XS p S) X) V) (n : Nat) : Calls Try.prog 17 #[.pointer (some ⟨p, 0, none⟩)] (V.drewN n) fun e w' => e = .returned (.int .u64 S.ck) ∧ ∃ m, w' = V.drewN m := by
  obtain ⟨col, h1, h2, h3⟩ := h
  exact (clock_at (V.drewN n) (h2.below (bdrN n (Below.refl _ _)))).mono fun e w' ⟨a, b⟩ => ⟨a, n, b.symm⟩
theorem jd_start (h : J w (X2 (XS p S) XT) V) : J w (X2 (XS p S) (X2 (XD V.heap.size P0) XT)) (zD V) := by
  obtain ⟨col, h1, h2, -⟩ := h
  have hB := al0 V (.cells #[.int .u64 0, .slice none 0 0] TD)
  have hs : (zD V).heap.size = V.heap.size + 1 := by simp
  have hE : Ext V col (fun k => if k = V.heap.size then 2 else col k) := fun k hk => if_neg (by omega)
  have hg := Chg.of_below col 9 hB
  have hr := World.rowIs_alloc V #[.int .u64 0, .slice none 0 0] TD (cD 0 (.slice none 0 0)) (fun i hi => by
    rcases two (i := i) (by simpa using hi) with rfl | rfl <;> simp [cD])
  refine ⟨_, h1.go ⟨hE, fun k hk => ?_, hg⟩ (by decide), h2.other hg (by decide) hE, ⟨none, 0, hr, RO.nil_ _ _, if_pos rfl, fun k e => (by cases e)⟩, trivial⟩
  rw [hs] at hk
  show (if k = V.heap.size then 2 else col k) = 0
  rw [if_neg (by omega)]
  exact h1.fr k (by omega)
end
end Go.Proofs.Yteelndiiennhkaa.ptZ
