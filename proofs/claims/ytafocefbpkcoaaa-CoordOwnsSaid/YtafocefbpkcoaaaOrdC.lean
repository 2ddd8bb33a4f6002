/- The contracts of strings.Clone and of both Copies of a commit. -/
import Derived.Test.YtafocefbpkcoaaaOrdA
import Derived.Shelf.Pu.Clone
import Derived.Laws.OwnMore
import Derived.Deep.RegionLaw
import Derived.Deep.DeepCutAuto
import Derived.Deep.CutBlock
import Derived.Deep.CutRange
set_option linter.unusedVariables false
set_option linter.unusedSimpArgs false
set_option maxRecDepth 100000
namespace Go.Proofs.Ytafocefbpkcoaaa.ordC
open Go.ChangeShapes Go.WideShapes Go.ChangeAt Go.RowKit Go.Deep Go.Shelf
open opV chnM gen chnA chnR chnE ordA

def cl_ren : Go.Shelf.Ren := ⟨fun | 25 => 46 | n => n, fun | 0 => 0 | 3 => 3 | 4 => 4 | 5 => 5 | 9 => 9 | 37 => 102 | 47 => 103 | n => n, fun | n => n⟩
theorem cl_lay : Go.Proofs.LaysPu.n25 Try.prog cl_ren := {
  mixed := by kernel_rfl
  f25 := Try.func46.trans (congrArg some (by kernel_rfl))
  t0 := Try.underlying0
  a0 := Try.isAgg0
  z0 := Try.sizeOf0
  v0 := Try.zeroValue0
  i0 := by kernel_rfl
  t3 := Try.underlying3
  a3 := Try.isAgg3
  z3 := Try.sizeOf3
  v3 := Try.zeroValue3
  i3 := by kernel_rfl
  t4 := Try.underlying4
  a4 := Try.isAgg4
  z4 := Try.sizeOf4
  v4 := Try.zeroValue4
  i4 := by kernel_rfl
  t5 := Try.underlying5
  a5 := Try.isAgg5
  z5 := Try.sizeOf5
  v5 := Try.zeroValue5
  i5 := by kernel_rfl
  t9 := Try.underlying9
  a9 := Try.isAgg9
  z9 := Try.sizeOf9
  v9 := Try.zeroValue9
  i9 := by kernel_rfl
  t37 := Try.underlying102
  a37 := Try.isAgg102
  z37 := Try.sizeOf102
  v37 := Try.zeroValue102
  i37 := by kernel_rfl
  t47 := Try.underlying103
  a47 := Try.isAgg103
  z47 := Try.sizeOf103
  v47 := Try.zeroValue103
  i47 := by kernel_rfl }

theorem clone_any (s : ByteArray) (w : World) (h : s.size ≤ 281474976710656) : Calls Try.prog 45 #[.string s] w fun e w' => e = .returned (.string s) ∧ Below w.heap.size w w' := by
  go_enter Try.func45, Try.ntmps45
  go_wp2_with (fail)
  refine (AnyPu.stringslite_Clone cl_lay s w h).mono ?_
  rintro e w' ⟨rfl, hB⟩
  go_wp2
  go_ret
  exact ⟨rfl, hB⟩
/-- texts that may be copied -/
def Sm (l : List Ver) : Prop := ∀ v ∈ l, v.key.size ≤ 281474976710656 ∧ v.val.size ≤ 281474976710656
/-! ### A version laid at place i of a row of the call's own -/
theorem set_six {xs : List Value} {a : Nat} (v0 v1 v2 v3 v4 v5 : Value) (h : a + 6 ≤ xs.length) : ((((((xs.set a v0).set (a + 1) v1).set (a + 2) v2).set (a + 3) v3).set (a + 4) v4).set (a + 5) v5) = xs.take a ++ ([v0, v1, v2, v3, v4, v5] ++ xs.drop (a + 6)) := by
  apply List.ext_getElem
  · simp; omega
  · intro i h1 h2
    simp only [List.length_set] at h1
    simp only [List.getElem_set]
    rcases Nat.lt_or_ge i a with h3 | h3
    · rw [if_neg (by omega), if_neg (by omega), if_neg (by omega), if_neg (by omega), if_neg (by omega), if_neg (by omega), List.getElem_append_left (by simp; omega), List.getElem_take]
    · rw [List.getElem_append_right (by simp; omega)]
      have hl : (xs.take a).length = a := by simp; omega
      simp only [hl]
      rcases Nat.lt_or_ge i (a + 6) with h4 | h4
      · have : i = a ∨ i = a + 1 ∨ i = a + 2 ∨ i = a + 3 ∨ i = a + 4 ∨ i = a + 5 := by omega
        rcases this with rfl | rfl | rfl | rfl | rfl | rfl <;> simp
      · rw [if_neg (by omega), if_neg (by omega), if_neg (by omega), if_neg (by omega), if_neg (by omega), if_neg (by omega), List.getElem_append_right (by simp; omega), List.getElem_drop]
        congr 1
        simp; omega
theorem fl_set {m : List Ver} {i : Nat} {v : Ver} (hi : i < m.length) :
    (((((((fl m).set (i * 6) (.string v.key)).set (i * 6 + 1) (.string v.val)).set (i * 6 + 2) (.bool v.gone)).set (i * 6 + 3) (.int .u64 v.ts)).set (i * 6 + 4) (.int .i64 v.dc)).set (i * 6 + 5) (.int .i64 v.tx)) = fl (m.set i v) := by
  rw [set_six _ _ _ _ _ _ (by rw [fl_len]; omega), List.set_eq_take_append_cons_drop, if_pos hi, fl_app, fl_cons, fl_take, fl_drop]
  rw [show (i + 1) * 6 = i * 6 + 6 by omega]
  rfl
abbrev putAt (w : World) (g o : Nat) (v : Ver) : World := (((((w.setCell ⟨g, o, none⟩ (.string v.key)).setCell ⟨g, o + 1, none⟩ (.string v.val)).setCell ⟨g, o + 2, none⟩ (.bool v.gone)).setCell ⟨g, o + 3, none⟩ (.int .u64 v.ts)).setCell ⟨g, o + 4, none⟩ (.int .i64 v.dc)).setCell ⟨g, o + 5, none⟩ (.int .i64 v.tx)
theorem putAt_other {g k : Nat} (h : k ≠ g) (w : World) (o : Nat) (v : Ver) : (putAt w g o v).heap[k]? = w.heap[k]? := by
  unfold putAt
  rw [Below.heap_setCell _ _ _ _ h, Below.heap_setCell _ _ _ _ h, Below.heap_setCell _ _ _ _ h, Below.heap_setCell _ _ _ _ h, Below.heap_setCell _ _ _ _ h, Below.heap_setCell _ _ _ _ h]
theorem putAt_size (w : World) (g o : Nat) (v : Ver) : (putAt w g o v).heap.size = w.heap.size := by simp [putAt]
theorem stored6 {X : World} {g c n base : Nat} {xs : List Value} (h : X.ownsRow base 64 6 (.slice (some ⟨g, 0, none⟩) n c) n xs) (o : Nat) (v : Ver) :
    (putAt X g o v).ownsRow base 64 6 (.slice (some ⟨g, 0, none⟩) n c) n ((((((xs.set o (.string v.key)).set (o + 1) (.string v.val)).set (o + 2) (.bool v.gone)).set (o + 3) (.int .u64 v.ts)).set (o + 4) (.int .i64 v.dc)).set (o + 5) (.int .i64 v.tx)) :=
  ((((((h.stored o _).1.stored (o + 1) _).1.stored (o + 2) _).1.stored (o + 3) _).1.stored (o + 4) _).1.stored (o + 5) _).1
theorem putAt_below {B g : Nat} {w0 w : World} (h : Below B w0 w) (hg : B ≤ g) (o : Nat) (v : Ver) : Below B w0 (putAt w g o v) :=
  (((((h.setCell (p := ⟨g, o, none⟩) hg _).setCell (p := ⟨g, o + 1, none⟩) hg _).setCell (p := ⟨g, o + 2, none⟩) hg _).setCell (p := ⟨g, o + 3, none⟩) hg _).setCell (p := ⟨g, o + 4, none⟩) hg _).setCell (p := ⟨g, o + 5, none⟩) hg _
theorem made6 (n : Nat) : (madeCells (Value.agg #[.string { data := #[] }, .string { data := #[] }, .bool false, .int .u64 0, .int .i64 0, .int .i64 0]).cells (n * 6)).toList = fl (List.replicate n default) := by
  apply List.ext_getElem
  · rw [Array.length_toList, size_madeCells, fl_len, List.length_replicate]
  · intro i h1 h2
    rw [fl_len, List.length_replicate] at h2
    obtain ⟨u, hu0⟩ : ∃ u, (fl (List.replicate n (default : Ver)))[i]? = some u := ⟨_, List.getElem?_eq_getElem (by rw [fl_len, List.length_replicate]; exact h2)⟩
    have hr0 := (List.getElem?_eq_some_iff.1 hu0).2
    obtain ⟨a, j, e, hj, ha, hu⟩ := fl_at hu0
    refine Eq.trans ?_ hr0.symm
    clear hu0 hr0
    rw [List.length_replicate] at ha
    have hd : nt (List.replicate n (default : Ver)) a = default := by rw [nt_at (by simpa using ha), List.getElem_replicate]
    rw [hd] at hu
    have hr : i % 6 = j := by omega
    have hj' : j = 0 ∨ j = 1 ∨ j = 2 ∨ j = 3 ∨ j = 4 ∨ j = 5 := by omega
    simp only [madeCells, Array.getElem_toList, Array.getElem_map, Array.getElem_range, Value.cells, List.size_toArray, List.length_cons, List.length_nil, Nat.reduceAdd, hr]
    rcases hj' with rfl | rfl | rfl | rfl | rfl | rfl <;> (simp only [cL, default, Inhabited.default, List.getElem?_cons_zero, List.getElem?_cons_succ, Option.some.injEq] at hu; rw [← hu]; rfl)
/-- what lies there behind j rounds -/
structure CS (w : World) (m : MR) (j : Nat) (X : World) : Prop where
  own : X.ownsRow w.heap.size 64 6 (.slice (some ⟨w.heap.size + 1 + 1, 0, none⟩) m.vs.length m.vs.length) m.vs.length (fl (m.vs.take j ++ List.replicate (m.vs.length - j) default))
  bx : P4 w.heap.size m X
  rs : P4 (w.heap.size + 1) default X
  hv : HV X m.A m.c m.vs
  bel : Below w.heap.size w X
section
variable {w X X1 : World} {m : MR} {j : Nat}
theorem CS.below (h : CS w m j X) (hB : Below X.heap.size X X1) : CS w m j X1 :=
  ⟨own_block h.own fun k e => hB.block k (World.ownsRow.lt h.own k e).2, h.bx.of_block (hB.block _ h.bx.lt), h.rs.of_block (hB.block _ h.rs.lt), h.hv.below hB, trans0 h.bel hB⟩
theorem CS.put (h : CS w m j X) (hj : j < m.vs.length) (hl : HV w m.A m.c m.vs) : CS w m (j + 1) (putAt X (w.heap.size + 1 + 1) (j * 6) (nt m.vs j)) := by
  have hB := putAt_below h.bel (show w.heap.size ≤ w.heap.size + 1 + 1 by omega) (j * 6) (nt m.vs j)
  refine ⟨?_, h.bx.of_block (putAt_other (by omega) _ _ _), h.rs.of_block (putAt_other (by omega) _ _ _), hl.below hB, hB⟩
  have h1 := stored6 h.own (j * 6) (nt m.vs j)
  rw [fl_set (by simp; omega)] at h1
  have e : (m.vs.take j ++ List.replicate (m.vs.length - j) default).set j (nt m.vs j) = m.vs.take (j + 1) ++ List.replicate (m.vs.length - (j + 1)) default := by
    have hlj : (m.vs.take j).length = j := by simp; omega
    rw [List.set_append_right _ _ (by omega), hlj, Nat.sub_self, take_nt hj, List.append_assoc]
    congr 1
    rw [show m.vs.length - j = (m.vs.length - (j + 1)) + 1 by omega, List.replicate_succ, List.set_cons_zero]
    rfl
  rw [e] at h1
  exact h1
theorem CS.slot (h : CS w m j X) (hj : j < m.vs.length) : (∃ u, X.cell? ⟨w.heap.size + 1 + 1, j * 6, none⟩ = some u) ∧ (∃ u, X.cell? ⟨w.heap.size + 1 + 1, j * 6 + 1, none⟩ = some u) ∧ (∃ u, X.cell? ⟨w.heap.size + 1 + 1, j * 6 + 2, none⟩ = some u) ∧ (∃ u, X.cell? ⟨w.heap.size + 1 + 1, j * 6 + 3, none⟩ = some u) ∧ (∃ u, X.cell? ⟨w.heap.size + 1 + 1, j * 6 + 4, none⟩ = some u) ∧ (∃ u, X.cell? ⟨w.heap.size + 1 + 1, j * 6 + 5, none⟩ = some u ∧ ∀ o, X.frozen? ⟨w.heap.size + 1 + 1, o, none⟩ = false) := by
  have hl : (fl (m.vs.take j ++ List.replicate (m.vs.length - j) default)).length = m.vs.length * 6 := h.own.1
  have hc := fun (i : Nat) (hi : i < m.vs.length * 6) => (World.ownsRow.cellAt h.own i hi).trans (List.getElem?_eq_getElem (by omega))
  exact ⟨⟨_, hc _ (by omega)⟩, ⟨_, hc _ (by omega)⟩, ⟨_, hc _ (by omega)⟩, ⟨_, hc _ (by omega)⟩, ⟨_, hc _ (by omega)⟩, ⟨_, hc _ (by omega), fun o => World.ownsRow.frozenAt h.own o⟩⟩
theorem CS.cells (h : CS w m j X) : R4 w.heap.size 0 m X ∧ X.frozen? ⟨w.heap.size, 3, none⟩ = false :=
  ⟨⟨h.bx.cell (i := 0) (by omega), h.bx.cell (i := 1) (by omega), h.bx.cell (i := 2) (by omega), h.bx.cell (i := 3) (by omega)⟩, h.bx.frozen 3⟩
end
theorem CS.new (w : World) (m : MR) (h : HV w m.A m.c m.vs) : CS w m 0 (((w.alloc (.cells #[.int .u64 m.ts, .int .i64 m.dc, .int .i64 m.tx, .slice m.A m.vs.length m.c] 98)).alloc (.cells #[.int .u64 0, .int .i64 0, .int .i64 0, .slice none 0 0] 98)).alloc (.cells (madeCells (Value.agg #[.string { data := #[] }, .string { data := #[] }, .bool false, .int .u64 0, .int .i64 0, .int .i64 0]).cells (m.vs.length * 6)) 64)) := by
  have h1 := P4.new w m
  have h2 : P4 _ default _ := P4.new (w.alloc (.cells #[.int .u64 m.ts, .int .i64 m.dc, .int .i64 m.tx, .slice m.A m.vs.length m.c] 98)) default
  simp only [default, Inhabited.default, List.length_nil] at h2
  rw [World.size_alloc] at h2
  have hB := al0 w (.cells #[.int .u64 m.ts, .int .i64 m.dc, .int .i64 m.tx, .slice m.A m.vs.length m.c] 98)
  have hB2 := trans0 hB (al0 _ (.cells #[.int .u64 0, .int .i64 0, .int .i64 0, .slice none 0 0] 98))
  have h1' := h1.alloc (.cells #[.int .u64 0, .int .i64 0, .int .i64 0, .slice none 0 0] 98)
  have hz : ((w.alloc (.cells #[.int .u64 m.ts, .int .i64 m.dc, .int .i64 m.tx, .slice m.A m.vs.length m.c] 98)).alloc (.cells #[.int .u64 0, .int .i64 0, .int .i64 0, .slice none 0 0] 98)).heap.size = w.heap.size + 1 + 1 := by simp
  generalize (w.alloc (.cells #[.int .u64 m.ts, .int .i64 m.dc, .int .i64 m.tx, .slice m.A m.vs.length m.c] 98)).alloc (.cells #[.int .u64 0, .int .i64 0, .int .i64 0, .slice none 0 0] 98) = W at *
  have hB3 := trans0 hB2 (al0 W (.cells (madeCells (Value.agg #[.string { data := #[] }, .string { data := #[] }, .bool false, .int .u64 0, .int .i64 0, .int .i64 0]).cells (m.vs.length * 6)) 64))
  refine ⟨?_, h1'.alloc _, h2.alloc _, h.below hB3, hB3⟩
  have hn := heap_alloc_new W (.cells (madeCells (Value.agg #[.string { data := #[] }, .string { data := #[] }, .bool false, .int .u64 0, .int .i64 0, .int .i64 0]).cells (m.vs.length * 6)) 64)
  rw [hz] at hn
  have ht := made6 m.vs.length
  have hs := size_madeCells (Value.agg #[.string { data := #[] }, .string { data := #[] }, .bool false, .int .u64 0, .int .i64 0, .int .i64 0]).cells (m.vs.length * 6)
  rw [List.take_zero, List.nil_append, Nat.sub_zero]
  refine ⟨by rw [fl_len, List.length_replicate], .inr ⟨w.heap.size + 1 + 1, m.vs.length, _, rfl, by omega, hn, Nat.le_refl _, by have := h.sm; unfold maxLen; omega, hs, ?_⟩⟩
  rw [ht, List.take_of_length_le (by rw [fl_len, List.length_replicate]; omega)]
set_option maxHeartbeats 2000000 in
/-- Copy: the same commit, its versions in new memory. -/
theorem copy_any (m : MR) (w : World) (h : HV w m.A m.c m.vs) (hs : Sm m.vs) : Calls Try.prog 42 #[rv m] w fun e w' => ∃ A c, e = .returned (rv { m with A := A, c := c }) ∧ GV w' w.heap.size A c m.vs ∧ Below w.heap.size w w' := by
  obtain ⟨iV, hiV, hzV0, hzV1, hzV2⟩ := info_parts infoV
  have hmk : ∀ W : World, (Instr.makeSlice 47 (.int .i64 (m.vs.length : Int)) (.int .i64 (m.vs.length : Int))).run Try.prog W = .ok (.slice (some ⟨W.heap.size, 0, none⟩) m.vs.length m.vs.length) (W.alloc (.cells (madeCells (Value.agg #[.string { data := #[] }, .string { data := #[] }, .bool false, .int .u64 0, .int .i64 0, .int .i64 0]).cells (m.vs.length * 6)) 64)) := fun W => by
    have hq := run_make (P := Try.prog) W 47 64 iV _ Try.underlying47 hiV hzV0 .i64 .i64 (m.vs.length : Int) (m.vs.length : Int) (by omega) (by omega) (by rw [hzV2]; have := h.sm; omega) (by have := h.le; have := h.top; omega)
    rw [hzV1] at hq
    simpa using hq
  have hC := Lib.hid (CS.new w m h)
  have hl9 : m.vs.length ≤ 9223372036854775807 := Nat.le_trans h.le h.top
  obtain ⟨MC, hMC⟩ : ∃ MC, madeCells (Value.agg #[.string { data := #[] }, .string { data := #[] }, .bool false, .int .u64 0, .int .i64 0, .int .i64 0]).cells (m.vs.length * 6) = MC := ⟨_, rfl⟩
  rw [hMC] at hC
  simp only [hMC] at hmk
  clear hMC hiV hzV0 hzV1 hzV2
  replace h := Lib.hid h
  replace hs := Lib.hid hs
  obtain ⟨ts, dc, tx, vs, A, c⟩ := m
  simp only at hmk hC hl9 h hs ⊢
  go_enter Try.func42, Try.ntmps42
  go_wp2
  go_loopw [13] (fun i wr => ∃ j : Nat, j ≤ vs.length ∧ i = .int .i64 j ∧ Hid (CS w ⟨ts, dc, tx, vs, A, c⟩ j wr)) (fun i _ => vs.length - (intOf i).toNat)
  case atStart => exact ⟨0, by omega, rfl, hC⟩
  case round =>
    obtain ⟨j, hj, rfl, hX⟩ := hrel
    by_cases hlt : j < vs.length
    · have hX0 := hX.out.hv
      simp only at hX0
      obtain ⟨pb, po, rfl, hpb, hc⟩ := hX0.at hlt
      have hjI : (j : Int) < (vs.length : Int) := by omega
      obtain ⟨sz1, sz2⟩ := hs.out _ (nt_mem hlt)
      have hnext := Lib.hid (fun X1 (hB : Below wr.heap.size wr X1) => CS.put (hX.out.below hB) hlt h.out)
      simp only at hnext
      have hslot := Lib.hid (fun X1 (hB : Below wr.heap.size wr X1) => CS.slot (hX.out.below hB) hlt)
      obtain ⟨k0, k1, k2, k3, k4, k5⟩ := hc
      generalize nt vs j = x at *
      have hal := al0 wr (.cells #[.string x.key, .string x.val, .bool x.gone, .int .u64 x.ts, .int .i64 x.dc, .int .i64 x.tx] 64)
      have hbx : Hid (R6 wr.heap.size x (wr.alloc (.cells #[.string x.key, .string x.val, .bool x.gone, .int .u64 x.ts, .int .i64 x.dc, .int .i64 x.tx] 64))) := Lib.hid (R6.new wr x)
      obtain ⟨W1, hW1⟩ : ∃ W1, wr.alloc (.cells #[.string x.key, .string x.val, .bool x.gone, .int .u64 x.ts, .int .i64 x.dc, .int .i64 x.tx] 64) = W1 := ⟨_, rfl⟩
      rw [hW1] at hal hbx
      replace hW1 := Lib.hid hW1
      replace hal := Lib.hid hal
      have hd := Lib.hid (R6.below hbx.out (below_drew W1))
      obtain ⟨d0, d1, d2, d3, d4, d5⟩ := hd.out.v6
      obtain ⟨f0, f1, f2, f3, f4, f5⟩ := hd.out.fz
      have hca := Lib.hid (fun w => clone_any x.key w sz1)
      have hcb := Lib.hid (fun w => clone_any x.val w sz2)
      clear hX hX0 sz1 sz2
      go_upto_region 5 with (fail)
      rw [hW1.out]
      go_region_law (first
        | (go_simp; go_at_call 45; ((with_reducible refine (hca.out _).mono ?_); rintro e w3 ⟨rfl, hB3⟩); have hR3 := Lib.hid (R6.below hd.out hB3); have hB33 := Lib.hid hB3; obtain ⟨e0, e1, e2, e3, e4, e5⟩ := hR3.out.v6; obtain ⟨g0, g1, g2, g3, g4, g5⟩ := hR3.out.fz)
        | (go_simp; go_at_call 45; ((with_reducible refine (hcb.out _).mono ?_); rintro e w4 ⟨rfl, hB4⟩); have hR4 := Lib.hid (R6.below hR3.out hB4); have hB44 := Lib.hid hB4; obtain ⟨r0, r1, r2, r3, r4, r5⟩ := hR4.out.v6; obtain ⟨q0, q1, q2, q3, q4, q5⟩ := hR4.out.fz)
        | fail)
      all_goals
        have hB5 := Lib.hid (((trans0 (trans0 hal.out.drew hB33.out) hB44.out).setCell (p := ⟨wr.heap.size, 0, none⟩) (Nat.le_refl _) (.string x.key)).setCell (p := ⟨wr.heap.size, 1, none⟩) (Nat.le_refl _) (.string x.val))
        have hR5 : Hid (R6 wr.heap.size x ((w4.setCell ⟨wr.heap.size, 0, none⟩ (.string x.key)).setCell ⟨wr.heap.size, 1, none⟩ (.string x.val))) := Lib.hid (((hR4.out.set 0 _).set 1 _).congr fun i hi => by rcases six hi with rfl | rfl | rfl | rfl | rfl | rfl <;> rfl)
        clear d0 d1 d2 d3 d4 d5 f0 f1 f2 f3 f4 f5 e0 e1 e2 e3 e4 e5 g0 g1 g2 g3 g4 g5 r0 r1 r2 r3 r4 r5 q0 q1 q2 q3 q4 q5 hR3 hR4 hB33 hB44 hB3 hB4 hd hca hcb k0 k1 k2 k3 k4 k5
        generalize (w4.setCell ⟨wr.heap.size, 0, none⟩ (.string x.key)).setCell ⟨wr.heap.size, 1, none⟩ (.string x.val) = w5 at *
        obtain ⟨r0, r1, r2, r3, r4, r5⟩ := hR5.out.v6
        obtain ⟨o0, o1, o2, o3, o4, o5⟩ := (hslot.out w5 hB5.out)
        obtain ⟨u0, o0⟩ := o0
        obtain ⟨u1, o1⟩ := o1
        obtain ⟨u2, o2⟩ := o2
        obtain ⟨u3, o3⟩ := o3
        obtain ⟨u4', o4⟩ := o4
        obtain ⟨u5', o5, hfz⟩ := o5
        have z0 := hfz (j * 6)
        have z1 := hfz (j * 6 + 1)
        have z2 := hfz (j * 6 + 2)
        have z3 := hfz (j * 6 + 3)
        have z4 := hfz (j * 6 + 4)
        have z5 := hfz (j * 6 + 5)
        have hfin := Lib.hid (hnext.out w5 hB5.out)
        clear hfz hnext hslot hR5
        go_wp2
        go_roundw
        case rel => exact ⟨j + 1, by omega, by go_num, hfin⟩
        case measure => simp [intOf]; omega
    · obtain rfl : j = vs.length := by omega
      have hG : GV wr w.heap.size (some ⟨w.heap.size + 1 + 1, 0, none⟩) vs.length vs := by
        have := hX.out.own
        simp only [Nat.sub_self, List.replicate_zero, List.append_nil, List.take_length] at this
        exact this
      have hP3 := Lib.hid (hX.out.bx.put3 (some ⟨w.heap.size + 1 + 1, 0, none⟩) vs.length)
      simp only at hP3
      have hrs := hX.out.rs
      have hB2 := (hX.out.bel).setCell (p := ⟨w.heap.size, 3, none⟩) (Nat.le_refl _) (.slice (some ⟨w.heap.size + 1 + 1, 0, none⟩) vs.length vs.length)
      have hG2 := hG.block (w1 := wr.setCell ⟨w.heap.size, 3, none⟩ (.slice (some ⟨w.heap.size + 1 + 1, 0, none⟩) vs.length vs.length)) fun k e => Below.heap_setCell _ _ _ _ (by cases e; show w.heap.size + 1 + 1 ≠ w.heap.size; omega)
      have hrs2 : P4 (w.heap.size + 1) default (wr.setCell ⟨w.heap.size, 3, none⟩ (.slice (some ⟨w.heap.size + 1 + 1, 0, none⟩) vs.length vs.length)) := hrs.of_block (Below.heap_setCell _ _ _ _ (by show w.heap.size + 1 ≠ w.heap.size; omega))
      have hput := Lib.hid (hrs2.put ⟨ts, dc, tx, vs, some ⟨w.heap.size + 1 + 1, 0, none⟩, vs.length⟩)
      have hfin := Lib.hid (put4_below hB2 (show w.heap.size ≤ w.heap.size + 1 by omega) ⟨ts, dc, tx, vs, some ⟨w.heap.size + 1 + 1, 0, none⟩, vs.length⟩)
      have hG3 := Lib.hid (hG2.block (w1 := put4 (wr.setCell ⟨w.heap.size, 3, none⟩ (.slice (some ⟨w.heap.size + 1 + 1, 0, none⟩) vs.length vs.length)) (w.heap.size + 1) ⟨ts, dc, tx, vs, some ⟨w.heap.size + 1 + 1, 0, none⟩, vs.length⟩) fun k e => put4_other (by cases e; show w.heap.size + 1 + 1 ≠ w.heap.size + 1; omega) _ _)
      obtain ⟨b0, b1, b2, b3⟩ := hX.out.bx.r4
      obtain ⟨a0, a1, a2, a3⟩ := hX.out.bx.fz
      obtain ⟨p0, p1, p2, p3⟩ := hrs.r4
      obtain ⟨t0, t1, t2, t3⟩ := hrs.fz
      clear hX hG hrs hB2 hG2 hrs2 hP3 hs h hC
      go_wp2
      change bodyPost _ _ _ _ _ (put4 (wr.setCell ⟨w.heap.size, 3, none⟩ (.slice (some ⟨w.heap.size + 1 + 1, 0, none⟩) vs.length vs.length)) (w.heap.size + 1) ⟨ts, dc, tx, vs, some ⟨w.heap.size + 1 + 1, 0, none⟩, vs.length⟩)
      have hRq := hput.out
      have hfq := hfin.out
      have hGq := hG3.out
      clear hput hfin hG3 p0 p1 p2 p3 t0 t1 t2 t3 b0 b1 b2 b3 a0 a1 a2 a3
      generalize put4 (wr.setCell ⟨w.heap.size, 3, none⟩ (.slice (some ⟨w.heap.size + 1 + 1, 0, none⟩) vs.length vs.length)) (w.heap.size + 1) ⟨ts, dc, tx, vs, some ⟨w.heap.size + 1 + 1, 0, none⟩, vs.length⟩ = w9 at *
      obtain ⟨y0, y1, y2, y3⟩ := P4.r4 hRq
      refine bodyPost_ret (v := rv ⟨ts, dc, tx, vs, some ⟨w.heap.size + 1 + 1, 0, none⟩, vs.length⟩) ?_ rfl ⟨_, _, rfl, hGq, hfq⟩
      clear hRq hfq hGq
      simp only at y0 y1 y2 y3
      simp [results, Try.results42, go_sem, y0, y1, y2, y3]
end Go.Proofs.Ytafocefbpkcoaaa.ordC
