/- The contract of placeFor. -/
import Derived.Test.YtlojmojmijklmaaChnC
set_option linter.unusedVariables false
namespace Go.Proofs.Ytlojmojmijklmaa.chnD
open Go.ChangeShapes Go.WideShapes Go.ChangeAt Go.RowKit Go.Deep
open opV chnM gen chnA chnB chnR chnC

def plI (l : List Ver) (v : Ver) : Nat := if putE l v = 0 then putI l v else 0
theorem K3.new (w : World) (v : Ver) (t : TypeId) : K3 w.heap.size v (w.alloc (.cells #[.int .u64 v.ts, .int .i64 v.dc, .int .i64 v.tx] t)) :=
  ⟨cell_of_row _ _ 0 #[.int .u64 v.ts, .int .i64 v.dc, .int .i64 v.tx] t (0, 0) (heap_alloc_new w _), cell_of_row _ _ 1 #[.int .u64 v.ts, .int .i64 v.dc, .int .i64 v.tx] t (0, 0) (heap_alloc_new w _), cell_of_row _ _ 2 #[.int .u64 v.ts, .int .i64 v.dc, .int .i64 v.tx] t (0, 0) (heap_alloc_new w _)⟩
set_option maxRecDepth 100000 in
set_option maxHeartbeats 1000000 in
theorem place_8 (A : Option Addr) (c : Nat) (l : List Ver) (v : Ver) (w : World) (h : HV w A c l) (hi : plc l v < l.length) (hne : nt l (plc l v) = v) :
    Calls Try.prog 51 #[.slice A l.length c, .agg #[.string v.key, .string v.val, .bool v.gone, .int .u64 v.ts, .int .i64 v.dc, .int .i64 v.tx]] w fun e w' =>
      e = .returned (.tuple #[.int .i64 (0 : Nat), .int .i64 8]) ∧ Below w.heap.size w w' := by
  have hf := Lib.hid (show ixf (fun x => same x v) l = (plc l v : Nat) by unfold ixf; rw [if_pos (by exact hi)]; rfl)
  have hl9 : l.length ≤ 9223372036854775807 := Nat.le_trans h.le h.top
  have hB0 := al0 w (.cells #[.string v.key, .string v.val, .bool v.gone, .int .u64 v.ts, .int .i64 v.dc, .int .i64 v.tx] 35)
  have hv0 := V6.new w v 35
  obtain ⟨W, hW⟩ : ∃ W, w.alloc (.cells #[.string v.key, .string v.val, .bool v.gone, .int .u64 v.ts, .int .i64 v.dc, .int .i64 v.tx] 35) = W := ⟨_, rfl⟩
  rw [hW] at hB0 hv0
  replace hW := Lib.hid hW
  have hv0f := Lib.hid hv0
  rw [← hW.out] at hv0
  obtain ⟨a0, a1, a2, a3, a4, a5⟩ := hv0
  replace hB0 := Lib.hid hB0
  replace h := Lib.hid h
  go_enter Try.func51, Try.ntmps51
  go_wp2_with (fail)
  rw [hW.out]
  refine (of_any v W).mono ?_
  rintro e w1 ⟨rfl, hB1⟩
  clear a0 a1 a2 a3 a4 a5
  have hal := al0 w1 (.cells #[.int .u64 v.ts, .int .i64 v.dc, .int .i64 v.tx] 77)
  have hk := K3.new w1 v 77
  obtain ⟨W2, hW2⟩ : ∃ W2, w1.alloc (.cells #[.int .u64 v.ts, .int .i64 v.dc, .int .i64 v.tx] 77) = W2 := ⟨_, rfl⟩
  rw [hW2] at hal hk
  have hB2 := Lib.hid (trans0 hB1 hal)
  have hix := Lib.hid (same_ix A c l w1.heap.size v W2 ((h.out.below hB0.out).below hB2.out) hk)
  replace hW2 := Lib.hid hW2
  clear hal hk hB1
  go_wp2_with (fail)
  rw [hW2.out]
  refine hix.out.mono ?_
  rintro e w3 ⟨rfl, hB3⟩
  rw [hf.out]
  have hB3' := Lib.hid (trans0 hB2.out hB3)
  clear hB3 hix
  obtain ⟨pb, po, rfl, hpb, hc⟩ := ((h.out.below hB0.out).below hB3'.out).at hi
  obtain ⟨c0, c1, c2, c3, c4, c5⟩ := hc
  obtain ⟨a0, a1, a2, a3, a4, a5⟩ := hv0f.out.below hB3'.out
  have hq := eql_ver (nt l (plc l v)) v
  rw [decide_eq_true hne] at hq
  clear hne
  have hiI : ((plc l v : Nat) : Int) < (l.length : Int) := by omega
  generalize plc l v = i at *
  generalize nt l i = x at *
  go_wp2
  go_quiet (fail)
  have hfin := Lib.hid (trans0 hB0.out (bdrN nq hB3'.out))
  clear hq
  go_wp2
  go_ret2
  exact ⟨rfl, hfin.out⟩
set_option maxRecDepth 100000 in
set_option maxHeartbeats 1000000 in
theorem place_3 (A : Option Addr) (c : Nat) (l : List Ver) (v : Ver) (w : World) (h : HV w A c l) (hi : plc l v < l.length) (hne : nt l (plc l v) ≠ v) :
    Calls Try.prog 51 #[.slice A l.length c, .agg #[.string v.key, .string v.val, .bool v.gone, .int .u64 v.ts, .int .i64 v.dc, .int .i64 v.tx]] w fun e w' =>
      e = .returned (.tuple #[.int .i64 (0 : Nat), .int .i64 3]) ∧ Below w.heap.size w w' := by
  have hf := Lib.hid (show ixf (fun x => same x v) l = (plc l v : Nat) by unfold ixf; rw [if_pos (by exact hi)]; rfl)
  have hl9 : l.length ≤ 9223372036854775807 := Nat.le_trans h.le h.top
  have hB0 := al0 w (.cells #[.string v.key, .string v.val, .bool v.gone, .int .u64 v.ts, .int .i64 v.dc, .int .i64 v.tx] 35)
  have hv0 := V6.new w v 35
  obtain ⟨W, hW⟩ : ∃ W, w.alloc (.cells #[.string v.key, .string v.val, .bool v.gone, .int .u64 v.ts, .int .i64 v.dc, .int .i64 v.tx] 35) = W := ⟨_, rfl⟩
  rw [hW] at hB0 hv0
  replace hW := Lib.hid hW
  have hv0f := Lib.hid hv0
  rw [← hW.out] at hv0
  obtain ⟨a0, a1, a2, a3, a4, a5⟩ := hv0
  replace hB0 := Lib.hid hB0
  replace h := Lib.hid h
  go_enter Try.func51, Try.ntmps51
  go_wp2_with (fail)
  rw [hW.out]
  refine (of_any v W).mono ?_
  rintro e w1 ⟨rfl, hB1⟩
  clear a0 a1 a2 a3 a4 a5
  have hal := al0 w1 (.cells #[.int .u64 v.ts, .int .i64 v.dc, .int .i64 v.tx] 77)
  have hk := K3.new w1 v 77
  obtain ⟨W2, hW2⟩ : ∃ W2, w1.alloc (.cells #[.int .u64 v.ts, .int .i64 v.dc, .int .i64 v.tx] 77) = W2 := ⟨_, rfl⟩
  rw [hW2] at hal hk
  have hB2 := Lib.hid (trans0 hB1 hal)
  have hix := Lib.hid (same_ix A c l w1.heap.size v W2 ((h.out.below hB0.out).below hB2.out) hk)
  replace hW2 := Lib.hid hW2
  clear hal hk hB1
  go_wp2_with (fail)
  rw [hW2.out]
  refine hix.out.mono ?_
  rintro e w3 ⟨rfl, hB3⟩
  rw [hf.out]
  have hB3' := Lib.hid (trans0 hB2.out hB3)
  clear hB3 hix
  obtain ⟨pb, po, rfl, hpb, hc⟩ := ((h.out.below hB0.out).below hB3'.out).at hi
  obtain ⟨c0, c1, c2, c3, c4, c5⟩ := hc
  obtain ⟨a0, a1, a2, a3, a4, a5⟩ := hv0f.out.below hB3'.out
  have hq := eql_ver (nt l (plc l v)) v
  rw [decide_eq_false hne] at hq
  clear hne
  have hiI : ((plc l v : Nat) : Int) < (l.length : Int) := by omega
  generalize plc l v = i at *
  generalize nt l i = x at *
  go_wp2
  go_quiet (fail)
  have hfin := Lib.hid (trans0 hB0.out (bdrN nq hB3'.out))
  clear hq
  go_wp2
  go_ret2
  exact ⟨rfl, hfin.out⟩
set_option maxRecDepth 100000 in
set_option maxHeartbeats 1000000 in
theorem place_0a (A : Option Addr) (c : Nat) (l : List Ver) (v : Ver) (w : World) (h : HV w A c l) (hi : ¬ plc l v < l.length) (hj : putI l v < l.length) :
    Calls Try.prog 51 #[.slice A l.length c, .agg #[.string v.key, .string v.val, .bool v.gone, .int .u64 v.ts, .int .i64 v.dc, .int .i64 v.tx]] w fun e w' =>
      e = .returned (.tuple #[.int .i64 (putI l v : Nat), .int .i64 0]) ∧ Below w.heap.size w w' := by
  have hf := Lib.hid (show ixf (fun x => same x v) l = -1 by unfold ixf; rw [if_neg (by exact hi)])
  have hg := Lib.hid (show ixf (fun x => lt v x) l = (putI l v : Nat) by unfold ixf; rw [if_pos (by exact hj)]; rfl)
  clear hi
  have hl9 : l.length ≤ 9223372036854775807 := Nat.le_trans h.le h.top
  have hB0 := al0 w (.cells #[.string v.key, .string v.val, .bool v.gone, .int .u64 v.ts, .int .i64 v.dc, .int .i64 v.tx] 35)
  have hv0 := V6.new w v 35
  obtain ⟨W, hW⟩ : ∃ W, w.alloc (.cells #[.string v.key, .string v.val, .bool v.gone, .int .u64 v.ts, .int .i64 v.dc, .int .i64 v.tx] 35) = W := ⟨_, rfl⟩
  rw [hW] at hB0 hv0
  replace hW := Lib.hid hW
  have hv0f := Lib.hid hv0
  rw [← hW.out] at hv0
  obtain ⟨a0, a1, a2, a3, a4, a5⟩ := hv0
  replace hB0 := Lib.hid hB0
  replace h := Lib.hid h
  go_enter Try.func51, Try.ntmps51
  go_wp2_with (fail)
  rw [hW.out]
  refine (of_any v W).mono ?_
  rintro e w1 ⟨rfl, hB1⟩
  clear a0 a1 a2 a3 a4 a5
  have hal := al0 w1 (.cells #[.int .u64 v.ts, .int .i64 v.dc, .int .i64 v.tx] 77)
  have hk := K3.new w1 v 77
  obtain ⟨W2, hW2⟩ : ∃ W2, w1.alloc (.cells #[.int .u64 v.ts, .int .i64 v.dc, .int .i64 v.tx] 77) = W2 := ⟨_, rfl⟩
  rw [hW2] at hal hk
  have hB2 := Lib.hid (trans0 hB1 hal)
  have hix := Lib.hid (same_ix A c l w1.heap.size v W2 ((h.out.below hB0.out).below hB2.out) hk)
  replace hW2 := Lib.hid hW2
  clear hal hk hB1
  go_wp2_with (fail)
  rw [hW2.out]
  refine hix.out.mono ?_
  rintro e w3 ⟨rfl, hB3⟩
  rw [hf.out]
  have hB3' := Lib.hid (trans0 hB2.out hB3)
  clear hB3 hix
  have hiy := Lib.hid (first_ix A c l w.heap.size v w3 ((h.out.below hB0.out).below hB3'.out) (hv0f.out.below hB3'.out))
  go_wp2_with (fail)
  refine hiy.out.mono ?_
  rintro e w4 ⟨rfl, hB4⟩
  rw [hg.out]
  have hB4' := Lib.hid (trans0 hB0.out (trans0 hB3'.out hB4))
  clear hB4 hiy
  go_wp2
  go_ret2
  exact ⟨rfl, hB4'.out⟩
set_option maxRecDepth 100000 in
set_option maxHeartbeats 1000000 in
theorem place_0b (A : Option Addr) (c : Nat) (l : List Ver) (v : Ver) (w : World) (h : HV w A c l) (hi : ¬ plc l v < l.length) (hj : ¬ putI l v < l.length) :
    Calls Try.prog 51 #[.slice A l.length c, .agg #[.string v.key, .string v.val, .bool v.gone, .int .u64 v.ts, .int .i64 v.dc, .int .i64 v.tx]] w fun e w' =>
      e = .returned (.tuple #[.int .i64 (l.length : Nat), .int .i64 0]) ∧ Below w.heap.size w w' := by
  have hf := Lib.hid (show ixf (fun x => same x v) l = -1 by unfold ixf; rw [if_neg (by exact hi)])
  have hg := Lib.hid (show ixf (fun x => lt v x) l = -1 by unfold ixf; rw [if_neg (by exact hj)])
  clear hi hj
  have hl9 : l.length ≤ 9223372036854775807 := Nat.le_trans h.le h.top
  have hB0 := al0 w (.cells #[.string v.key, .string v.val, .bool v.gone, .int .u64 v.ts, .int .i64 v.dc, .int .i64 v.tx] 35)
  have hv0 := V6.new w v 35
  obtain ⟨W, hW⟩ : ∃ W, w.alloc (.cells #[.string v.key, .string v.val, .bool v.gone, .int .u64 v.ts, .int .i64 v.dc, .int .i64 v.tx] 35) = W := ⟨_, rfl⟩
  rw [hW] at hB0 hv0
  replace hW := Lib.hid hW
  have hv0f := Lib.hid hv0
  rw [← hW.out] at hv0
  obtain ⟨a0, a1, a2, a3, a4, a5⟩ := hv0
  replace hB0 := Lib.hid hB0
  replace h := Lib.hid h
  go_enter Try.func51, Try.ntmps51
  go_wp2_with (fail)
  rw [hW.out]
  refine (of_any v W).mono ?_
  rintro e w1 ⟨rfl, hB1⟩
  clear a0 a1 a2 a3 a4 a5
  have hal := al0 w1 (.cells #[.int .u64 v.ts, .int .i64 v.dc, .int .i64 v.tx] 77)
  have hk := K3.new w1 v 77
  obtain ⟨W2, hW2⟩ : ∃ W2, w1.alloc (.cells #[.int .u64 v.ts, .int .i64 v.dc, .int .i64 v.tx] 77) = W2 := ⟨_, rfl⟩
  rw [hW2] at hal hk
  have hB2 := Lib.hid (trans0 hB1 hal)
  have hix := Lib.hid (same_ix A c l w1.heap.size v W2 ((h.out.below hB0.out).below hB2.out) hk)
  replace hW2 := Lib.hid hW2
  clear hal hk hB1
  go_wp2_with (fail)
  rw [hW2.out]
  refine hix.out.mono ?_
  rintro e w3 ⟨rfl, hB3⟩
  rw [hf.out]
  have hB3' := Lib.hid (trans0 hB2.out hB3)
  clear hB3 hix
  have hiy := Lib.hid (first_ix A c l w.heap.size v w3 ((h.out.below hB0.out).below hB3'.out) (hv0f.out.below hB3'.out))
  go_wp2_with (fail)
  refine hiy.out.mono ?_
  rintro e w4 ⟨rfl, hB4⟩
  rw [hg.out]
  have hB4' := Lib.hid (trans0 hB0.out (trans0 hB3'.out hB4))
  clear hB4 hiy
  go_wp2
  go_ret2
  exact ⟨rfl, hB4'.out⟩
theorem place_any (A : Option Addr) (c : Nat) (l : List Ver) (v : Ver) (w : World) (h : HV w A c l) :
    Calls Try.prog 51 #[.slice A l.length c, .agg #[.string v.key, .string v.val, .bool v.gone, .int .u64 v.ts, .int .i64 v.dc, .int .i64 v.tx]] w fun e w' =>
      e = .returned (.tuple #[.int .i64 (plI l v : Nat), .int .i64 (putE l v : Nat)]) ∧ Below w.heap.size w w' := by
  by_cases hi : plc l v < l.length
  · by_cases hne : nt l (plc l v) = v
    · have e : putE l v = 8 := by unfold putE; rw [if_pos hi, if_pos hne]
      have e2 : plI l v = 0 := by unfold plI; rw [if_neg (by omega)]
      rw [e, e2]
      exact place_8 A c l v w h hi hne
    · have e : putE l v = 3 := by unfold putE; rw [if_pos hi, if_neg hne]
      have e2 : plI l v = 0 := by unfold plI; rw [if_neg (by omega)]
      rw [e, e2]
      exact place_3 A c l v w h hi hne
  · have e : putE l v = 0 := by unfold putE; rw [if_neg hi]
    have e2 : plI l v = putI l v := by unfold plI; rw [if_pos e]
    rw [e, e2]
    by_cases hj : putI l v < l.length
    · exact place_0a A c l v w h hi hj
    · have e3 : putI l v = l.length := by have := putI_le l v; omega
      rw [e3]
      exact place_0b A c l v w h hi hj
end Go.Proofs.Ytlojmojmijklmaa.chnD
