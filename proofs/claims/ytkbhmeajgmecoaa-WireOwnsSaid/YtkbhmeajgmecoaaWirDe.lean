/- The program's readers of versions and commands. (genrd.py) -/
import Derived.Test.YtkbhmeajgmecoaaWirDd
namespace Go.Proofs.Ytkbhmeajgmecoaa.wirDe
open Go.ChangeShapes Go.WideShapes Go.ChangeAt Go.RowKit Go.Deep
open numM rowA byt numA numB numC numN numD numE wirM wirA wirL wirP wirQ wirR wirDa wirDb wirDc wirDd

theorem row_set {w : World} {b : Nat} {T : TypeId} {n : Nat} {cs : Array Value} (h : w.rowIs b T n (fun i => cs.getD i undef)) (hn : cs.size = n) {j : Nat} (hj : j < n) (x : Value) : (w.setCell ⟨b, j, none⟩ x).rowIs b T n (fun i => (cs.setIfInBounds j x).getD i undef) := by
  refine (h.set j x).congr (fun i hi => ?_)
  by_cases e : i = j
  · subst e
    rw [if_pos rfl]
    simp [hn, hj]
  · rw [if_neg e]
    simp [Array.getD_eq_getD_getElem?, Ne.symm e]
theorem row_new (w : World) (cs : Array Value) (T : TypeId) : (w.alloc (.cells cs T)).rowIs w.heap.size T cs.size (fun i => cs.getD i undef) :=
  World.rowIs_alloc w cs T (fun i => cs.getD i undef) (fun i hi => by simp [Array.getD_eq_getD_getElem?, hi])
theorem row_gr {w w1 : World} {u b : Nat} {T : TypeId} {n : Nat} {f : Nat → Value} (h : w.rowIs b T n f) (hg : Gr u w w1) (hb : b ≠ u) : w1.rowIs b T n f := h.of_block (hg.block b h.lt hb)
theorem row_put {w : World} {b : Nat} {T : TypeId} {n : Nat} {f : Nat → Value} (h : w.rowIs b T n f) {p : Addr} (hb : b ≠ p.block) (x : Value) : (w.setCell p x).rowIs b T n f := h.of_block (Below.heap_setCell _ _ _ _ hb)
theorem size_zero {s : ByteArray} : s.toList = [] ↔ s = ⟨#[]⟩ := by
  rw [ByteArray.toList_eq]
  constructor
  · intro h
    have : s.data = #[] := Array.ext' (by rw [h])
    cases s; simp_all
  · rintro rfl; rfl
theorem eql_cmd (c : Cm) (w : World) :
    (binOp .eql 26 (.agg (cc c)) (.agg #[.int .i64 0, .int .i64 0, .int .i64 0, .int .i64 0, .int .i64 0, .string ⟨#[]⟩])).run Try.prog w = .ok (.bool (decide (c = Cm.nought))) w := by
  obtain ⟨a, b, d, e, f, s⟩ := c
  unfold Cm.nought
  go_simp
  simp only [size_zero]
  by_cases h1 : a = 0 <;> by_cases h2 : b = 0 <;> by_cases h3 : d = 0 <;> by_cases h4 : e = 0 <;> by_cases h5 : f = 0 <;> by_cases h6 : s = ⟨#[]⟩ <;> simp [h1, h2, h3, h4, h5, h6]
theorem seq2_ok {α β γ : Type} {r : R α} {f : α → R β} {g : β → R γ} {l t : List Nat} {x : α} (h : r l = .ok (x, t)) : ((r.seq f).seq g) l = ((f x).seq g) t := by unfold R.seq; rw [h]
theorem seq2_err {α β γ : Type} {r : R α} {f : α → R β} {g : β → R γ} {l : List Nat} {k : Nat} (h : r l = .error k) : ((r.seq f).seq g) l = .error k := by unfold R.seq; rw [h]
theorem wrap_add (a x : Nat) : IntKind.u64.wrap ((a : Int) + x) = (((a + x) % 18446744073709551616 : Nat) : Int) := by
  rw [IntKind.wrap_u64]; omega
def vV (v : Vr) : Value := .agg (cv v)
def vC (c : Cm) : Value := .agg (cc c)

set_option maxRecDepth 100000 in
set_option maxHeartbeats 2000000 in
theorem ever_any {u : Nat} {l : List Nat} (w : World) (h : UAt w u l) : Calls Try.prog 66 #[.pointer (some ⟨u, 0, none⟩)] w (Rd u vV w (rVer1 l)) := by
  have hρ : Hid (rVer1 l = rVer1 l) := Lib.hid rfl
  generalize hρ0 : rVer1 l = ρ at hρ ⊢
  replace hρ : Hid (ρ = rVer1 l) := Lib.hid hρ0.symm
  clear hρ0
  unfold rVer1 at hρ
  have hul := h.lt
  have hU0 := Lib.hid ((h.alloc (.cells #[.string ⟨#[]⟩, .string ⟨#[]⟩, .bool false, .int .u64 0, .int .i64 0, .int .i64 0] 51)).alloc (.cells #[.string ⟨#[]⟩, .string ⟨#[]⟩, .bool false, .int .u64 0, .int .i64 0, .int .i64 0] 51))
  have hG0 := Lib.hid (((Gr.refl u w).alloc (.cells #[.string ⟨#[]⟩, .string ⟨#[]⟩, .bool false, .int .u64 0, .int .i64 0, .int .i64 0] 51)).alloc (.cells #[.string ⟨#[]⟩, .string ⟨#[]⟩, .bool false, .int .u64 0, .int .i64 0, .int .i64 0] 51))
  have hr0 : Hid (((w.alloc (.cells #[.string ⟨#[]⟩, .string ⟨#[]⟩, .bool false, .int .u64 0, .int .i64 0, .int .i64 0] 51)).alloc (.cells #[.string ⟨#[]⟩, .string ⟨#[]⟩, .bool false, .int .u64 0, .int .i64 0, .int .i64 0] 51)).rowIs w.heap.size 51 6 (fun i => (#[.string ⟨#[]⟩, .string ⟨#[]⟩, .bool false, .int .u64 0, .int .i64 0, .int .i64 0] : Array Value).getD i undef)) := Lib.hid ((row_new w #[.string ⟨#[]⟩, .string ⟨#[]⟩, .bool false, .int .u64 0, .int .i64 0, .int .i64 0] 51).of_block (Below.heap_alloc _ _ _ (by simp)))
  have hv0 : Hid (((w.alloc (.cells #[.string ⟨#[]⟩, .string ⟨#[]⟩, .bool false, .int .u64 0, .int .i64 0, .int .i64 0] 51)).alloc (.cells #[.string ⟨#[]⟩, .string ⟨#[]⟩, .bool false, .int .u64 0, .int .i64 0, .int .i64 0] 51)).rowIs (w.heap.size + 1) 51 6 (fun i => (#[.string ⟨#[]⟩, .string ⟨#[]⟩, .bool false, .int .u64 0, .int .i64 0, .int .i64 0] : Array Value).getD i undef)) := Lib.hid (by have := row_new (w.alloc (.cells #[.string ⟨#[]⟩, .string ⟨#[]⟩, .bool false, .int .u64 0, .int .i64 0, .int .i64 0] 51)) #[.string ⟨#[]⟩, .string ⟨#[]⟩, .bool false, .int .u64 0, .int .i64 0, .int .i64 0] 51; simpa using this)
  clear h
  go_enter Try.func66, Try.ntmps66
  go_wp2_with (fail)
  generalize (w.alloc (.cells #[.string ⟨#[]⟩, .string ⟨#[]⟩, .bool false, .int .u64 0, .int .i64 0, .int .i64 0] 51)).alloc (.cells #[.string ⟨#[]⟩, .string ⟨#[]⟩, .bool false, .int .u64 0, .int .i64 0, .int .i64 0] 51) = W0 at *
  have hvu : w.heap.size + 1 ≠ u := by omega
  have hru : w.heap.size ≠ u := by omega
  generalize hrb : w.heap.size = rb at *
  replace hrb := Lib.hid hrb
  refine (etext_any 16 _ hU0.out (by omega)).mono ?_
  rintro e w0 hh
  rcases hq : rTx (rWide 1) 16 l with k | ⟨x0, t0⟩
  · rw [hq] at hh
    obtain ⟨rfl, hg⟩ := hh
    exact ⟨rfl, rd_err (hρ.out.trans (seq_err hq)) (hG0.out.trans hg)⟩
  rw [hq] at hh
  obtain ⟨rfl, hU, hg⟩ := hh
  replace hρ := Lib.hid (hρ.out.trans (seq_ok hq))
  clear hq
  have hv := row_gr hv0.out hg hvu
  have hr := row_gr hr0.out hg hru
  have q : w0.cell? ⟨rb + 1, 0, none⟩ = some (.string ⟨#[]⟩) := hv.cell (i := 0) (by omega)
  have qf := hv.frozen 0
  have hU1 := Lib.hid (hU.put (p := ⟨rb + 1, 0, none⟩) (show u < rb + 1 by omega) (.string x0))
  have hG1 := Lib.hid ((hG0.out.trans hg).put (p := ⟨rb + 1, 0, none⟩) (show w.heap.size ≤ rb + 1 by rw [hrb.out]; omega) (.string x0))
  have hv1 : Hid ((w0.setCell ⟨rb + 1, 0, none⟩ (.string x0)).rowIs (rb + 1) 51 6 (fun i => (#[.string x0, .string ⟨#[]⟩, .bool false, .int .u64 0, .int .i64 0, .int .i64 0] : Array Value).getD i undef)) := Lib.hid (row_set hv rfl (by omega) _)
  have hr1 := Lib.hid (row_put (p := ⟨rb + 1, 0, none⟩) hr (show rb ≠ rb + 1 by omega) (.string x0))
  clear hv hr hU hg hU0 hG0 hv0 hr0
  try unfold vS
  try unfold vB
  try unfold vU
  try unfold vI
  go_wp2_with (fail)
  refine (etext_any 64 _ hU1.out (by omega)).mono ?_
  rintro e w1 hh
  rcases hq : rTx (rWide 1) 64 t0 with k | ⟨x1, t1⟩
  · rw [hq] at hh
    obtain ⟨rfl, hg⟩ := hh
    exact ⟨rfl, rd_err (hρ.out.trans (seq_err hq)) (hG1.out.trans hg)⟩
  rw [hq] at hh
  obtain ⟨rfl, hU, hg⟩ := hh
  replace hρ := Lib.hid (hρ.out.trans (seq_ok hq))
  clear hq
  have hv := row_gr hv1.out hg hvu
  have hr := row_gr hr1.out hg hru
  have q : w1.cell? ⟨rb + 1, 1, none⟩ = some (.string ⟨#[]⟩) := hv.cell (i := 1) (by omega)
  have qf := hv.frozen 1
  have hU2 := Lib.hid (hU.put (p := ⟨rb + 1, 1, none⟩) (show u < rb + 1 by omega) (.string x1))
  have hG2 := Lib.hid ((hG1.out.trans hg).put (p := ⟨rb + 1, 1, none⟩) (show w.heap.size ≤ rb + 1 by rw [hrb.out]; omega) (.string x1))
  have hv2 : Hid ((w1.setCell ⟨rb + 1, 1, none⟩ (.string x1)).rowIs (rb + 1) 51 6 (fun i => (#[.string x0, .string x1, .bool false, .int .u64 0, .int .i64 0, .int .i64 0] : Array Value).getD i undef)) := Lib.hid (row_set hv rfl (by omega) _)
  have hr2 := Lib.hid (row_put (p := ⟨rb + 1, 1, none⟩) hr (show rb ≠ rb + 1 by omega) (.string x1))
  clear hv hr hU hg hU1 hG1 hv1 hr1
  try unfold vS
  try unfold vB
  try unfold vU
  try unfold vI
  go_wp2_with (fail)
  refine (gone_any _ hU2.out).mono ?_
  rintro e w2 hh
  rcases hq : rGone t1 with k | ⟨x2, t2⟩
  · rw [hq] at hh
    obtain ⟨rfl, hg⟩ := hh
    exact ⟨rfl, rd_err (hρ.out.trans (seq_err hq)) (hG2.out.trans hg)⟩
  rw [hq] at hh
  obtain ⟨rfl, hU, hg⟩ := hh
  replace hρ := Lib.hid (hρ.out.trans (seq_ok hq))
  clear hq
  have hv := row_gr hv2.out hg hvu
  have hr := row_gr hr2.out hg hru
  have q : w2.cell? ⟨rb + 1, 2, none⟩ = some (.bool false) := hv.cell (i := 2) (by omega)
  have qf := hv.frozen 2
  have hU3 := Lib.hid (hU.put (p := ⟨rb + 1, 2, none⟩) (show u < rb + 1 by omega) (.bool x2))
  have hG3 := Lib.hid ((hG2.out.trans hg).put (p := ⟨rb + 1, 2, none⟩) (show w.heap.size ≤ rb + 1 by rw [hrb.out]; omega) (.bool x2))
  have hv3 : Hid ((w2.setCell ⟨rb + 1, 2, none⟩ (.bool x2)).rowIs (rb + 1) 51 6 (fun i => (#[.string x0, .string x1, .bool x2, .int .u64 0, .int .i64 0, .int .i64 0] : Array Value).getD i undef)) := Lib.hid (row_set hv rfl (by omega) _)
  have hr3 := Lib.hid (row_put (p := ⟨rb + 1, 2, none⟩) hr (show rb ≠ rb + 1 by omega) (.bool x2))
  clear hv hr hU hg hU2 hG2 hv2 hr2
  try unfold vS
  try unfold vB
  try unfold vU
  try unfold vI
  go_wp2_with (fail)
  refine (wide_any 8 _ hU3.out (by omega) (by omega)).mono ?_
  rintro e w3 hh
  rcases hq : rWide 8 t2 with k | ⟨x3, t3⟩
  · rw [hq] at hh
    obtain ⟨rfl, hg⟩ := hh
    exact ⟨rfl, rd_err (hρ.out.trans (seq_err hq)) (hG3.out.trans hg)⟩
  rw [hq] at hh
  obtain ⟨rfl, hU, hg⟩ := hh
  replace hρ := Lib.hid (hρ.out.trans (seq_ok hq))
  clear hq
  have hv := row_gr hv3.out hg hvu
  have hr := row_gr hr3.out hg hru
  have q : w3.cell? ⟨rb + 1, 3, none⟩ = some (.int .u64 0) := hv.cell (i := 3) (by omega)
  have qf := hv.frozen 3
  have hU4 := Lib.hid (hU.put (p := ⟨rb + 1, 3, none⟩) (show u < rb + 1 by omega) (.int .u64 x3))
  have hG4 := Lib.hid ((hG3.out.trans hg).put (p := ⟨rb + 1, 3, none⟩) (show w.heap.size ≤ rb + 1 by rw [hrb.out]; omega) (.int .u64 x3))
  have hv4 : Hid ((w3.setCell ⟨rb + 1, 3, none⟩ (.int .u64 x3)).rowIs (rb + 1) 51 6 (fun i => (#[.string x0, .string x1, .bool x2, .int .u64 x3, .int .i64 0, .int .i64 0] : Array Value).getD i undef)) := Lib.hid (row_set hv rfl (by omega) _)
  have hr4 := Lib.hid (row_put (p := ⟨rb + 1, 3, none⟩) hr (show rb ≠ rb + 1 by omega) (.int .u64 x3))
  clear hv hr hU hg hU3 hG3 hv3 hr3
  try unfold vS
  try unfold vB
  try unfold vU
  try unfold vI
  go_wp2_with (fail)
  refine (wide_any 1 _ hU4.out (by omega) (by omega)).mono ?_
  rintro e w4 hh
  rcases lim_cases (r := rWide 1) 3 1 t3 with ⟨k, e1, e2⟩ | ⟨x4, t4, e1, e3, e2⟩ | ⟨x4, t4, e1, e3, e2⟩
  · rw [e1] at hh
    obtain ⟨rfl, hg⟩ := hh
    exact ⟨rfl, rd_err (hρ.out.trans (seq_err (int_err e2))) (hG4.out.trans hg)⟩
  · rw [e1] at hh
    obtain ⟨rfl, hU, hg⟩ := hh
    have hE := Lib.hid (rd_err (val := vV) (hρ.out.trans (seq_err (int_err e2))) (hG4.out.trans hg))
    clear hU hg hρ e1 e2 hG4 hv4 hr4 hU4
    unfold vU
    go_wp2_with (fail)
    refine (most_no x4 3 1 w4 e3 (by omega)).mono ?_
    rintro e w9 ⟨rfl, rfl⟩
    exact ⟨rfl, hE.out⟩
  rw [e1] at hh
  obtain ⟨rfl, hU, hg⟩ := hh
  replace hρ := Lib.hid (hρ.out.trans (seq_ok (int_ok e2)))
  replace hU := Lib.hid hU
  replace hg := Lib.hid hg
  unfold vU
  go_wp2_with (fail)
  refine (most_ok x4 3 1 w4 e3 (by omega)).mono ?_
  rintro e w9 ⟨rfl, rfl⟩
  clear e1 e2 e3
  replace hU := hU.out
  replace hg := hg.out
  have hv := row_gr hv4.out hg hvu
  have hr := row_gr hr4.out hg hru
  have q : w4.cell? ⟨rb + 1, 4, none⟩ = some (.int .i64 0) := hv.cell (i := 4) (by omega)
  have qf := hv.frozen 4
  have hU5 := Lib.hid (hU.put (p := ⟨rb + 1, 4, none⟩) (show u < rb + 1 by omega) (.int .i64 x4))
  have hG5 := Lib.hid ((hG4.out.trans hg).put (p := ⟨rb + 1, 4, none⟩) (show w.heap.size ≤ rb + 1 by rw [hrb.out]; omega) (.int .i64 x4))
  have hv5 : Hid ((w4.setCell ⟨rb + 1, 4, none⟩ (.int .i64 x4)).rowIs (rb + 1) 51 6 (fun i => (#[.string x0, .string x1, .bool x2, .int .u64 x3, .int .i64 x4, .int .i64 0] : Array Value).getD i undef)) := Lib.hid (row_set hv rfl (by omega) _)
  have hr5 := Lib.hid (row_put (p := ⟨rb + 1, 4, none⟩) hr (show rb ≠ rb + 1 by omega) (.int .i64 x4))
  clear hv hr hU hg hU4 hG4 hv4 hr4
  try unfold vS
  try unfold vB
  try unfold vU
  try unfold vI
  go_wp2_with (fail)
  refine (wide_any 4 _ hU5.out (by omega) (by omega)).mono ?_
  rintro e w5 hh
  rcases lim_cases (r := rWide 4) 1073741824 1 t4 with ⟨k, e1, e2⟩ | ⟨x5, t5, e1, e3, e2⟩ | ⟨x5, t5, e1, e3, e2⟩
  · rw [e1] at hh
    obtain ⟨rfl, hg⟩ := hh
    exact ⟨rfl, rd_err (hρ.out.trans (seq_err (int_err e2))) (hG5.out.trans hg)⟩
  · rw [e1] at hh
    obtain ⟨rfl, hU, hg⟩ := hh
    have hE := Lib.hid (rd_err (val := vV) (hρ.out.trans (seq_err (int_err e2))) (hG5.out.trans hg))
    clear hU hg hρ e1 e2 hG5 hv5 hr5 hU5
    unfold vU
    go_wp2_with (fail)
    refine (most_no x5 1073741824 1 w5 e3 (by omega)).mono ?_
    rintro e w9 ⟨rfl, rfl⟩
    exact ⟨rfl, hE.out⟩
  rw [e1] at hh
  obtain ⟨rfl, hU, hg⟩ := hh
  replace hρ := Lib.hid (hρ.out.trans (seq_ok (int_ok e2)))
  replace hU := Lib.hid hU
  replace hg := Lib.hid hg
  unfold vU
  go_wp2_with (fail)
  refine (most_ok x5 1073741824 1 w5 e3 (by omega)).mono ?_
  rintro e w9 ⟨rfl, rfl⟩
  clear e1 e2 e3
  replace hU := hU.out
  replace hg := hg.out
  have hv := row_gr hv5.out hg hvu
  have hr := row_gr hr5.out hg hru
  have z0 : w5.cell? ⟨rb + 1, 0, none⟩ = some (.string x0) := hv.cell (i := 0) (by omega)
  have z1 : w5.cell? ⟨rb + 1, 1, none⟩ = some (.string x1) := hv.cell (i := 1) (by omega)
  have z2 : w5.cell? ⟨rb + 1, 2, none⟩ = some (.bool x2) := hv.cell (i := 2) (by omega)
  have z3 : w5.cell? ⟨rb + 1, 3, none⟩ = some (.int .u64 x3) := hv.cell (i := 3) (by omega)
  have z4 : w5.cell? ⟨rb + 1, 4, none⟩ = some (.int .i64 x4) := hv.cell (i := 4) (by omega)
  have y0 : w5.cell? ⟨rb, 0, none⟩ = some (.string ⟨#[]⟩) := hr.cell (i := 0) (by omega)
  have y1 : w5.cell? ⟨rb, 1, none⟩ = some (.string ⟨#[]⟩) := hr.cell (i := 1) (by omega)
  have y2 : w5.cell? ⟨rb, 2, none⟩ = some (.bool false) := hr.cell (i := 2) (by omega)
  have y3 : w5.cell? ⟨rb, 3, none⟩ = some (.int .u64 0) := hr.cell (i := 3) (by omega)
  have y4 : w5.cell? ⟨rb, 4, none⟩ = some (.int .i64 0) := hr.cell (i := 4) (by omega)
  have y5 : w5.cell? ⟨rb, 5, none⟩ = some (.int .i64 0) := hr.cell (i := 5) (by omega)
  have yf0 := hr.frozen 0
  have yf1 := hr.frozen 1
  have yf2 := hr.frozen 2
  have yf3 := hr.frozen 3
  have yf4 := hr.frozen 4
  have yf5 := hr.frozen 5
  have q : w5.cell? ⟨rb + 1, 5, none⟩ = some (.int .i64 0) := hv.cell (i := 5) (by omega)
  have qf := hv.frozen 5
  have hU6 := Lib.hid (hU.put (p := ⟨rb + 1, 5, none⟩) (show u < rb + 1 by omega) (.int .i64 x5))
  have hG6 := Lib.hid ((hG5.out.trans hg).put (p := ⟨rb + 1, 5, none⟩) (show w.heap.size ≤ rb + 1 by rw [hrb.out]; omega) (.int .i64 x5))
  have hv6 : Hid ((w5.setCell ⟨rb + 1, 5, none⟩ (.int .i64 x5)).rowIs (rb + 1) 51 6 (fun i => (#[.string x0, .string x1, .bool x2, .int .u64 x3, .int .i64 x4, .int .i64 x5] : Array Value).getD i undef)) := Lib.hid (row_set hv rfl (by omega) _)
  have hr6 := Lib.hid (row_put (p := ⟨rb + 1, 5, none⟩) hr (show rb ≠ rb + 1 by omega) (.int .i64 x5))
  clear hv hr hU hg hU5 hG5 hv5 hr5
  try unfold vS
  try unfold vB
  try unfold vU
  try unfold vI
  go_wp2
  refine bodyPost_ret (v := vV ⟨x0, x1, x2, x3, (x4 : Int), (x5 : Int)⟩) ?_ rfl (rd_ok (val := vV) (x := ⟨x0, x1, x2, x3, (x4 : Int), (x5 : Int)⟩) hρ.out ((((((hU6.out.put (p := ⟨rb, 0, none⟩) (show u < rb by omega) _).put (p := ⟨rb, 1, none⟩) (show u < rb by omega) _).put (p := ⟨rb, 2, none⟩) (show u < rb by omega) _).put (p := ⟨rb, 3, none⟩) (show u < rb by omega) _).put (p := ⟨rb, 4, none⟩) (show u < rb by omega) _).put (p := ⟨rb, 5, none⟩) (show u < rb by omega) _) ((((((hG6.out.put (p := ⟨rb, 0, none⟩) (show w.heap.size ≤ rb by rw [hrb.out]; omega) _).put (p := ⟨rb, 1, none⟩) (show w.heap.size ≤ rb by rw [hrb.out]; omega) _).put (p := ⟨rb, 2, none⟩) (show w.heap.size ≤ rb by rw [hrb.out]; omega) _).put (p := ⟨rb, 3, none⟩) (show w.heap.size ≤ rb by rw [hrb.out]; omega) _).put (p := ⟨rb, 4, none⟩) (show w.heap.size ≤ rb by rw [hrb.out]; omega) _).put (p := ⟨rb, 5, none⟩) (show w.heap.size ≤ rb by rw [hrb.out]; omega) _))
  simp [results, Try.results66, go_sem, vV, y0, y1, y2, y3, y4, y5]
set_option maxRecDepth 100000 in
set_option maxHeartbeats 2000000 in
theorem nver_any {u : Nat} {l : List Nat} (a : Nat) (w : World) (h : UAt w u l) : Calls Try.prog 89 #[.pointer (some ⟨u, 0, none⟩), .int .u64 a] w (Rd u vV w (rVer2 a l)) := by
  have hρ : Hid (rVer2 a l = rVer2 a l) := Lib.hid rfl
  generalize hρ0 : rVer2 a l = ρ at hρ ⊢
  replace hρ : Hid (ρ = rVer2 a l) := Lib.hid hρ0.symm
  clear hρ0
  unfold rVer2 at hρ
  have hul := h.lt
  have hU0 := Lib.hid ((h.alloc (.cells #[.string ⟨#[]⟩, .string ⟨#[]⟩, .bool false, .int .u64 0, .int .i64 0, .int .i64 0] 51)).alloc (.cells #[.string ⟨#[]⟩, .string ⟨#[]⟩, .bool false, .int .u64 0, .int .i64 0, .int .i64 0] 51))
  have hG0 := Lib.hid (((Gr.refl u w).alloc (.cells #[.string ⟨#[]⟩, .string ⟨#[]⟩, .bool false, .int .u64 0, .int .i64 0, .int .i64 0] 51)).alloc (.cells #[.string ⟨#[]⟩, .string ⟨#[]⟩, .bool false, .int .u64 0, .int .i64 0, .int .i64 0] 51))
  have hr0 : Hid (((w.alloc (.cells #[.string ⟨#[]⟩, .string ⟨#[]⟩, .bool false, .int .u64 0, .int .i64 0, .int .i64 0] 51)).alloc (.cells #[.string ⟨#[]⟩, .string ⟨#[]⟩, .bool false, .int .u64 0, .int .i64 0, .int .i64 0] 51)).rowIs w.heap.size 51 6 (fun i => (#[.string ⟨#[]⟩, .string ⟨#[]⟩, .bool false, .int .u64 0, .int .i64 0, .int .i64 0] : Array Value).getD i undef)) := Lib.hid ((row_new w #[.string ⟨#[]⟩, .string ⟨#[]⟩, .bool false, .int .u64 0, .int .i64 0, .int .i64 0] 51).of_block (Below.heap_alloc _ _ _ (by simp)))
  have hv0 : Hid (((w.alloc (.cells #[.string ⟨#[]⟩, .string ⟨#[]⟩, .bool false, .int .u64 0, .int .i64 0, .int .i64 0] 51)).alloc (.cells #[.string ⟨#[]⟩, .string ⟨#[]⟩, .bool false, .int .u64 0, .int .i64 0, .int .i64 0] 51)).rowIs (w.heap.size + 1) 51 6 (fun i => (#[.string ⟨#[]⟩, .string ⟨#[]⟩, .bool false, .int .u64 0, .int .i64 0, .int .i64 0] : Array Value).getD i undef)) := Lib.hid (by have := row_new (w.alloc (.cells #[.string ⟨#[]⟩, .string ⟨#[]⟩, .bool false, .int .u64 0, .int .i64 0, .int .i64 0] 51)) #[.string ⟨#[]⟩, .string ⟨#[]⟩, .bool false, .int .u64 0, .int .i64 0, .int .i64 0] 51; simpa using this)
  clear h
  go_enter Try.func89, Try.ntmps89
  go_wp2_with (fail)
  generalize (w.alloc (.cells #[.string ⟨#[]⟩, .string ⟨#[]⟩, .bool false, .int .u64 0, .int .i64 0, .int .i64 0] 51)).alloc (.cells #[.string ⟨#[]⟩, .string ⟨#[]⟩, .bool false, .int .u64 0, .int .i64 0, .int .i64 0] 51) = W0 at *
  have hvu : w.heap.size + 1 ≠ u := by omega
  have hru : w.heap.size ≠ u := by omega
  generalize hrb : w.heap.size = rb at *
  replace hrb := Lib.hid hrb
  refine (ntext_any 16 _ hU0.out (by omega)).mono ?_
  rintro e w0 hh
  rcases hq : rTx rShort 16 l with k | ⟨x0, t0⟩
  · rw [hq] at hh
    obtain ⟨rfl, hg⟩ := hh
    exact ⟨rfl, rd_err (hρ.out.trans (seq_err hq)) (hG0.out.trans hg)⟩
  rw [hq] at hh
  obtain ⟨rfl, hU, hg⟩ := hh
  replace hρ := Lib.hid (hρ.out.trans (seq_ok hq))
  clear hq
  have hv := row_gr hv0.out hg hvu
  have hr := row_gr hr0.out hg hru
  have q : w0.cell? ⟨rb + 1, 0, none⟩ = some (.string ⟨#[]⟩) := hv.cell (i := 0) (by omega)
  have qf := hv.frozen 0
  have hU1 := Lib.hid (hU.put (p := ⟨rb + 1, 0, none⟩) (show u < rb + 1 by omega) (.string x0))
  have hG1 := Lib.hid ((hG0.out.trans hg).put (p := ⟨rb + 1, 0, none⟩) (show w.heap.size ≤ rb + 1 by rw [hrb.out]; omega) (.string x0))
  have hv1 : Hid ((w0.setCell ⟨rb + 1, 0, none⟩ (.string x0)).rowIs (rb + 1) 51 6 (fun i => (#[.string x0, .string ⟨#[]⟩, .bool false, .int .u64 0, .int .i64 0, .int .i64 0] : Array Value).getD i undef)) := Lib.hid (row_set hv rfl (by omega) _)
  have hr1 := Lib.hid (row_put (p := ⟨rb + 1, 0, none⟩) hr (show rb ≠ rb + 1 by omega) (.string x0))
  clear hv hr hU hg hU0 hG0 hv0 hr0
  try unfold vS
  try unfold vB
  try unfold vU
  try unfold vI
  go_wp2_with (fail)
  refine (ntext_any 64 _ hU1.out (by omega)).mono ?_
  rintro e w1 hh
  rcases hq : rTx rShort 64 t0 with k | ⟨x1, t1⟩
  · rw [hq] at hh
    obtain ⟨rfl, hg⟩ := hh
    exact ⟨rfl, rd_err (hρ.out.trans (seq_err hq)) (hG1.out.trans hg)⟩
  rw [hq] at hh
  obtain ⟨rfl, hU, hg⟩ := hh
  replace hρ := Lib.hid (hρ.out.trans (seq_ok hq))
  clear hq
  have hv := row_gr hv1.out hg hvu
  have hr := row_gr hr1.out hg hru
  have q : w1.cell? ⟨rb + 1, 1, none⟩ = some (.string ⟨#[]⟩) := hv.cell (i := 1) (by omega)
  have qf := hv.frozen 1
  have hU2 := Lib.hid (hU.put (p := ⟨rb + 1, 1, none⟩) (show u < rb + 1 by omega) (.string x1))
  have hG2 := Lib.hid ((hG1.out.trans hg).put (p := ⟨rb + 1, 1, none⟩) (show w.heap.size ≤ rb + 1 by rw [hrb.out]; omega) (.string x1))
  have hv2 : Hid ((w1.setCell ⟨rb + 1, 1, none⟩ (.string x1)).rowIs (rb + 1) 51 6 (fun i => (#[.string x0, .string x1, .bool false, .int .u64 0, .int .i64 0, .int .i64 0] : Array Value).getD i undef)) := Lib.hid (row_set hv rfl (by omega) _)
  have hr2 := Lib.hid (row_put (p := ⟨rb + 1, 1, none⟩) hr (show rb ≠ rb + 1 by omega) (.string x1))
  clear hv hr hU hg hU1 hG1 hv1 hr1
  try unfold vS
  try unfold vB
  try unfold vU
  try unfold vI
  go_wp2_with (fail)
  refine (gone_any _ hU2.out).mono ?_
  rintro e w2 hh
  rcases hq : rGone t1 with k | ⟨x2, t2⟩
  · rw [hq] at hh
    obtain ⟨rfl, hg⟩ := hh
    exact ⟨rfl, rd_err (hρ.out.trans (seq_err hq)) (hG2.out.trans hg)⟩
  rw [hq] at hh
  obtain ⟨rfl, hU, hg⟩ := hh
  replace hρ := Lib.hid (hρ.out.trans (seq_ok hq))
  clear hq
  have hv := row_gr hv2.out hg hvu
  have hr := row_gr hr2.out hg hru
  have q : w2.cell? ⟨rb + 1, 2, none⟩ = some (.bool false) := hv.cell (i := 2) (by omega)
  have qf := hv.frozen 2
  have hU3 := Lib.hid (hU.put (p := ⟨rb + 1, 2, none⟩) (show u < rb + 1 by omega) (.bool x2))
  have hG3 := Lib.hid ((hG2.out.trans hg).put (p := ⟨rb + 1, 2, none⟩) (show w.heap.size ≤ rb + 1 by rw [hrb.out]; omega) (.bool x2))
  have hv3 : Hid ((w2.setCell ⟨rb + 1, 2, none⟩ (.bool x2)).rowIs (rb + 1) 51 6 (fun i => (#[.string x0, .string x1, .bool x2, .int .u64 0, .int .i64 0, .int .i64 0] : Array Value).getD i undef)) := Lib.hid (row_set hv rfl (by omega) _)
  have hr3 := Lib.hid (row_put (p := ⟨rb + 1, 2, none⟩) hr (show rb ≠ rb + 1 by omega) (.bool x2))
  clear hv hr hU hg hU2 hG2 hv2 hr2
  try unfold vS
  try unfold vB
  try unfold vU
  try unfold vI
  go_wp2_with (fail)
  refine (short_any _ hU3.out).mono ?_
  rintro e w3 hh
  rcases hq : rShort t2 with k | ⟨x3, t3⟩
  · rw [hq] at hh
    obtain ⟨rfl, hg⟩ := hh
    exact ⟨rfl, rd_err (hρ.out.trans (seq_err (seq_err hq))) (hG3.out.trans hg)⟩
  rw [hq] at hh
  obtain ⟨rfl, hU, hg⟩ := hh
  have hw3 := wrap_add a x3
  replace hρ := Lib.hid (hρ.out.trans (seq_ok (x := (a + x3) % 18446744073709551616) (t := t3) (seq_ok hq)))
  generalize hN : (a + x3) % 18446744073709551616 = N3 at *
  clear hq
  have hv := row_gr hv3.out hg hvu
  have hr := row_gr hr3.out hg hru
  have q : w3.cell? ⟨rb + 1, 3, none⟩ = some (.int .u64 0) := hv.cell (i := 3) (by omega)
  have qf := hv.frozen 3
  have hU4 := Lib.hid (hU.put (p := ⟨rb + 1, 3, none⟩) (show u < rb + 1 by omega) (.int .u64 N3))
  have hG4 := Lib.hid ((hG3.out.trans hg).put (p := ⟨rb + 1, 3, none⟩) (show w.heap.size ≤ rb + 1 by rw [hrb.out]; omega) (.int .u64 N3))
  have hv4 : Hid ((w3.setCell ⟨rb + 1, 3, none⟩ (.int .u64 N3)).rowIs (rb + 1) 51 6 (fun i => (#[.string x0, .string x1, .bool x2, .int .u64 N3, .int .i64 0, .int .i64 0] : Array Value).getD i undef)) := Lib.hid (row_set hv rfl (by omega) _)
  have hr4 := Lib.hid (row_put (p := ⟨rb + 1, 3, none⟩) hr (show rb ≠ rb + 1 by omega) (.int .u64 N3))
  clear hv hr hU hg hU3 hG3 hv3 hr3
  try unfold vS
  try unfold vB
  try unfold vU
  try unfold vI
  go_wp2_with (fail)
  refine (short_any _ hU4.out).mono ?_
  rintro e w4 hh
  rcases lim_cases (r := rShort) 3 1 t3 with ⟨k, e1, e2⟩ | ⟨x4, t4, e1, e3, e2⟩ | ⟨x4, t4, e1, e3, e2⟩
  · rw [e1] at hh
    obtain ⟨rfl, hg⟩ := hh
    exact ⟨rfl, rd_err (hρ.out.trans (seq_err (int_err e2))) (hG4.out.trans hg)⟩
  · rw [e1] at hh
    obtain ⟨rfl, hU, hg⟩ := hh
    have hE := Lib.hid (rd_err (val := vV) (hρ.out.trans (seq_err (int_err e2))) (hG4.out.trans hg))
    clear hU hg hρ e1 e2 hG4 hv4 hr4 hU4
    unfold vU
    go_wp2_with (fail)
    refine (most_no x4 3 1 w4 e3 (by omega)).mono ?_
    rintro e w9 ⟨rfl, rfl⟩
    exact ⟨rfl, hE.out⟩
  rw [e1] at hh
  obtain ⟨rfl, hU, hg⟩ := hh
  replace hρ := Lib.hid (hρ.out.trans (seq_ok (int_ok e2)))
  replace hU := Lib.hid hU
  replace hg := Lib.hid hg
  unfold vU
  go_wp2_with (fail)
  refine (most_ok x4 3 1 w4 e3 (by omega)).mono ?_
  rintro e w9 ⟨rfl, rfl⟩
  clear e1 e2 e3
  replace hU := hU.out
  replace hg := hg.out
  have hv := row_gr hv4.out hg hvu
  have hr := row_gr hr4.out hg hru
  have q : w4.cell? ⟨rb + 1, 4, none⟩ = some (.int .i64 0) := hv.cell (i := 4) (by omega)
  have qf := hv.frozen 4
  have hU5 := Lib.hid (hU.put (p := ⟨rb + 1, 4, none⟩) (show u < rb + 1 by omega) (.int .i64 x4))
  have hG5 := Lib.hid ((hG4.out.trans hg).put (p := ⟨rb + 1, 4, none⟩) (show w.heap.size ≤ rb + 1 by rw [hrb.out]; omega) (.int .i64 x4))
  have hv5 : Hid ((w4.setCell ⟨rb + 1, 4, none⟩ (.int .i64 x4)).rowIs (rb + 1) 51 6 (fun i => (#[.string x0, .string x1, .bool x2, .int .u64 N3, .int .i64 x4, .int .i64 0] : Array Value).getD i undef)) := Lib.hid (row_set hv rfl (by omega) _)
  have hr5 := Lib.hid (row_put (p := ⟨rb + 1, 4, none⟩) hr (show rb ≠ rb + 1 by omega) (.int .i64 x4))
  clear hv hr hU hg hU4 hG4 hv4 hr4
  try unfold vS
  try unfold vB
  try unfold vU
  try unfold vI
  go_wp2_with (fail)
  refine (short_any _ hU5.out).mono ?_
  rintro e w5 hh
  rcases lim_cases (r := rShort) 1073741824 1 t4 with ⟨k, e1, e2⟩ | ⟨x5, t5, e1, e3, e2⟩ | ⟨x5, t5, e1, e3, e2⟩
  · rw [e1] at hh
    obtain ⟨rfl, hg⟩ := hh
    exact ⟨rfl, rd_err (hρ.out.trans (seq_err (int_err e2))) (hG5.out.trans hg)⟩
  · rw [e1] at hh
    obtain ⟨rfl, hU, hg⟩ := hh
    have hE := Lib.hid (rd_err (val := vV) (hρ.out.trans (seq_err (int_err e2))) (hG5.out.trans hg))
    clear hU hg hρ e1 e2 hG5 hv5 hr5 hU5
    unfold vU
    go_wp2_with (fail)
    refine (most_no x5 1073741824 1 w5 e3 (by omega)).mono ?_
    rintro e w9 ⟨rfl, rfl⟩
    exact ⟨rfl, hE.out⟩
  rw [e1] at hh
  obtain ⟨rfl, hU, hg⟩ := hh
  replace hρ := Lib.hid (hρ.out.trans (seq_ok (int_ok e2)))
  replace hU := Lib.hid hU
  replace hg := Lib.hid hg
  unfold vU
  go_wp2_with (fail)
  refine (most_ok x5 1073741824 1 w5 e3 (by omega)).mono ?_
  rintro e w9 ⟨rfl, rfl⟩
  clear e1 e2 e3
  replace hU := hU.out
  replace hg := hg.out
  have hv := row_gr hv5.out hg hvu
  have hr := row_gr hr5.out hg hru
  have z0 : w5.cell? ⟨rb + 1, 0, none⟩ = some (.string x0) := hv.cell (i := 0) (by omega)
  have z1 : w5.cell? ⟨rb + 1, 1, none⟩ = some (.string x1) := hv.cell (i := 1) (by omega)
  have z2 : w5.cell? ⟨rb + 1, 2, none⟩ = some (.bool x2) := hv.cell (i := 2) (by omega)
  have z3 : w5.cell? ⟨rb + 1, 3, none⟩ = some (.int .u64 N3) := hv.cell (i := 3) (by omega)
  have z4 : w5.cell? ⟨rb + 1, 4, none⟩ = some (.int .i64 x4) := hv.cell (i := 4) (by omega)
  have y0 : w5.cell? ⟨rb, 0, none⟩ = some (.string ⟨#[]⟩) := hr.cell (i := 0) (by omega)
  have y1 : w5.cell? ⟨rb, 1, none⟩ = some (.string ⟨#[]⟩) := hr.cell (i := 1) (by omega)
  have y2 : w5.cell? ⟨rb, 2, none⟩ = some (.bool false) := hr.cell (i := 2) (by omega)
  have y3 : w5.cell? ⟨rb, 3, none⟩ = some (.int .u64 0) := hr.cell (i := 3) (by omega)
  have y4 : w5.cell? ⟨rb, 4, none⟩ = some (.int .i64 0) := hr.cell (i := 4) (by omega)
  have y5 : w5.cell? ⟨rb, 5, none⟩ = some (.int .i64 0) := hr.cell (i := 5) (by omega)
  have yf0 := hr.frozen 0
  have yf1 := hr.frozen 1
  have yf2 := hr.frozen 2
  have yf3 := hr.frozen 3
  have yf4 := hr.frozen 4
  have yf5 := hr.frozen 5
  have q : w5.cell? ⟨rb + 1, 5, none⟩ = some (.int .i64 0) := hv.cell (i := 5) (by omega)
  have qf := hv.frozen 5
  have hU6 := Lib.hid (hU.put (p := ⟨rb + 1, 5, none⟩) (show u < rb + 1 by omega) (.int .i64 x5))
  have hG6 := Lib.hid ((hG5.out.trans hg).put (p := ⟨rb + 1, 5, none⟩) (show w.heap.size ≤ rb + 1 by rw [hrb.out]; omega) (.int .i64 x5))
  have hv6 : Hid ((w5.setCell ⟨rb + 1, 5, none⟩ (.int .i64 x5)).rowIs (rb + 1) 51 6 (fun i => (#[.string x0, .string x1, .bool x2, .int .u64 N3, .int .i64 x4, .int .i64 x5] : Array Value).getD i undef)) := Lib.hid (row_set hv rfl (by omega) _)
  have hr6 := Lib.hid (row_put (p := ⟨rb + 1, 5, none⟩) hr (show rb ≠ rb + 1 by omega) (.int .i64 x5))
  clear hv hr hU hg hU5 hG5 hv5 hr5
  try unfold vS
  try unfold vB
  try unfold vU
  try unfold vI
  go_wp2
  refine bodyPost_ret (v := vV ⟨x0, x1, x2, N3, (x4 : Int), (x5 : Int)⟩) ?_ rfl (rd_ok (val := vV) (x := ⟨x0, x1, x2, N3, (x4 : Int), (x5 : Int)⟩) hρ.out ((((((hU6.out.put (p := ⟨rb, 0, none⟩) (show u < rb by omega) _).put (p := ⟨rb, 1, none⟩) (show u < rb by omega) _).put (p := ⟨rb, 2, none⟩) (show u < rb by omega) _).put (p := ⟨rb, 3, none⟩) (show u < rb by omega) _).put (p := ⟨rb, 4, none⟩) (show u < rb by omega) _).put (p := ⟨rb, 5, none⟩) (show u < rb by omega) _) ((((((hG6.out.put (p := ⟨rb, 0, none⟩) (show w.heap.size ≤ rb by rw [hrb.out]; omega) _).put (p := ⟨rb, 1, none⟩) (show w.heap.size ≤ rb by rw [hrb.out]; omega) _).put (p := ⟨rb, 2, none⟩) (show w.heap.size ≤ rb by rw [hrb.out]; omega) _).put (p := ⟨rb, 3, none⟩) (show w.heap.size ≤ rb by rw [hrb.out]; omega) _).put (p := ⟨rb, 4, none⟩) (show w.heap.size ≤ rb by rw [hrb.out]; omega) _).put (p := ⟨rb, 5, none⟩) (show w.heap.size ≤ rb by rw [hrb.out]; omega) _))
  simp [results, Try.results89, go_sem, vV, y0, y1, y2, y3, y4, y5]
set_option maxRecDepth 100000 in
set_option maxHeartbeats 2000000 in
theorem ecmd_any {u : Nat} {l : List Nat} (w : World) (h : UAt w u l) : Calls Try.prog 67 #[.pointer (some ⟨u, 0, none⟩)] w (Rd u vC w (rCmd rNum1 (rTx (rWide 1) 16) l)) := by
  have hρ : Hid (rCmd rNum1 (rTx (rWide 1) 16) l = rCmd rNum1 (rTx (rWide 1) 16) l) := Lib.hid rfl
  generalize hρ0 : rCmd rNum1 (rTx (rWide 1) 16) l = ρ at hρ ⊢
  replace hρ : Hid (ρ = rCmd rNum1 (rTx (rWide 1) 16) l) := Lib.hid hρ0.symm
  clear hρ0
  unfold rCmd at hρ
  have hul := h.lt
  have hU0 := Lib.hid ((h.alloc (.cells #[.int .i64 0, .int .i64 0, .int .i64 0, .int .i64 0, .int .i64 0, .string ⟨#[]⟩] 26)).alloc (.cells #[.int .i64 0, .int .i64 0, .int .i64 0, .int .i64 0, .int .i64 0, .string ⟨#[]⟩] 26))
  have hG0 := Lib.hid (((Gr.refl u w).alloc (.cells #[.int .i64 0, .int .i64 0, .int .i64 0, .int .i64 0, .int .i64 0, .string ⟨#[]⟩] 26)).alloc (.cells #[.int .i64 0, .int .i64 0, .int .i64 0, .int .i64 0, .int .i64 0, .string ⟨#[]⟩] 26))
  have hr0 : Hid (((w.alloc (.cells #[.int .i64 0, .int .i64 0, .int .i64 0, .int .i64 0, .int .i64 0, .string ⟨#[]⟩] 26)).alloc (.cells #[.int .i64 0, .int .i64 0, .int .i64 0, .int .i64 0, .int .i64 0, .string ⟨#[]⟩] 26)).rowIs w.heap.size 26 6 (fun i => (#[.int .i64 0, .int .i64 0, .int .i64 0, .int .i64 0, .int .i64 0, .string ⟨#[]⟩] : Array Value).getD i undef)) := Lib.hid ((row_new w #[.int .i64 0, .int .i64 0, .int .i64 0, .int .i64 0, .int .i64 0, .string ⟨#[]⟩] 26).of_block (Below.heap_alloc _ _ _ (by simp)))
  have hv0 : Hid (((w.alloc (.cells #[.int .i64 0, .int .i64 0, .int .i64 0, .int .i64 0, .int .i64 0, .string ⟨#[]⟩] 26)).alloc (.cells #[.int .i64 0, .int .i64 0, .int .i64 0, .int .i64 0, .int .i64 0, .string ⟨#[]⟩] 26)).rowIs (w.heap.size + 1) 26 6 (fun i => (#[.int .i64 0, .int .i64 0, .int .i64 0, .int .i64 0, .int .i64 0, .string ⟨#[]⟩] : Array Value).getD i undef)) := Lib.hid (by have := row_new (w.alloc (.cells #[.int .i64 0, .int .i64 0, .int .i64 0, .int .i64 0, .int .i64 0, .string ⟨#[]⟩] 26)) #[.int .i64 0, .int .i64 0, .int .i64 0, .int .i64 0, .int .i64 0, .string ⟨#[]⟩] 26; simpa using this)
  clear h
  go_enter Try.func67, Try.ntmps67
  go_wp2_with (fail)
  generalize (w.alloc (.cells #[.int .i64 0, .int .i64 0, .int .i64 0, .int .i64 0, .int .i64 0, .string ⟨#[]⟩] 26)).alloc (.cells #[.int .i64 0, .int .i64 0, .int .i64 0, .int .i64 0, .int .i64 0, .string ⟨#[]⟩] 26) = W0 at *
  have hvu : w.heap.size + 1 ≠ u := by omega
  have hru : w.heap.size ≠ u := by omega
  generalize hrb : w.heap.size = rb at *
  replace hrb := Lib.hid hrb
  refine (wide_any 1 _ hU0.out (by omega) (by omega)).mono ?_
  rintro e w0 hh
  rcases hq : rWide 1 l with k | ⟨x0, t0⟩
  · rw [hq] at hh
    obtain ⟨rfl, hg⟩ := hh
    exact ⟨rfl, rd_err (hρ.out.trans (seq_err (int_err hq))) (hG0.out.trans hg)⟩
  rw [hq] at hh
  obtain ⟨rfl, hU, hg⟩ := hh
  have hx0 := wide1_lt hU0.out.lt256 hq
  replace hρ := Lib.hid (hρ.out.trans (seq_ok (int_ok hq)))
  have hw0 : IntKind.i64.wrap (x0 : Int) = x0 := IntWalk.i64_in _ ⟨by omega, by omega⟩
  clear hq
  have hv := row_gr hv0.out hg hvu
  have hr := row_gr hr0.out hg hru
  have q : w0.cell? ⟨rb + 1, 0, none⟩ = some (.int .i64 0) := hv.cell (i := 0) (by omega)
  have qf := hv.frozen 0
  have hU1 := Lib.hid (hU.put (p := ⟨rb + 1, 0, none⟩) (show u < rb + 1 by omega) (.int .i64 x0))
  have hG1 := Lib.hid ((hG0.out.trans hg).put (p := ⟨rb + 1, 0, none⟩) (show w.heap.size ≤ rb + 1 by rw [hrb.out]; omega) (.int .i64 x0))
  have hv1 : Hid ((w0.setCell ⟨rb + 1, 0, none⟩ (.int .i64 x0)).rowIs (rb + 1) 26 6 (fun i => (#[.int .i64 x0, .int .i64 0, .int .i64 0, .int .i64 0, .int .i64 0, .string ⟨#[]⟩] : Array Value).getD i undef)) := Lib.hid (row_set hv rfl (by omega) _)
  have hr1 := Lib.hid (row_put (p := ⟨rb + 1, 0, none⟩) hr (show rb ≠ rb + 1 by omega) (.int .i64 x0))
  clear hv hr hU hg hU0 hG0 hv0 hr0
  try unfold vS
  try unfold vB
  try unfold vU
  try unfold vI
  go_wp2_with (fail)
  refine (wide_any 1 _ hU1.out (by omega) (by omega)).mono ?_
  rintro e w1 hh
  rcases hq : rWide 1 t0 with k | ⟨x1, t1⟩
  · rw [hq] at hh
    obtain ⟨rfl, hg⟩ := hh
    exact ⟨rfl, rd_err (hρ.out.trans (seq_err (int_err hq))) (hG1.out.trans hg)⟩
  rw [hq] at hh
  obtain ⟨rfl, hU, hg⟩ := hh
  have hx1 := wide1_lt hU1.out.lt256 hq
  replace hρ := Lib.hid (hρ.out.trans (seq_ok (int_ok hq)))
  have hw1 : IntKind.i64.wrap (x1 : Int) = x1 := IntWalk.i64_in _ ⟨by omega, by omega⟩
  clear hq
  have hv := row_gr hv1.out hg hvu
  have hr := row_gr hr1.out hg hru
  have q : w1.cell? ⟨rb + 1, 1, none⟩ = some (.int .i64 0) := hv.cell (i := 1) (by omega)
  have qf := hv.frozen 1
  have hU2 := Lib.hid (hU.put (p := ⟨rb + 1, 1, none⟩) (show u < rb + 1 by omega) (.int .i64 x1))
  have hG2 := Lib.hid ((hG1.out.trans hg).put (p := ⟨rb + 1, 1, none⟩) (show w.heap.size ≤ rb + 1 by rw [hrb.out]; omega) (.int .i64 x1))
  have hv2 : Hid ((w1.setCell ⟨rb + 1, 1, none⟩ (.int .i64 x1)).rowIs (rb + 1) 26 6 (fun i => (#[.int .i64 x0, .int .i64 x1, .int .i64 0, .int .i64 0, .int .i64 0, .string ⟨#[]⟩] : Array Value).getD i undef)) := Lib.hid (row_set hv rfl (by omega) _)
  have hr2 := Lib.hid (row_put (p := ⟨rb + 1, 1, none⟩) hr (show rb ≠ rb + 1 by omega) (.int .i64 x1))
  clear hv hr hU hg hU1 hG1 hv1 hr1
  try unfold vS
  try unfold vB
  try unfold vU
  try unfold vI
  go_wp2_with (fail)
  refine (wide_any 1 _ hU2.out (by omega) (by omega)).mono ?_
  rintro e w2 hh
  rcases hq : rWide 1 t1 with k | ⟨x2, t2⟩
  · rw [hq] at hh
    obtain ⟨rfl, hg⟩ := hh
    exact ⟨rfl, rd_err (hρ.out.trans (seq_err (int_err hq))) (hG2.out.trans hg)⟩
  rw [hq] at hh
  obtain ⟨rfl, hU, hg⟩ := hh
  have hx2 := wide1_lt hU2.out.lt256 hq
  replace hρ := Lib.hid (hρ.out.trans (seq_ok (int_ok hq)))
  have hw2 : IntKind.i64.wrap (x2 : Int) = x2 := IntWalk.i64_in _ ⟨by omega, by omega⟩
  clear hq
  have hv := row_gr hv2.out hg hvu
  have hr := row_gr hr2.out hg hru
  have q : w2.cell? ⟨rb + 1, 2, none⟩ = some (.int .i64 0) := hv.cell (i := 2) (by omega)
  have qf := hv.frozen 2
  have hU3 := Lib.hid (hU.put (p := ⟨rb + 1, 2, none⟩) (show u < rb + 1 by omega) (.int .i64 x2))
  have hG3 := Lib.hid ((hG2.out.trans hg).put (p := ⟨rb + 1, 2, none⟩) (show w.heap.size ≤ rb + 1 by rw [hrb.out]; omega) (.int .i64 x2))
  have hv3 : Hid ((w2.setCell ⟨rb + 1, 2, none⟩ (.int .i64 x2)).rowIs (rb + 1) 26 6 (fun i => (#[.int .i64 x0, .int .i64 x1, .int .i64 x2, .int .i64 0, .int .i64 0, .string ⟨#[]⟩] : Array Value).getD i undef)) := Lib.hid (row_set hv rfl (by omega) _)
  have hr3 := Lib.hid (row_put (p := ⟨rb + 1, 2, none⟩) hr (show rb ≠ rb + 1 by omega) (.int .i64 x2))
  clear hv hr hU hg hU2 hG2 hv2 hr2
  try unfold vS
  try unfold vB
  try unfold vU
  try unfold vI
  go_wp2_with (fail)
  refine (wide_any 1 _ hU3.out (by omega) (by omega)).mono ?_
  rintro e w3 hh
  rcases hq : rWide 1 t2 with k | ⟨x3, t3⟩
  · rw [hq] at hh
    obtain ⟨rfl, hg⟩ := hh
    exact ⟨rfl, rd_err (hρ.out.trans (seq_err (int_err hq))) (hG3.out.trans hg)⟩
  rw [hq] at hh
  obtain ⟨rfl, hU, hg⟩ := hh
  have hx3 := wide1_lt hU3.out.lt256 hq
  replace hρ := Lib.hid (hρ.out.trans (seq_ok (int_ok hq)))
  have hw3 : IntKind.i64.wrap (x3 : Int) = x3 := IntWalk.i64_in _ ⟨by omega, by omega⟩
  clear hq
  have hv := row_gr hv3.out hg hvu
  have hr := row_gr hr3.out hg hru
  have q : w3.cell? ⟨rb + 1, 3, none⟩ = some (.int .i64 0) := hv.cell (i := 3) (by omega)
  have qf := hv.frozen 3
  have hU4 := Lib.hid (hU.put (p := ⟨rb + 1, 3, none⟩) (show u < rb + 1 by omega) (.int .i64 x3))
  have hG4 := Lib.hid ((hG3.out.trans hg).put (p := ⟨rb + 1, 3, none⟩) (show w.heap.size ≤ rb + 1 by rw [hrb.out]; omega) (.int .i64 x3))
  have hv4 : Hid ((w3.setCell ⟨rb + 1, 3, none⟩ (.int .i64 x3)).rowIs (rb + 1) 26 6 (fun i => (#[.int .i64 x0, .int .i64 x1, .int .i64 x2, .int .i64 x3, .int .i64 0, .string ⟨#[]⟩] : Array Value).getD i undef)) := Lib.hid (row_set hv rfl (by omega) _)
  have hr4 := Lib.hid (row_put (p := ⟨rb + 1, 3, none⟩) hr (show rb ≠ rb + 1 by omega) (.int .i64 x3))
  clear hv hr hU hg hU3 hG3 hv3 hr3
  try unfold vS
  try unfold vB
  try unfold vU
  try unfold vI
  go_wp2_with (fail)
  refine (wide_any 1 _ hU4.out (by omega) (by omega)).mono ?_
  rintro e w4 hh
  rcases hq : rWide 1 t3 with k | ⟨x4, t4⟩
  · rw [hq] at hh
    obtain ⟨rfl, hg⟩ := hh
    exact ⟨rfl, rd_err (hρ.out.trans (seq_err (int_err hq))) (hG4.out.trans hg)⟩
  rw [hq] at hh
  obtain ⟨rfl, hU, hg⟩ := hh
  have hx4 := wide1_lt hU4.out.lt256 hq
  replace hρ := Lib.hid (hρ.out.trans (seq_ok (int_ok hq)))
  have hw4 : IntKind.i64.wrap (x4 : Int) = x4 := IntWalk.i64_in _ ⟨by omega, by omega⟩
  clear hq
  have hv := row_gr hv4.out hg hvu
  have hr := row_gr hr4.out hg hru
  have q : w4.cell? ⟨rb + 1, 4, none⟩ = some (.int .i64 0) := hv.cell (i := 4) (by omega)
  have qf := hv.frozen 4
  have hU5 := Lib.hid (hU.put (p := ⟨rb + 1, 4, none⟩) (show u < rb + 1 by omega) (.int .i64 x4))
  have hG5 := Lib.hid ((hG4.out.trans hg).put (p := ⟨rb + 1, 4, none⟩) (show w.heap.size ≤ rb + 1 by rw [hrb.out]; omega) (.int .i64 x4))
  have hv5 : Hid ((w4.setCell ⟨rb + 1, 4, none⟩ (.int .i64 x4)).rowIs (rb + 1) 26 6 (fun i => (#[.int .i64 x0, .int .i64 x1, .int .i64 x2, .int .i64 x3, .int .i64 x4, .string ⟨#[]⟩] : Array Value).getD i undef)) := Lib.hid (row_set hv rfl (by omega) _)
  have hr5 := Lib.hid (row_put (p := ⟨rb + 1, 4, none⟩) hr (show rb ≠ rb + 1 by omega) (.int .i64 x4))
  clear hv hr hU hg hU4 hG4 hv4 hr4
  try unfold vS
  try unfold vB
  try unfold vU
  try unfold vI
  go_wp2_with (fail)
  refine (etext_any 16 _ hU5.out (by omega)).mono ?_
  rintro e w5 hh
  rcases hq : rTx (rWide 1) 16 t4 with k | ⟨x5, t5⟩
  · rw [hq] at hh
    obtain ⟨rfl, hg⟩ := hh
    exact ⟨rfl, rd_err (hρ.out.trans (seq_err hq)) (hG5.out.trans hg)⟩
  rw [hq] at hh
  obtain ⟨rfl, hU, hg⟩ := hh
  replace hρ := Lib.hid (hρ.out.trans (seq_ok hq))
  clear hq
  have hv := row_gr hv5.out hg hvu
  have hr := row_gr hr5.out hg hru
  have z0 : w5.cell? ⟨rb + 1, 0, none⟩ = some (.int .i64 x0) := hv.cell (i := 0) (by omega)
  have z1 : w5.cell? ⟨rb + 1, 1, none⟩ = some (.int .i64 x1) := hv.cell (i := 1) (by omega)
  have z2 : w5.cell? ⟨rb + 1, 2, none⟩ = some (.int .i64 x2) := hv.cell (i := 2) (by omega)
  have z3 : w5.cell? ⟨rb + 1, 3, none⟩ = some (.int .i64 x3) := hv.cell (i := 3) (by omega)
  have z4 : w5.cell? ⟨rb + 1, 4, none⟩ = some (.int .i64 x4) := hv.cell (i := 4) (by omega)
  have y0 : w5.cell? ⟨rb, 0, none⟩ = some (.int .i64 0) := hr.cell (i := 0) (by omega)
  have y1 : w5.cell? ⟨rb, 1, none⟩ = some (.int .i64 0) := hr.cell (i := 1) (by omega)
  have y2 : w5.cell? ⟨rb, 2, none⟩ = some (.int .i64 0) := hr.cell (i := 2) (by omega)
  have y3 : w5.cell? ⟨rb, 3, none⟩ = some (.int .i64 0) := hr.cell (i := 3) (by omega)
  have y4 : w5.cell? ⟨rb, 4, none⟩ = some (.int .i64 0) := hr.cell (i := 4) (by omega)
  have y5 : w5.cell? ⟨rb, 5, none⟩ = some (.string ⟨#[]⟩) := hr.cell (i := 5) (by omega)
  have yf0 := hr.frozen 0
  have yf1 := hr.frozen 1
  have yf2 := hr.frozen 2
  have yf3 := hr.frozen 3
  have yf4 := hr.frozen 4
  have yf5 := hr.frozen 5
  have q : w5.cell? ⟨rb + 1, 5, none⟩ = some (.string ⟨#[]⟩) := hv.cell (i := 5) (by omega)
  have qf := hv.frozen 5
  have hU6 := Lib.hid (hU.put (p := ⟨rb + 1, 5, none⟩) (show u < rb + 1 by omega) (.string x5))
  have hG6 := Lib.hid ((hG5.out.trans hg).put (p := ⟨rb + 1, 5, none⟩) (show w.heap.size ≤ rb + 1 by rw [hrb.out]; omega) (.string x5))
  have hv6 : Hid ((w5.setCell ⟨rb + 1, 5, none⟩ (.string x5)).rowIs (rb + 1) 26 6 (fun i => (#[.int .i64 x0, .int .i64 x1, .int .i64 x2, .int .i64 x3, .int .i64 x4, .string x5] : Array Value).getD i undef)) := Lib.hid (row_set hv rfl (by omega) _)
  have hr6 := Lib.hid (row_put (p := ⟨rb + 1, 5, none⟩) hr (show rb ≠ rb + 1 by omega) (.string x5))
  clear hv hr hU hg hU5 hG5 hv5 hr5
  try unfold vS
  try unfold vB
  try unfold vU
  try unfold vI
  go_wp2
  refine bodyPost_ret (v := vC ⟨(x0 : Int), (x1 : Int), (x2 : Int), (x3 : Int), (x4 : Int), x5⟩) ?_ rfl (rd_ok (val := vC) (x := ⟨(x0 : Int), (x1 : Int), (x2 : Int), (x3 : Int), (x4 : Int), x5⟩) hρ.out ((((((hU6.out.put (p := ⟨rb, 0, none⟩) (show u < rb by omega) _).put (p := ⟨rb, 1, none⟩) (show u < rb by omega) _).put (p := ⟨rb, 2, none⟩) (show u < rb by omega) _).put (p := ⟨rb, 3, none⟩) (show u < rb by omega) _).put (p := ⟨rb, 4, none⟩) (show u < rb by omega) _).put (p := ⟨rb, 5, none⟩) (show u < rb by omega) _) ((((((hG6.out.put (p := ⟨rb, 0, none⟩) (show w.heap.size ≤ rb by rw [hrb.out]; omega) _).put (p := ⟨rb, 1, none⟩) (show w.heap.size ≤ rb by rw [hrb.out]; omega) _).put (p := ⟨rb, 2, none⟩) (show w.heap.size ≤ rb by rw [hrb.out]; omega) _).put (p := ⟨rb, 3, none⟩) (show w.heap.size ≤ rb by rw [hrb.out]; omega) _).put (p := ⟨rb, 4, none⟩) (show w.heap.size ≤ rb by rw [hrb.out]; omega) _).put (p := ⟨rb, 5, none⟩) (show w.heap.size ≤ rb by rw [hrb.out]; omega) _))
  simp [results, Try.results67, go_sem, vC, y0, y1, y2, y3, y4, y5]
set_option maxRecDepth 100000 in
set_option maxHeartbeats 2000000 in
theorem ncmd_any {u : Nat} {l : List Nat} (w : World) (h : UAt w u l) : Calls Try.prog 72 #[.pointer (some ⟨u, 0, none⟩)] w (Rd u vC w (rCC l)) := by
  have hρ : Hid (rCC l = rCC l) := Lib.hid rfl
  generalize hρ0 : rCC l = ρ at hρ ⊢
  replace hρ : Hid (ρ = rCC l) := Lib.hid hρ0.symm
  clear hρ0
  unfold rCC at hρ
  have hul := h.lt
  have hU0 := Lib.hid ((h.alloc (.cells #[.int .i64 0, .int .i64 0, .int .i64 0, .int .i64 0, .int .i64 0, .string ⟨#[]⟩] 26)).alloc (.cells #[.int .i64 0, .int .i64 0, .int .i64 0, .int .i64 0, .int .i64 0, .string ⟨#[]⟩] 26))
  have hG0 := Lib.hid (((Gr.refl u w).alloc (.cells #[.int .i64 0, .int .i64 0, .int .i64 0, .int .i64 0, .int .i64 0, .string ⟨#[]⟩] 26)).alloc (.cells #[.int .i64 0, .int .i64 0, .int .i64 0, .int .i64 0, .int .i64 0, .string ⟨#[]⟩] 26))
  have hr0 : Hid (((w.alloc (.cells #[.int .i64 0, .int .i64 0, .int .i64 0, .int .i64 0, .int .i64 0, .string ⟨#[]⟩] 26)).alloc (.cells #[.int .i64 0, .int .i64 0, .int .i64 0, .int .i64 0, .int .i64 0, .string ⟨#[]⟩] 26)).rowIs w.heap.size 26 6 (fun i => (#[.int .i64 0, .int .i64 0, .int .i64 0, .int .i64 0, .int .i64 0, .string ⟨#[]⟩] : Array Value).getD i undef)) := Lib.hid ((row_new w #[.int .i64 0, .int .i64 0, .int .i64 0, .int .i64 0, .int .i64 0, .string ⟨#[]⟩] 26).of_block (Below.heap_alloc _ _ _ (by simp)))
  have hv0 : Hid (((w.alloc (.cells #[.int .i64 0, .int .i64 0, .int .i64 0, .int .i64 0, .int .i64 0, .string ⟨#[]⟩] 26)).alloc (.cells #[.int .i64 0, .int .i64 0, .int .i64 0, .int .i64 0, .int .i64 0, .string ⟨#[]⟩] 26)).rowIs (w.heap.size + 1) 26 6 (fun i => (#[.int .i64 0, .int .i64 0, .int .i64 0, .int .i64 0, .int .i64 0, .string ⟨#[]⟩] : Array Value).getD i undef)) := Lib.hid (by have := row_new (w.alloc (.cells #[.int .i64 0, .int .i64 0, .int .i64 0, .int .i64 0, .int .i64 0, .string ⟨#[]⟩] 26)) #[.int .i64 0, .int .i64 0, .int .i64 0, .int .i64 0, .int .i64 0, .string ⟨#[]⟩] 26; simpa using this)
  clear h
  go_enter Try.func72, Try.ntmps72
  go_wp2_with (fail)
  generalize (w.alloc (.cells #[.int .i64 0, .int .i64 0, .int .i64 0, .int .i64 0, .int .i64 0, .string ⟨#[]⟩] 26)).alloc (.cells #[.int .i64 0, .int .i64 0, .int .i64 0, .int .i64 0, .int .i64 0, .string ⟨#[]⟩] 26) = W0 at *
  have hvu : w.heap.size + 1 ≠ u := by omega
  have hru : w.heap.size ≠ u := by omega
  generalize hrb : w.heap.size = rb at *
  replace hrb := Lib.hid hrb
  refine (cmdn_any _ hU0.out).mono ?_
  rintro e w0 hh
  rcases hq : rNum2 l with k | ⟨x0, t0⟩
  · rw [hq] at hh
    obtain ⟨rfl, hg⟩ := hh
    exact ⟨rfl, rd_err (hρ.out.trans (seq2_err hq)) (hG0.out.trans hg)⟩
  rw [hq] at hh
  obtain ⟨rfl, hU, hg⟩ := hh
  replace hρ := Lib.hid (hρ.out.trans (seq2_ok hq))
  clear hq
  have hv := row_gr hv0.out hg hvu
  have hr := row_gr hr0.out hg hru
  have q : w0.cell? ⟨rb + 1, 0, none⟩ = some (.int .i64 0) := hv.cell (i := 0) (by omega)
  have qf := hv.frozen 0
  have hU1 := Lib.hid (hU.put (p := ⟨rb + 1, 0, none⟩) (show u < rb + 1 by omega) (.int .i64 x0))
  have hG1 := Lib.hid ((hG0.out.trans hg).put (p := ⟨rb + 1, 0, none⟩) (show w.heap.size ≤ rb + 1 by rw [hrb.out]; omega) (.int .i64 x0))
  have hv1 : Hid ((w0.setCell ⟨rb + 1, 0, none⟩ (.int .i64 x0)).rowIs (rb + 1) 26 6 (fun i => (#[.int .i64 x0, .int .i64 0, .int .i64 0, .int .i64 0, .int .i64 0, .string ⟨#[]⟩] : Array Value).getD i undef)) := Lib.hid (row_set hv rfl (by omega) _)
  have hr1 := Lib.hid (row_put (p := ⟨rb + 1, 0, none⟩) hr (show rb ≠ rb + 1 by omega) (.int .i64 x0))
  clear hv hr hU hg hU0 hG0 hv0 hr0
  try unfold vS
  try unfold vB
  try unfold vU
  try unfold vI
  go_wp2_with (fail)
  refine (cmdn_any _ hU1.out).mono ?_
  rintro e w1 hh
  rcases hq : rNum2 t0 with k | ⟨x1, t1⟩
  · rw [hq] at hh
    obtain ⟨rfl, hg⟩ := hh
    exact ⟨rfl, rd_err (hρ.out.trans (seq2_err hq)) (hG1.out.trans hg)⟩
  rw [hq] at hh
  obtain ⟨rfl, hU, hg⟩ := hh
  replace hρ := Lib.hid (hρ.out.trans (seq2_ok hq))
  clear hq
  have hv := row_gr hv1.out hg hvu
  have hr := row_gr hr1.out hg hru
  have q : w1.cell? ⟨rb + 1, 1, none⟩ = some (.int .i64 0) := hv.cell (i := 1) (by omega)
  have qf := hv.frozen 1
  have hU2 := Lib.hid (hU.put (p := ⟨rb + 1, 1, none⟩) (show u < rb + 1 by omega) (.int .i64 x1))
  have hG2 := Lib.hid ((hG1.out.trans hg).put (p := ⟨rb + 1, 1, none⟩) (show w.heap.size ≤ rb + 1 by rw [hrb.out]; omega) (.int .i64 x1))
  have hv2 : Hid ((w1.setCell ⟨rb + 1, 1, none⟩ (.int .i64 x1)).rowIs (rb + 1) 26 6 (fun i => (#[.int .i64 x0, .int .i64 x1, .int .i64 0, .int .i64 0, .int .i64 0, .string ⟨#[]⟩] : Array Value).getD i undef)) := Lib.hid (row_set hv rfl (by omega) _)
  have hr2 := Lib.hid (row_put (p := ⟨rb + 1, 1, none⟩) hr (show rb ≠ rb + 1 by omega) (.int .i64 x1))
  clear hv hr hU hg hU1 hG1 hv1 hr1
  try unfold vS
  try unfold vB
  try unfold vU
  try unfold vI
  go_wp2_with (fail)
  refine (cmdn_any _ hU2.out).mono ?_
  rintro e w2 hh
  rcases hq : rNum2 t1 with k | ⟨x2, t2⟩
  · rw [hq] at hh
    obtain ⟨rfl, hg⟩ := hh
    exact ⟨rfl, rd_err (hρ.out.trans (seq2_err hq)) (hG2.out.trans hg)⟩
  rw [hq] at hh
  obtain ⟨rfl, hU, hg⟩ := hh
  replace hρ := Lib.hid (hρ.out.trans (seq2_ok hq))
  clear hq
  have hv := row_gr hv2.out hg hvu
  have hr := row_gr hr2.out hg hru
  have q : w2.cell? ⟨rb + 1, 2, none⟩ = some (.int .i64 0) := hv.cell (i := 2) (by omega)
  have qf := hv.frozen 2
  have hU3 := Lib.hid (hU.put (p := ⟨rb + 1, 2, none⟩) (show u < rb + 1 by omega) (.int .i64 x2))
  have hG3 := Lib.hid ((hG2.out.trans hg).put (p := ⟨rb + 1, 2, none⟩) (show w.heap.size ≤ rb + 1 by rw [hrb.out]; omega) (.int .i64 x2))
  have hv3 : Hid ((w2.setCell ⟨rb + 1, 2, none⟩ (.int .i64 x2)).rowIs (rb + 1) 26 6 (fun i => (#[.int .i64 x0, .int .i64 x1, .int .i64 x2, .int .i64 0, .int .i64 0, .string ⟨#[]⟩] : Array Value).getD i undef)) := Lib.hid (row_set hv rfl (by omega) _)
  have hr3 := Lib.hid (row_put (p := ⟨rb + 1, 2, none⟩) hr (show rb ≠ rb + 1 by omega) (.int .i64 x2))
  clear hv hr hU hg hU2 hG2 hv2 hr2
  try unfold vS
  try unfold vB
  try unfold vU
  try unfold vI
  go_wp2_with (fail)
  refine (cmdn_any _ hU3.out).mono ?_
  rintro e w3 hh
  rcases hq : rNum2 t2 with k | ⟨x3, t3⟩
  · rw [hq] at hh
    obtain ⟨rfl, hg⟩ := hh
    exact ⟨rfl, rd_err (hρ.out.trans (seq2_err hq)) (hG3.out.trans hg)⟩
  rw [hq] at hh
  obtain ⟨rfl, hU, hg⟩ := hh
  replace hρ := Lib.hid (hρ.out.trans (seq2_ok hq))
  clear hq
  have hv := row_gr hv3.out hg hvu
  have hr := row_gr hr3.out hg hru
  have q : w3.cell? ⟨rb + 1, 3, none⟩ = some (.int .i64 0) := hv.cell (i := 3) (by omega)
  have qf := hv.frozen 3
  have hU4 := Lib.hid (hU.put (p := ⟨rb + 1, 3, none⟩) (show u < rb + 1 by omega) (.int .i64 x3))
  have hG4 := Lib.hid ((hG3.out.trans hg).put (p := ⟨rb + 1, 3, none⟩) (show w.heap.size ≤ rb + 1 by rw [hrb.out]; omega) (.int .i64 x3))
  have hv4 : Hid ((w3.setCell ⟨rb + 1, 3, none⟩ (.int .i64 x3)).rowIs (rb + 1) 26 6 (fun i => (#[.int .i64 x0, .int .i64 x1, .int .i64 x2, .int .i64 x3, .int .i64 0, .string ⟨#[]⟩] : Array Value).getD i undef)) := Lib.hid (row_set hv rfl (by omega) _)
  have hr4 := Lib.hid (row_put (p := ⟨rb + 1, 3, none⟩) hr (show rb ≠ rb + 1 by omega) (.int .i64 x3))
  clear hv hr hU hg hU3 hG3 hv3 hr3
  try unfold vS
  try unfold vB
  try unfold vU
  try unfold vI
  go_wp2_with (fail)
  refine (cmdn_any _ hU4.out).mono ?_
  rintro e w4 hh
  rcases hq : rNum2 t3 with k | ⟨x4, t4⟩
  · rw [hq] at hh
    obtain ⟨rfl, hg⟩ := hh
    exact ⟨rfl, rd_err (hρ.out.trans (seq2_err hq)) (hG4.out.trans hg)⟩
  rw [hq] at hh
  obtain ⟨rfl, hU, hg⟩ := hh
  replace hρ := Lib.hid (hρ.out.trans (seq2_ok hq))
  clear hq
  have hv := row_gr hv4.out hg hvu
  have hr := row_gr hr4.out hg hru
  have q : w4.cell? ⟨rb + 1, 4, none⟩ = some (.int .i64 0) := hv.cell (i := 4) (by omega)
  have qf := hv.frozen 4
  have hU5 := Lib.hid (hU.put (p := ⟨rb + 1, 4, none⟩) (show u < rb + 1 by omega) (.int .i64 x4))
  have hG5 := Lib.hid ((hG4.out.trans hg).put (p := ⟨rb + 1, 4, none⟩) (show w.heap.size ≤ rb + 1 by rw [hrb.out]; omega) (.int .i64 x4))
  have hv5 : Hid ((w4.setCell ⟨rb + 1, 4, none⟩ (.int .i64 x4)).rowIs (rb + 1) 26 6 (fun i => (#[.int .i64 x0, .int .i64 x1, .int .i64 x2, .int .i64 x3, .int .i64 x4, .string ⟨#[]⟩] : Array Value).getD i undef)) := Lib.hid (row_set hv rfl (by omega) _)
  have hr5 := Lib.hid (row_put (p := ⟨rb + 1, 4, none⟩) hr (show rb ≠ rb + 1 by omega) (.int .i64 x4))
  clear hv hr hU hg hU4 hG4 hv4 hr4
  try unfold vS
  try unfold vB
  try unfold vU
  try unfold vI
  go_wp2_with (fail)
  refine (ntext_any 16 _ hU5.out (by omega)).mono ?_
  rintro e w5 hh
  rcases hq : rTx rShort 16 t4 with k | ⟨x5, t5⟩
  · rw [hq] at hh
    obtain ⟨rfl, hg⟩ := hh
    exact ⟨rfl, rd_err (hρ.out.trans (seq2_err hq)) (hG5.out.trans hg)⟩
  rw [hq] at hh
  obtain ⟨rfl, hU, hg⟩ := hh
  replace hρ := Lib.hid (hρ.out.trans (seq2_ok hq))
  clear hq
  have hv := row_gr hv5.out hg hvu
  have hr := row_gr hr5.out hg hru
  have z0 : w5.cell? ⟨rb + 1, 0, none⟩ = some (.int .i64 x0) := hv.cell (i := 0) (by omega)
  have z1 : w5.cell? ⟨rb + 1, 1, none⟩ = some (.int .i64 x1) := hv.cell (i := 1) (by omega)
  have z2 : w5.cell? ⟨rb + 1, 2, none⟩ = some (.int .i64 x2) := hv.cell (i := 2) (by omega)
  have z3 : w5.cell? ⟨rb + 1, 3, none⟩ = some (.int .i64 x3) := hv.cell (i := 3) (by omega)
  have z4 : w5.cell? ⟨rb + 1, 4, none⟩ = some (.int .i64 x4) := hv.cell (i := 4) (by omega)
  have y0 : w5.cell? ⟨rb, 0, none⟩ = some (.int .i64 0) := hr.cell (i := 0) (by omega)
  have y1 : w5.cell? ⟨rb, 1, none⟩ = some (.int .i64 0) := hr.cell (i := 1) (by omega)
  have y2 : w5.cell? ⟨rb, 2, none⟩ = some (.int .i64 0) := hr.cell (i := 2) (by omega)
  have y3 : w5.cell? ⟨rb, 3, none⟩ = some (.int .i64 0) := hr.cell (i := 3) (by omega)
  have y4 : w5.cell? ⟨rb, 4, none⟩ = some (.int .i64 0) := hr.cell (i := 4) (by omega)
  have y5 : w5.cell? ⟨rb, 5, none⟩ = some (.string ⟨#[]⟩) := hr.cell (i := 5) (by omega)
  have yf0 := hr.frozen 0
  have yf1 := hr.frozen 1
  have yf2 := hr.frozen 2
  have yf3 := hr.frozen 3
  have yf4 := hr.frozen 4
  have yf5 := hr.frozen 5
  have q : w5.cell? ⟨rb + 1, 5, none⟩ = some (.string ⟨#[]⟩) := hv.cell (i := 5) (by omega)
  have qf := hv.frozen 5
  have hU6 := Lib.hid (hU.put (p := ⟨rb + 1, 5, none⟩) (show u < rb + 1 by omega) (.string x5))
  have hG6 := Lib.hid ((hG5.out.trans hg).put (p := ⟨rb + 1, 5, none⟩) (show w.heap.size ≤ rb + 1 by rw [hrb.out]; omega) (.string x5))
  have hv6 : Hid ((w5.setCell ⟨rb + 1, 5, none⟩ (.string x5)).rowIs (rb + 1) 26 6 (fun i => (#[.int .i64 x0, .int .i64 x1, .int .i64 x2, .int .i64 x3, .int .i64 x4, .string x5] : Array Value).getD i undef)) := Lib.hid (row_set hv rfl (by omega) _)
  have hr6 := Lib.hid (row_put (p := ⟨rb + 1, 5, none⟩) hr (show rb ≠ rb + 1 by omega) (.string x5))
  clear hv hr hU hg hU5 hG5 hv5 hr5
  try unfold vS
  try unfold vB
  try unfold vU
  try unfold vI
  by_cases hz : (⟨x0, x1, x2, x3, x4, x5⟩ : Cm) = Cm.nought
  · have hE := Lib.hid (rd_err (val := vC) (k := 3) (hρ.out.trans (no_err (decide_eq_true hz))) hG6.out)
    have hcmp := fun W => (eql_cmd ⟨x0, x1, x2, x3, x4, x5⟩ W).trans (congrArg (fun b => Result.ok (Value.bool b) W) (decide_eq_true hz))
    clear hρ hU6 hG6 hz
    go_wp2_with (fail)
    refine (refuse_yes (by rfl) 3 rfl _).mono ?_
    rintro e w9 ⟨rfl, rfl⟩
    exact ⟨rfl, hE.out⟩
  · have hcmp := fun W => (eql_cmd ⟨x0, x1, x2, x3, x4, x5⟩ W).trans (congrArg (fun b => Result.ok (Value.bool b) W) (decide_eq_false hz))
    replace hρ := Lib.hid (hρ.out.trans (no_ok (decide_eq_false hz)))
    clear hz
    go_wp2_with (fail)
    refine (refuse_no (by rfl) 3 _).mono ?_
    rintro e w9 ⟨rfl, rfl⟩
    go_wp2
    refine bodyPost_ret (v := vC ⟨x0, x1, x2, x3, x4, x5⟩) ?_ rfl (rd_ok (val := vC) (x := ⟨x0, x1, x2, x3, x4, x5⟩) hρ.out ((((((hU6.out.put (p := ⟨rb, 0, none⟩) (show u < rb by omega) _).put (p := ⟨rb, 1, none⟩) (show u < rb by omega) _).put (p := ⟨rb, 2, none⟩) (show u < rb by omega) _).put (p := ⟨rb, 3, none⟩) (show u < rb by omega) _).put (p := ⟨rb, 4, none⟩) (show u < rb by omega) _).put (p := ⟨rb, 5, none⟩) (show u < rb by omega) _) ((((((hG6.out.put (p := ⟨rb, 0, none⟩) (show w.heap.size ≤ rb by rw [hrb.out]; omega) _).put (p := ⟨rb, 1, none⟩) (show w.heap.size ≤ rb by rw [hrb.out]; omega) _).put (p := ⟨rb, 2, none⟩) (show w.heap.size ≤ rb by rw [hrb.out]; omega) _).put (p := ⟨rb, 3, none⟩) (show w.heap.size ≤ rb by rw [hrb.out]; omega) _).put (p := ⟨rb, 4, none⟩) (show w.heap.size ≤ rb by rw [hrb.out]; omega) _).put (p := ⟨rb, 5, none⟩) (show w.heap.size ≤ rb by rw [hrb.out]; omega) _))
    simp [results, Try.results72, go_sem, vC, y0, y1, y2, y3, y4, y5]
end Go.Proofs.Ytkbhmeajgmecoaa.wirDe
