/- The contract of Move. -/
import Derived.Test.YtpijljbkdfjhcaaSpnI
import Derived.Laws.OwnMore
set_option linter.unusedVariables false
namespace Go.Proofs.Ytpijljbkdfjhcaa.spnK
open Go.ChangeShapes Go.WideShapes Go.ChangeAt Go.RowKit
open spnM spnA spnB spnC spnN spnP spnD spnE spnF spnH spnI
attribute [local go_sem high] bin_slt bin_sle bin_sge bin_seq bin_sne

theorem mov_no {m : M} {k i : Int} (nn : Int) (h : caE m k i ≠ 0) : movE m k i nn = caE m k i ∧ movM m k i nn = non := by
  have e : movE m k i nn = caE m k i := by
    unfold caE at h ⊢
    unfold movE
    split
    · rfl
    · rename_i h1
      rw [if_neg h1] at h
      split
      · rfl
      · rename_i h2; rw [if_neg h2] at h; exact absurd rfl h
  exact ⟨e, by unfold movM; rw [if_neg (by rw [e]; exact h)]⟩
theorem mov_1 {m : M} {k i nn : Int} (h : caE m k i = 0) (h2 : isN nn k = false) : movE m k i nn = 1 ∧ movM m k i nn = non := by
  obtain ⟨a1, a2⟩ := ca_zero h
  have e : movE m k i nn = 1 := by unfold movE; rw [if_neg (by omega), if_neg (by rw [a2]; decide), if_pos h2]
  exact ⟨e, by unfold movM; rw [if_neg (by omega)]⟩
theorem mov_8 {m : M} {k i nn : Int} (h : caE m k i = 0) (h2 : isN nn k = true) (h3 : node m i.toNat = nn) : movE m k i nn = 8 ∧ movM m k i nn = non := by
  obtain ⟨a1, a2⟩ := ca_zero h
  have e : movE m k i nn = 8 := by unfold movE; rw [if_neg (by omega), if_neg (by rw [a2]; decide), if_neg (by rw [h2]; decide), if_pos h3]
  exact ⟨e, by unfold movM; rw [if_neg (by omega)]⟩
theorem mov_0 {m : M} {k i nn : Int} (h : caE m k i = 0) (h2 : isN nn k = true) (h3 : node m i.toNat ≠ nn) : movE m k i nn = 0 ∧ movM m k i nn = ⟨m.cs, setA m.ns i.toNat nn⟩ := by
  obtain ⟨a1, a2⟩ := ca_zero h
  have e : movE m k i nn = 0 := by unfold movE; rw [if_neg (by omega), if_neg (by rw [a2]; decide), if_neg (by rw [h2]; decide), if_neg h3]
  exact ⟨e, by unfold movM; rw [if_pos e]⟩
set_option maxRecDepth 100000 in
set_option maxHeartbeats 2000000 in
theorem move_no (A1 : Option Addr) (c1 : Nat) (A2 : Option Addr) (c2 : Nat) (m : M) (k i nn : Int) (w : World) (h : HM w A1 c1 A2 c2 m) (hz : caE m k i ≠ 0) :
    Calls Try.prog 56 #[.agg #[.slice A1 m.cs.length c1, .slice A2 m.ns.length c2], .int .i64 k, .int .i64 i, .int .i64 nn] w (Tells (movE m k i nn) (movM m k i nn) w) := by
  obtain ⟨e1, e2⟩ := mov_no (k := k) nn hz
  rw [e1, e2]
  have hv := Lib.hid (caV_no (m := m) (k := k) (i := i) rfl hz)
  have hne : ((caE m k i : Int) != 0) = true := by rw [bne_iff_ne]; omega
  obtain ⟨W, hW, hb4, hb8, hal⟩ := head_boxes w (.slice A1 m.cs.length c1) (.slice A2 m.ns.length c2)
  have hck := Lib.hid (checked_any A1 c1 A2 c2 m k i W (h.below hal))
  replace hb4 := Lib.hid hb4
  replace hb8 := Lib.hid hb8
  replace hal := Lib.hid hal
  replace hW := Lib.hid hW
  clear e1 e2 hz h
  generalize caE m k i = E at *
  go_enter Try.func56, Try.ntmps56
  go_wp2_with (fail)
  rw [hW.out]
  refine hck.out.mono ?_
  rintro e w1 ⟨rfl, hB1⟩
  rw [hv.out]
  obtain ⟨hb, hl4, hl8⟩ := head_shard hb4.out hb8.out hal.out hB1 emp emp 0
  obtain ⟨-, -, p2, p3⟩ := hb.m4.cells
  obtain ⟨z0, z1, z2, z3⟩ := hb.m8.cells
  obtain ⟨y0, y1, -, -⟩ := (hb.m8.put (.slice none 0 0) (.slice none 0 0)).cells
  have hbl := Lib.hid (below2 (i := 0) (j := 1) hb.bel (Nat.le_succ _) (.slice none 0 0) (.slice none 0 0))
  clear hb hB1 p2 p3 hl4 hl8
  go_wp2
  refine bodyPost_ret (v := .tuple #[.agg #[.slice none 0 0, .slice none 0 0], .int .i64 E]) ?_ rfl (tells_no hbl.out)
  clear z0 z1 z2 z3
  simp [results, Try.results56, go_sem, y0, y1]
set_option maxRecDepth 100000 in
set_option maxHeartbeats 2000000 in
theorem move_1 (A1 : Option Addr) (c1 : Nat) (A2 : Option Addr) (c2 : Nat) (m : M) (k i nn : Int) (w : World) (h : HM w A1 c1 A2 c2 m) (hz : caE m k i = 0) (hn : isN nn k = false) :
    Calls Try.prog 56 #[.agg #[.slice A1 m.cs.length c1, .slice A2 m.ns.length c2], .int .i64 k, .int .i64 i, .int .i64 nn] w (Tells (movE m k i nn) (movM m k i nn) w) := by
  obtain ⟨e1, e2⟩ := mov_1 hz hn
  rw [e1, e2]
  have hv := Lib.hid (caV_yes (m := m) (k := k) (i := i) hz)
  obtain ⟨W, hW, hb4, hb8, hal⟩ := head_boxes w (.slice A1 m.cs.length c1) (.slice A2 m.ns.length c2)
  have hck := Lib.hid (checked_any A1 c1 A2 c2 m k i W (h.below hal))
  have hmW := Lib.hid (h.below hal)
  obtain ⟨hk, hth⟩ := ca_zero hz
  have hok := (chk_iff m k).1 hk
  obtain ⟨hnc, hi0, hi1⟩ := (there_iff m i).1 hth
  obtain ⟨j, rfl⟩ : ∃ j : Nat, i = j := ⟨i.toNat, by omega⟩
  rw [show ((j : Int)).toNat = j from rfl] at *
  have hn8 := hok.n8
  have hin := Lib.hid (isNode_any nn k)
  rw [hn] at hin
  clear hn
  replace hb4 := Lib.hid hb4
  replace hb8 := Lib.hid hb8
  replace hW := Lib.hid hW
  replace hal := Lib.hid hal
  replace hnc := Lib.hid hnc
  generalize spnM.lo m j = x at *
  generalize spnM.hi m j = y at *
  generalize node m j = n at *
  clear h hz hk hth hok hi0 hi1 e1 e2
  go_enter Try.func56, Try.ntmps56
  go_wp2_with (fail)
  rw [hW.out]
  refine hck.out.mono ?_
  rintro e w1 ⟨rfl, hB1⟩
  rw [hv.out]
  obtain ⟨hb, hl4, hl8⟩ := head_shard hb4.out hb8.out hal.out hB1 x y n
  have hBW1 := Lib.hid (trans0 hB1 (al0 w1 (.cells #[.string x, .string y, .int .i64 n] 84)))
  have hsz1 := Lib.hid (show w1.heap.size < (w1.alloc (.cells #[.string x, .string y, .int .i64 n] 84)).heap.size by simp)
  replace hl4 := Lib.hid hl4
  replace hl8 := Lib.hid hl8
  clear hB1 hck
  obtain ⟨r0, r1, r2, -⟩ := hb.s10.cells
  obtain ⟨p0, p1, -⟩ := hb.m4.cells
  replace hb := Lib.hid hb
  go_wp2_with (fail)
  refine (hin.out _).mono ?_
  rintro e w2 ⟨rfl, rfl⟩
  have hbE := hb.out
  clear r0 r1 r2 p0 p1
  obtain ⟨z0, z1, z2, z3⟩ := hbE.m8.cells
  obtain ⟨y0, y1, -, -⟩ := (hbE.m8.put (.slice none 0 0) (.slice none 0 0)).cells
  have hbl := Lib.hid (below2 (i := 0) (j := 1) hbE.bel (Nat.le_succ _) (.slice none 0 0) (.slice none 0 0))
  clear hbE
  go_wp2
  refine bodyPost_ret (v := .tuple #[.agg #[.slice none 0 0, .slice none 0 0], .int .i64 (1 : Nat)]) ?_ rfl (tells_no hbl.out)
  clear z0 z1 z2 z3
  simp [results, Try.results56, go_sem, y0, y1]
set_option maxRecDepth 100000 in
set_option maxHeartbeats 2000000 in
theorem move_8 (A1 : Option Addr) (c1 : Nat) (A2 : Option Addr) (c2 : Nat) (m : M) (k i nn : Int) (w : World) (h : HM w A1 c1 A2 c2 m) (hz : caE m k i = 0) (hn : isN nn k = true) (hd : node m i.toNat = nn) :
    Calls Try.prog 56 #[.agg #[.slice A1 m.cs.length c1, .slice A2 m.ns.length c2], .int .i64 k, .int .i64 i, .int .i64 nn] w (Tells (movE m k i nn) (movM m k i nn) w) := by
  obtain ⟨e1, e2⟩ := mov_8 hz hn hd
  rw [e1, e2]
  have hv := Lib.hid (caV_yes (m := m) (k := k) (i := i) hz)
  obtain ⟨W, hW, hb4, hb8, hal⟩ := head_boxes w (.slice A1 m.cs.length c1) (.slice A2 m.ns.length c2)
  have hck := Lib.hid (checked_any A1 c1 A2 c2 m k i W (h.below hal))
  have hmW := Lib.hid (h.below hal)
  obtain ⟨hk, hth⟩ := ca_zero hz
  have hok := (chk_iff m k).1 hk
  obtain ⟨hnc, hi0, hi1⟩ := (there_iff m i).1 hth
  obtain ⟨j, rfl⟩ : ∃ j : Nat, i = j := ⟨i.toNat, by omega⟩
  rw [show ((j : Int)).toNat = j from rfl] at *
  have hn8 := hok.n8
  have hin := Lib.hid (isNode_any nn k)
  rw [hn] at hin
  clear hn
  replace hb4 := Lib.hid hb4
  replace hb8 := Lib.hid hb8
  replace hW := Lib.hid hW
  replace hal := Lib.hid hal
  replace hnc := Lib.hid hnc
  generalize spnM.lo m j = x at *
  generalize spnM.hi m j = y at *
  generalize node m j = n at *
  have hdb : (n == nn) = true := by rw [beq_iff_eq]; exact hd
  clear hd
  clear h hz hk hth hok hi0 hi1 e1 e2
  go_enter Try.func56, Try.ntmps56
  go_wp2_with (fail)
  rw [hW.out]
  refine hck.out.mono ?_
  rintro e w1 ⟨rfl, hB1⟩
  rw [hv.out]
  obtain ⟨hb, hl4, hl8⟩ := head_shard hb4.out hb8.out hal.out hB1 x y n
  have hBW1 := Lib.hid (trans0 hB1 (al0 w1 (.cells #[.string x, .string y, .int .i64 n] 84)))
  have hsz1 := Lib.hid (show w1.heap.size < (w1.alloc (.cells #[.string x, .string y, .int .i64 n] 84)).heap.size by simp)
  replace hl4 := Lib.hid hl4
  replace hl8 := Lib.hid hl8
  clear hB1 hck
  obtain ⟨r0, r1, r2, -⟩ := hb.s10.cells
  obtain ⟨p0, p1, -⟩ := hb.m4.cells
  replace hb := Lib.hid hb
  go_wp2_with (fail)
  refine (hin.out _).mono ?_
  rintro e w2 ⟨rfl, rfl⟩
  have hbE := hb.out
  obtain ⟨z0, z1, z2, z3⟩ := hbE.m8.cells
  obtain ⟨y0, y1, -, -⟩ := (hbE.m8.put (.slice none 0 0) (.slice none 0 0)).cells
  have hbl := Lib.hid (below2 (i := 0) (j := 1) hbE.bel (Nat.le_succ _) (.slice none 0 0) (.slice none 0 0))
  clear hbE
  go_wp2
  refine bodyPost_ret (v := .tuple #[.agg #[.slice none 0 0, .slice none 0 0], .int .i64 (8 : Nat)]) ?_ rfl (tells_no hbl.out)
  clear z0 z1 z2 z3
  simp [results, Try.results56, go_sem, y0, y1]
set_option maxRecDepth 100000 in
set_option maxHeartbeats 2000000 in
theorem move_0 (A1 : Option Addr) (c1 : Nat) (A2 : Option Addr) (c2 : Nat) (m : M) (k i nn : Int) (w : World) (h : HM w A1 c1 A2 c2 m) (hz : caE m k i = 0) (hn : isN nn k = true) (hd : node m i.toNat ≠ nn) :
    Calls Try.prog 56 #[.agg #[.slice A1 m.cs.length c1, .slice A2 m.ns.length c2], .int .i64 k, .int .i64 i, .int .i64 nn] w (Tells (movE m k i nn) (movM m k i nn) w) := by
  obtain ⟨e1, e2⟩ := mov_0 hz hn hd
  rw [e1, e2]
  have hv := Lib.hid (caV_yes (m := m) (k := k) (i := i) hz)
  obtain ⟨W, hW, hb4, hb8, hal⟩ := head_boxes w (.slice A1 m.cs.length c1) (.slice A2 m.ns.length c2)
  have hck := Lib.hid (checked_any A1 c1 A2 c2 m k i W (h.below hal))
  have hmW := Lib.hid (h.below hal)
  obtain ⟨hk, hth⟩ := ca_zero hz
  have hok := (chk_iff m k).1 hk
  obtain ⟨hnc, hi0, hi1⟩ := (there_iff m i).1 hth
  obtain ⟨j, rfl⟩ : ∃ j : Nat, i = j := ⟨i.toNat, by omega⟩
  rw [show ((j : Int)).toNat = j from rfl] at *
  have hn8 := hok.n8
  have hin := Lib.hid (isNode_any nn k)
  rw [hn] at hin
  have hj0 : (0 : Int) ≤ (j : Int) := by omega
  have hj1 : (j : Int) < (m.ns.length : Int) := by omega
  have hj1n : j < m.ns.length := by omega
  clear hn
  replace hb4 := Lib.hid hb4
  replace hb8 := Lib.hid hb8
  replace hW := Lib.hid hW
  replace hal := Lib.hid hal
  replace hnc := Lib.hid hnc
  generalize spnM.lo m j = x at *
  generalize spnM.hi m j = y at *
  generalize node m j = n at *
  have hdb : (n == nn) = false := by rw [beq_eq_false_iff_ne]; exact hd
  clear hd
  clear h hz hk hth hok hi0 hi1 e1 e2
  go_enter Try.func56, Try.ntmps56
  go_wp2_with (fail)
  rw [hW.out]
  refine hck.out.mono ?_
  rintro e w1 ⟨rfl, hB1⟩
  rw [hv.out]
  obtain ⟨hb, hl4, hl8⟩ := head_shard hb4.out hb8.out hal.out hB1 x y n
  have hBW1 := Lib.hid (trans0 hB1 (al0 w1 (.cells #[.string x, .string y, .int .i64 n] 84)))
  have hsz1 := Lib.hid (show w1.heap.size < (w1.alloc (.cells #[.string x, .string y, .int .i64 n] 84)).heap.size by simp)
  replace hl4 := Lib.hid hl4
  replace hl8 := Lib.hid hl8
  clear hB1 hck
  obtain ⟨r0, r1, r2, -⟩ := hb.s10.cells
  obtain ⟨p0, p1, -⟩ := hb.m4.cells
  replace hb := Lib.hid hb
  go_wp2_with (fail)
  refine (hin.out _).mono ?_
  rintro e w2 ⟨rfl, rfl⟩
  have hcp := Lib.hid (copy_any A1 c1 A2 c2 m _ (hmW.out.below hBW1.out))
  clear hin
  go_wp2_with (fail)
  refine hcp.out.mono ?_
  rintro e w3 ⟨D1, d1, D2, d2, rfl, hG, hB3⟩
  rw [World.size_alloc] at hG
  have hb3 := hb.out.below hB3
  obtain ⟨z0, z1, z2, z3⟩ := hb3.m4.cells
  have l1 := hl4.out
  have l2 := hl8.out
  have hb4' := hb3.put (by omega) (by omega) (Nat.le_refl _) (.slice D1 m.cs.length d1) (.slice D2 m.ns.length d2)
  have hG4 := hG.set2 (b := w.heap.size) (by omega) (.slice D1 m.cs.length d1) (.slice D2 m.ns.length d2)
  obtain ⟨g, rfl, hg0⟩ : ∃ g, D2 = some ⟨g, 0, none⟩ ∧ w1.heap.size + 1 ≤ g := by
    rcases hG4.ns.2 with ⟨e, e0⟩ | ⟨g, cap, cur, e, hbg, _⟩
    · omega
    · cases e; exact ⟨g, rfl, hbg⟩
  have hxc := hG4.ns.cellAt j (by omega)
  rw [List.getElem?_map, List.getElem?_eq_getElem hj1n] at hxc
  simp only [Option.map_some] at hxc
  have hxf := hG4.ns.frozenAt j
  obtain ⟨hst, hgr⟩ := hG4.ns.stored j (.int .i64 nn)
  have hO5 := own_block hG4.cs (w' := ((w3.setCell ⟨w.heap.size, 0, none⟩ (.slice D1 m.cs.length d1)).setCell ⟨w.heap.size, 1, none⟩ (.slice (some ⟨g, 0, none⟩) m.ns.length d2)).setCell ⟨g, j, none⟩ (.int .i64 nn)) fun k e => Below.heap_setCell _ _ _ _ (show k ≠ g from fun e2 => own_apart hG4.cs hG4.ns (by decide) e (by rw [e2]; rfl))
  have hb5 := hb4'.grown hgr (base := w1.heap.size + 1) (fun k e => by cases e; exact hg0) (by omega) (by omega) (by omega) (by omega)
  have hls : (setA m.ns j nn).length = m.ns.length := by unfold setA; exact List.length_set
  have hms : (m.ns.map (Value.int .i64)).set j (.int .i64 nn) = (setA m.ns j nn).map (Value.int .i64) := by unfold setA; rw [List.map_set]
  rw [hms] at hst
  have hG5 : GM (((w3.setCell ⟨w.heap.size, 0, none⟩ (.slice D1 m.cs.length d1)).setCell ⟨w.heap.size, 1, none⟩ (.slice (some ⟨g, 0, none⟩) m.ns.length d2)).setCell ⟨g, j, none⟩ (.int .i64 nn)) (w1.heap.size + 1) D1 d1 (some ⟨g, 0, none⟩) d2 ⟨m.cs, setA m.ns j nn⟩ :=
    ⟨hO5, by show World.ownsRow _ _ _ 1 (.slice _ (setA m.ns j nn).length d2) (setA m.ns j nn).length _; rw [hls]; exact hst⟩
  have hG6 := hG5.set2 (b := w.heap.size + 1) (by omega) (.slice D1 m.cs.length d1) (.slice (some ⟨g, 0, none⟩) m.ns.length d2)
  have hB6 := below2 (i := 0) (j := 1) hb5.bel (Nat.le_succ _) (.slice D1 m.cs.length d1) (.slice (some ⟨g, 0, none⟩) m.ns.length d2)
  obtain ⟨g0, g1, -⟩ := hb5.m4.cells
  obtain ⟨x0, x1, x2, x3⟩ := hb5.m8.cells
  obtain ⟨y0, y1, -⟩ := (hb5.m8.put (.slice D1 m.cs.length d1) (.slice (some ⟨g, 0, none⟩) m.ns.length d2)).cells
  have hT : Tells 0 ⟨m.cs, setA m.ns j nn⟩ w (.returned (.tuple #[.agg #[.slice D1 m.cs.length d1, .slice (some ⟨g, 0, none⟩) m.ns.length d2], .int .i64 0])) (((((w3.setCell ⟨w.heap.size, 0, none⟩ (.slice D1 m.cs.length d1)).setCell ⟨w.heap.size, 1, none⟩ (.slice (some ⟨g, 0, none⟩) m.ns.length d2)).setCell ⟨g, j, none⟩ (.int .i64 nn)).setCell ⟨w.heap.size + 1, 0, none⟩ (.slice D1 m.cs.length d1)).setCell ⟨w.heap.size + 1, 1, none⟩ (.slice (some ⟨g, 0, none⟩) m.ns.length d2)) :=
    ⟨D1, d1, some ⟨g, 0, none⟩, d2, by show _ = Ending.returned (.tuple #[.agg #[.slice D1 m.cs.length d1, .slice _ (setA m.ns j nn).length d2], .int .i64 (0 : Nat)]); rw [hls]; rfl, hG6.more (by omega), hB6⟩
  have ht1 := hb4'.m4.cells.2.1
  replace hT := Lib.hid hT
  clear hB3 hb3 hG p0 p1 hcp r0 r1 r2 hb4' hG4 hst hgr hO5 hb5 hls hms hG5 hG6 hB6 l1 l2 hg0
  go_wp2
  refine bodyPost_ret (v := .tuple #[.agg #[.slice D1 m.cs.length d1, .slice (some ⟨g, 0, none⟩) m.ns.length d2], .int .i64 0]) ?_ rfl hT.out
  clear x0 x1 x2 x3 g0 g1 z0 z1 z2 z3 hxc hxf ht1
  simp [results, Try.results56, go_sem, y0, y1]
theorem move_any (A1 : Option Addr) (c1 : Nat) (A2 : Option Addr) (c2 : Nat) (m : M) (k i nn : Int) (w : World) (h : HM w A1 c1 A2 c2 m) :
    Calls Try.prog 56 #[.agg #[.slice A1 m.cs.length c1, .slice A2 m.ns.length c2], .int .i64 k, .int .i64 i, .int .i64 nn] w (Tells (movE m k i nn) (movM m k i nn) w) := by
  by_cases hz : caE m k i = 0
  · cases hn : isN nn k
    · exact move_1 A1 c1 A2 c2 m k i nn w h hz hn
    · by_cases hd : node m i.toNat = nn
      · exact move_8 A1 c1 A2 c2 m k i nn w h hz hn hd
      · exact move_0 A1 c1 A2 c2 m k i nn w h hz hn hd
  · exact move_no A1 c1 A2 c2 m k i nn w h hz
end Go.Proofs.Ytpijljbkdfjhcaa.spnK
