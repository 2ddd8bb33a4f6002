/- The document's Merge. -/
import Derived.Test.YtpijljbkdfjhcaaSpnCo
import Derived.Deep.RegionLaw
import Derived.Deep.QuietTactic
import Derived.BigQuiet
import Derived.Test.YtpijljbkdfjhcaaSpnT
set_option linter.unusedVariables false
set_option linter.unusedSimpArgs false
namespace Go.Proofs.Ytpijljbkdfjhcaa.spnJr
open Go.Deep Go.ChangeShapes Go.WideShapes Go.ChangeAt Go.RowKit
open spnM spnA spnB spnC spnN spnP spnD spnE spnF spnG spnH spnI spnJ spnK spnT spnCo gen
attribute [local go_sem high] bin_slt bin_sle bin_sge bin_seq bin_sne

set_option maxRecDepth 100000 in
set_option maxHeartbeats 2000000 in
theorem rmerge_no (A1 : Option Addr) (c1 : Nat) (A2 : Option Addr) (c2 : Nat) (m : M) (k i : Int) (w : World) (h : HM w A1 c1 A2 c2 m) (hz : ¬ chk m k = 0) :
    Calls Try.prog 35 #[.agg #[.slice A1 m.cs.length c1, .slice A2 m.ns.length c2], .int .i64 k, .int .i64 i] w (Tells (mrgE m k i) (mrgM m k i) w) := by
  have e1 : mrgE m k i = chk m k := by unfold mrgE; rw [if_pos hz]
  have e2 : mrgM m k i = non := by unfold mrgM; rw [if_neg (by rw [e1]; exact hz)]
  rw [e1, e2]
  obtain ⟨W, hW, hb4, hb8, hal⟩ := head_boxes w (.slice A1 m.cs.length c1) (.slice A2 m.ns.length c2)
  have hck := rcheck_any A1 c1 A2 c2 m k W (h.below hal)
  have hmW := Lib.hid (h.below hal)
  replace hck := Lib.hid hck
  replace hb4 := Lib.hid hb4
  replace hb8 := Lib.hid hb8
  replace hal := Lib.hid hal
  replace hW := Lib.hid hW
  clear e1 e2 h
  have hne : ((chk m k : Int) != 0) = true := by rw [bne_iff_ne]; omega
  clear hz
  generalize chk m k = E at *
  go_enter Try.func35, Try.ntmps35
  go_wp2_with (fail)
  rw [hW.out]
  refine hck.out.mono ?_
  rintro e w1 ⟨rfl, hB1⟩
  have hb4' := hb4.out.below hB1
  have hb8' := hb8.out.below hB1
  have hm1 := Lib.hid (hmW.out.below hB1)
  have hbB := Lib.hid (trans0 hal.out hB1)
  obtain ⟨p0, p1, -⟩ := hb4'.cells
  obtain ⟨z0, z1, z2, z3⟩ := hb8'.cells
  obtain ⟨y0, y1, -⟩ := (hb8'.put (.slice none 0 0) (.slice none 0 0)).cells
  have hbl := Lib.hid (below2 (i := 0) (j := 1) hbB.out (b := w.heap.size + 1) (Nat.le_succ _) (.slice none 0 0) (.slice none 0 0))
  clear hb4' hb8' hB1
  go_wp2
  refine bodyPost_ret (v := .tuple #[.agg #[.slice none 0 0, .slice none 0 0], .int .i64 E]) ?_ rfl (tells_no hbl.out)
  clear z0 z1 z2 z3
  simp [results, Try.results35, go_sem, y0, y1]
set_option maxRecDepth 100000 in
set_option maxHeartbeats 2000000 in
theorem rmerge_7 (A1 : Option Addr) (c1 : Nat) (A2 : Option Addr) (c2 : Nat) (m : M) (k i : Int) (w : World) (h : HM w A1 c1 A2 c2 m) (hz : chk m k = 0) (hi : isN i m.cs.length = false) (g : i < 0) :
    Calls Try.prog 35 #[.agg #[.slice A1 m.cs.length c1, .slice A2 m.ns.length c2], .int .i64 k, .int .i64 i] w (Tells (mrgE m k i) (mrgM m k i) w) := by
  have e1 : mrgE m k i = 7 := by unfold mrgE; rw [if_neg (by omega), if_pos hi]
  have e2 : mrgM m k i = non := by unfold mrgM; rw [if_neg (by omega)]
  rw [e1, e2]
  obtain ⟨W, hW, hb4, hb8, hal⟩ := head_boxes w (.slice A1 m.cs.length c1) (.slice A2 m.ns.length c2)
  have hck := rcheck_any A1 c1 A2 c2 m k W (h.below hal)
  have hmW := Lib.hid (h.below hal)
  rw [hz] at hck
  obtain ⟨hnc, hn8⟩ : m.ns.length = m.cs.length + 1 ∧ m.ns.length ≤ 8 := ⟨((chk_iff m k).1 hz).nc, ((chk_iff m k).1 hz).n8⟩
  replace hck := Lib.hid hck
  replace hb4 := Lib.hid hb4
  replace hb8 := Lib.hid hb8
  replace hal := Lib.hid hal
  replace hW := Lib.hid hW
  clear e1 e2 h
  replace hnc := Lib.hid hnc
  go_enter Try.func35, Try.ntmps35
  go_wp2_with (fail)
  rw [hW.out]
  refine hck.out.mono ?_
  rintro e w1 ⟨rfl, hB1⟩
  have hb4' := hb4.out.below hB1
  have hb8' := hb8.out.below hB1
  have hm1 := Lib.hid (hmW.out.below hB1)
  have hbB := Lib.hid (trans0 hal.out hB1)
  obtain ⟨p0, p1, -⟩ := hb4'.cells
  obtain ⟨z0, z1, z2, z3⟩ := hb8'.cells
  obtain ⟨y0, y1, -⟩ := (hb8'.put (.slice none 0 0) (.slice none 0 0)).cells
  have hbl := Lib.hid (below2 (i := 0) (j := 1) hbB.out (b := w.heap.size + 1) (Nat.le_succ _) (.slice none 0 0) (.slice none 0 0))
  clear hb4' hb8' hB1
  go_wp2
  refine bodyPost_ret (v := .tuple #[.agg #[.slice none 0 0, .slice none 0 0], .int .i64 (7 : Nat)]) ?_ rfl (tells_no hbl.out)
  clear z0 z1 z2 z3
  simp [results, Try.results35, go_sem, y0, y1]
set_option maxRecDepth 100000 in
set_option maxHeartbeats 2000000 in
theorem rmerge_7b (A1 : Option Addr) (c1 : Nat) (A2 : Option Addr) (c2 : Nat) (m : M) (k i : Int) (w : World) (h : HM w A1 c1 A2 c2 m) (hz : chk m k = 0) (hi : isN i m.cs.length = false) (g0 : ¬ i < 0) (g : (m.cs.length : Int) ≤ i) :
    Calls Try.prog 35 #[.agg #[.slice A1 m.cs.length c1, .slice A2 m.ns.length c2], .int .i64 k, .int .i64 i] w (Tells (mrgE m k i) (mrgM m k i) w) := by
  have e1 : mrgE m k i = 7 := by unfold mrgE; rw [if_neg (by omega), if_pos hi]
  have e2 : mrgM m k i = non := by unfold mrgM; rw [if_neg (by omega)]
  rw [e1, e2]
  obtain ⟨W, hW, hb4, hb8, hal⟩ := head_boxes w (.slice A1 m.cs.length c1) (.slice A2 m.ns.length c2)
  have hck := rcheck_any A1 c1 A2 c2 m k W (h.below hal)
  have hmW := Lib.hid (h.below hal)
  rw [hz] at hck
  obtain ⟨hnc, hn8⟩ : m.ns.length = m.cs.length + 1 ∧ m.ns.length ≤ 8 := ⟨((chk_iff m k).1 hz).nc, ((chk_iff m k).1 hz).n8⟩
  replace hck := Lib.hid hck
  replace hb4 := Lib.hid hb4
  replace hb8 := Lib.hid hb8
  replace hal := Lib.hid hal
  replace hW := Lib.hid hW
  clear e1 e2 h
  replace hnc := Lib.hid hnc
  go_enter Try.func35, Try.ntmps35
  go_wp2_with (fail)
  rw [hW.out]
  refine hck.out.mono ?_
  rintro e w1 ⟨rfl, hB1⟩
  have hb4' := hb4.out.below hB1
  have hb8' := hb8.out.below hB1
  have hm1 := Lib.hid (hmW.out.below hB1)
  have hbB := Lib.hid (trans0 hal.out hB1)
  obtain ⟨p0, p1, -⟩ := hb4'.cells
  obtain ⟨z0, z1, z2, z3⟩ := hb8'.cells
  obtain ⟨y0, y1, -⟩ := (hb8'.put (.slice none 0 0) (.slice none 0 0)).cells
  have hbl := Lib.hid (below2 (i := 0) (j := 1) hbB.out (b := w.heap.size + 1) (Nat.le_succ _) (.slice none 0 0) (.slice none 0 0))
  clear hb4' hb8' hB1
  go_wp2
  refine bodyPost_ret (v := .tuple #[.agg #[.slice none 0 0, .slice none 0 0], .int .i64 (7 : Nat)]) ?_ rfl (tells_no hbl.out)
  clear z0 z1 z2 z3
  simp [results, Try.results35, go_sem, y0, y1]
set_option maxRecDepth 100000 in
set_option maxHeartbeats 2000000 in
theorem rmerge_18 (A1 : Option Addr) (c1 : Nat) (A2 : Option Addr) (c2 : Nat) (m : M) (k i : Int) (w : World) (h : HM w A1 c1 A2 c2 m) (hz : chk m k = 0) (hi : isN i m.cs.length = true) (hd : ¬ node m i.toNat = node m (i.toNat + 1)) :
    Calls Try.prog 35 #[.agg #[.slice A1 m.cs.length c1, .slice A2 m.ns.length c2], .int .i64 k, .int .i64 i] w (Tells (mrgE m k i) (mrgM m k i) w) := by
  have e1 : mrgE m k i = 18 := by unfold mrgE; rw [if_neg (by omega), if_neg (by rw [hi]; decide), if_pos hd]
  have e2 : mrgM m k i = non := by unfold mrgM; rw [if_neg (by omega)]
  rw [e1, e2]
  obtain ⟨W, hW, hb4, hb8, hal⟩ := head_boxes w (.slice A1 m.cs.length c1) (.slice A2 m.ns.length c2)
  have hck := rcheck_any A1 c1 A2 c2 m k W (h.below hal)
  have hmW := Lib.hid (h.below hal)
  rw [hz] at hck
  obtain ⟨hnc, hn8⟩ : m.ns.length = m.cs.length + 1 ∧ m.ns.length ≤ 8 := ⟨((chk_iff m k).1 hz).nc, ((chk_iff m k).1 hz).n8⟩
  have hij := (isN_iff i m.cs.length).1 hi
  obtain ⟨j, rfl⟩ : ∃ j : Nat, i = j := ⟨i.toNat, by omega⟩
  rw [show ((j : Int)).toNat = j from rfl] at *
  have gg0 : ¬ (j : Int) < 0 := by omega
  have gg1 : ¬ (m.cs.length : Int) ≤ (j : Int) := by omega
  have hx0 : (0 : Int) ≤ (j : Int) := by omega
  have hx1 : (j : Int) < (m.ns.length : Int) := by omega
  have hy0 : (0 : Int) ≤ (j : Int) + 1 := by omega
  have hy1 : (j : Int) + 1 < (m.ns.length : Int) := by omega
  have hy2 : ((j : Int) + 1).toNat = j + 1 := by omega
  have hjn : Hid (j + 1 < m.ns.length) := Lib.hid (by omega)
  obtain ⟨xx, hxx⟩ : ∃ xx, nt m.ns j = xx := ⟨_, rfl⟩
  obtain ⟨yy, hyy⟩ : ∃ yy, nt m.ns (j + 1) = yy := ⟨_, rfl⟩
  have hdb : (xx != yy) = true := by rw [bne_iff_ne, ← hxx, ← hyy]; exact hd
  replace hck := Lib.hid hck
  replace hb4 := Lib.hid hb4
  replace hb8 := Lib.hid hb8
  replace hal := Lib.hid hal
  replace hW := Lib.hid hW
  clear e1 e2 h
  replace hnc := Lib.hid hnc
  clear hd hi hij
  replace hxx := Lib.hid hxx
  replace hyy := Lib.hid hyy
  go_enter Try.func35, Try.ntmps35
  go_wp2_with (fail)
  rw [hW.out]
  refine hck.out.mono ?_
  rintro e w1 ⟨rfl, hB1⟩
  have hb4' := hb4.out.below hB1
  have hb8' := hb8.out.below hB1
  have hm1 := Lib.hid (hmW.out.below hB1)
  have hbB := Lib.hid (trans0 hal.out hB1)
  obtain ⟨p0, p1, -⟩ := hb4'.cells
  obtain ⟨b, off, eA, hbb, hc⟩ := hm1.out.ns.at (i := j) (by have := hjn.out; omega)
  have kc := hc j (by have := hjn.out; omega)
  have kd := hc (j + 1) hjn.out
  rw [hxx.out] at kc
  rw [hyy.out] at kd
  rw [eA] at p1
  clear eA hc hbb
  replace hb4' := Lib.hid hb4'
  replace hb8' := Lib.hid hb8'
  clear hB1
  go_wp2
  go_quiet (fail)
  obtain ⟨V, hV⟩ : ∃ V, w1.drewN nq = V := ⟨_, rfl⟩
  rw [hV]
  have hq1 : Below w1.heap.size w1 V := by rw [← hV]; exact below_drewN (Below.refl _ _) _
  have hb4V := hb4'.out.below hq1
  have hb8V := hb8'.out.below hq1
  have hbV := trans0 hbB.out hq1
  clear p0 p1 kc kd hV hq1 hb4' hb8'
  obtain ⟨z0, z1, z2, z3⟩ := hb8V.cells
  obtain ⟨y0, y1, -⟩ := (hb8V.put (.slice none 0 0) (.slice none 0 0)).cells
  have hbl := Lib.hid (below2 (i := 0) (j := 1) hbV (b := w.heap.size + 1) (Nat.le_succ _) (.slice none 0 0) (.slice none 0 0))
  clear hb4V hb8V hbV
  go_wp2
  refine bodyPost_ret (v := .tuple #[.agg #[.slice none 0 0, .slice none 0 0], .int .i64 (18 : Nat)]) ?_ rfl (tells_no hbl.out)
  clear z0 z1 z2 z3
  simp [results, Try.results35, go_sem, y0, y1]
set_option maxRecDepth 100000 in
set_option maxHeartbeats 2000000 in
theorem rmerge_0 (A1 : Option Addr) (c1 : Nat) (A2 : Option Addr) (c2 : Nat) (m : M) (k i : Int) (w : World) (h : HM w A1 c1 A2 c2 m) (hz : chk m k = 0) (hi : isN i m.cs.length = true) (hd : node m i.toNat = node m (i.toNat + 1)) :
    Calls Try.prog 35 #[.agg #[.slice A1 m.cs.length c1, .slice A2 m.ns.length c2], .int .i64 k, .int .i64 i] w (Tells (mrgE m k i) (mrgM m k i) w) := by
  have e1 : mrgE m k i = 0 := by unfold mrgE; rw [if_neg (by omega), if_neg (by rw [hi]; decide), if_neg (by simpa using hd)]
  have e2 : mrgM m k i = ⟨delA m.cs i.toNat, delA m.ns i.toNat⟩ := by unfold mrgM; rw [if_pos e1]
  rw [e1, e2]
  obtain ⟨W, hW, hb4, hb8, hal⟩ := head_boxes w (.slice A1 m.cs.length c1) (.slice A2 m.ns.length c2)
  have hck := rcheck_any A1 c1 A2 c2 m k W (h.below hal)
  have hmW := Lib.hid (h.below hal)
  have hm0 := Lib.hid h
  rw [hz] at hck
  obtain ⟨hnc, hn8⟩ : m.ns.length = m.cs.length + 1 ∧ m.ns.length ≤ 8 := ⟨((chk_iff m k).1 hz).nc, ((chk_iff m k).1 hz).n8⟩
  have hij := (isN_iff i m.cs.length).1 hi
  obtain ⟨j, rfl⟩ : ∃ j : Nat, i = j := ⟨i.toNat, by omega⟩
  rw [show ((j : Int)).toNat = j from rfl] at *
  have gg0 : ¬ (j : Int) < 0 := by omega
  have gg1 : ¬ (m.cs.length : Int) ≤ (j : Int) := by omega
  have hx0 : (0 : Int) ≤ (j : Int) := by omega
  have hx1 : (j : Int) < (m.ns.length : Int) := by omega
  have hy0 : (0 : Int) ≤ (j : Int) + 1 := by omega
  have hy1 : (j : Int) + 1 < (m.ns.length : Int) := by omega
  have hy2 : ((j : Int) + 1).toNat = j + 1 := by omega
  have hjn : Hid (j + 1 < m.ns.length) := Lib.hid (by omega)
  obtain ⟨xx, hxx⟩ : ∃ xx, nt m.ns j = xx := ⟨_, rfl⟩
  obtain ⟨yy, hyy⟩ : ∃ yy, nt m.ns (j + 1) = yy := ⟨_, rfl⟩
  have hdb : (xx != yy) = false := by rw [bne_eq_false_iff_eq, ← hxx, ← hyy]; exact hd
  replace hck := Lib.hid hck
  replace hb4 := Lib.hid hb4
  replace hb8 := Lib.hid hb8
  replace hal := Lib.hid hal
  replace hW := Lib.hid hW
  clear e1 e2 h
  replace hnc := Lib.hid hnc
  clear hd hi hij
  replace hxx := Lib.hid hxx
  replace hyy := Lib.hid hyy
  go_enter Try.func35, Try.ntmps35
  go_wp2_with (fail)
  rw [hW.out]
  refine hck.out.mono ?_
  rintro e w1 ⟨rfl, hB1⟩
  have hb4' := hb4.out.below hB1
  have hb8' := hb8.out.below hB1
  have hm1 := Lib.hid (hmW.out.below hB1)
  have hbB := Lib.hid (trans0 hal.out hB1)
  obtain ⟨p0, p1, -⟩ := hb4'.cells
  obtain ⟨b, off, eA, hbb, hc⟩ := hm1.out.ns.at (i := j) (by have := hjn.out; omega)
  have kc := hc j (by have := hjn.out; omega)
  have kd := hc (j + 1) hjn.out
  rw [hxx.out] at kc
  rw [hyy.out] at kd
  rw [eA] at p1
  clear eA hc hbb
  replace hb4' := Lib.hid hb4'
  replace hb8' := Lib.hid hb8'
  clear hB1
  go_wp2
  go_quiet (fail)
  obtain ⟨V, hV⟩ : ∃ V, w1.drewN nq = V := ⟨_, rfl⟩
  rw [hV]
  have hq1 : Below w1.heap.size w1 V := by rw [← hV]; exact below_drewN (Below.refl _ _) _
  have hb4V := hb4'.out.below hq1
  have hb8V := hb8'.out.below hq1
  have hbV := trans0 hbB.out hq1
  clear p0 p1 kc kd hV hq1 hb4' hb8'
  have hOS := OS.new (w := w) (t := 26) hb4V hb8V hbV (Nat.le_refl _) (Nat.le_succ _)
  obtain ⟨Y, hY⟩ : ∃ Y, V.alloc (.cells #[.slice none 0 0, .slice none 0 0] 26) = Y := ⟨_, rfl⟩
  rw [hY] at hOS
  replace hOS := Lib.hid hOS
  replace hY := Lib.hid hY
  clear hb4V hb8V hbV hbB hck hb4 hb8 hal hW hm1 hmW
  go_wp2
  rw [hY.out]
  clear hY gg0 gg1 hx0 hx1 hy0 hy1 hy2 hdb hxx hyy
  generalize V.heap.size = bb at *
  generalize decide (m.cs.length ≤ j) = bz
  generalize decide ((j : Int) < 0) = bw
  go_loopw [10] (fun t wr => ∃ q : Nat, q ≤ m.ns.length ∧ t = .int .i64 q ∧ Hid (OS w w.heap.size (w.heap.size + 1) bb (bb + 1) (.slice A1 m.cs.length c1) (.slice A2 m.ns.length c2) (delA (m.cs.take q) j) (delA (m.ns.take q) j) wr)) (fun t _ => m.ns.length - (intOf t).toNat)
  case atStart => exact ⟨0, Nat.zero_le _, rfl, by simpa [delA] using hOS⟩
  case round =>
    clear hOS
    obtain ⟨q, hq, rfl, hO⟩ := hrel
    by_cases hqn : q < m.ns.length
    · have hqi : (q : Int) < (m.ns.length : Int) := by omega
      have hq0 : (0 : Int) ≤ (q : Int) := by omega
      obtain ⟨m0, m1, -⟩ := hO.out.m4.cells
      by_cases hqj : q = j
      · have hne : ((q : Int) != (j : Int)) = false := by rw [bne_eq_false_iff_eq]; omega
        have hqc : (q : Int) < (m.cs.length : Int) := by have := hnc.out; have := hjn.out; omega
        have hO' : Hid (OS w w.heap.size (w.heap.size + 1) bb (bb + 1) (.slice A1 m.cs.length c1) (.slice A2 m.ns.length c2) (delA (m.cs.take (q + 1)) j) (delA (m.ns.take (q + 1)) j) wr) := Lib.hid (by rw [hqj, del_at, del_at]; rw [hqj] at hO; exact hO.out)
        clear hqj hO
        go_wp2
        go_roundw
        case rel => exact ⟨q + 1, by omega, by go_num, hO'⟩
        case measure => simp [intOf]; omega
      · have hne : ((q : Int) != (j : Int)) = true := by rw [bne_iff_ne]; omega
        have hqjH := Lib.hid hqj
        clear hqj
        go_upto_region 13 with fail
        go_cut [] from 52 to 61 (fun wx => Hid (OS w w.heap.size (w.heap.size + 1) bb (bb + 1) (.slice A1 m.cs.length c1) (.slice A2 m.ns.length c2) ((delA (m.cs.take q) j)) ((delA (m.ns.take q) j) ++ [nt m.ns q]) wx))
        case first =>
          clear m0 m1
          obtain ⟨D1, d1, D2, d2, hb, hG⟩ := hO.out.ob
          obtain ⟨m0, m1, -⟩ := hO.out.m4.cells
          obtain ⟨z0, z1, z2, z3⟩ := hb.cells
          have hlx := del_le m.cs j q
          have hly := del_le m.ns j q
          have hmr := hm0.out.step hO.out.bel (Nat.le_refl _)
          obtain ⟨b, off, eA, hbb, hc⟩ := hmr.ns.at (i := q) (by omega)
          have kc := hc q (by omega)
          rw [eA] at m1
          clear eA hc hbb hmr
          generalize nt m.ns q = x at *
          have hq8 := hn8
          generalize (delA (m.ns.take q) j) = ys at *
          generalize (delA (m.cs.take q) j) = xs at *
          have hoX := Lib.hid (own_below hG.ns ((below_drew wr).alloc (Nat.le_refl _) (.cells #[.int .i64 x] 3)))
          have hadd := Lib.hid (fun A9 c9 w9 ho hg => OS.addI (A9 := A9) (c9 := c9) (w9 := w9) (x := x) hO.out hb hG ((below_drew wr).alloc (Nat.le_refl _) (.cells #[.int .i64 x] 3)) ho hg)
          have hbs := Lib.hid (show (bb + 1) ≤ (wr.drew.alloc (.cells #[.int .i64 x] 3)).heap.size from Nat.le_trans hO.out.lt.2.2.2.1 ((below_drew wr).alloc (Nat.le_refl _) _).size)
          have z5 := keep_cell (al0 wr (.cells #[.int .i64 x] 3)) z0
          have z6 := keep_cell (al0 wr (.cells #[.int .i64 x] 3)) z1
          have hbX := Lib.hid (show ys.length + 1 ≤ maxLen ∧ (ys.length + 1) * 8 ≤ 140737488355328 by unfold maxLen; omega)
          clear hb hG hO hlx hly
          obtain ⟨iI, hiI, hzI0, hzI1, hzI2⟩ := info_parts infoI
          go_region_law (refine step_gen rfl (.tmp 53) (.tmp 59) 24 rfl (bb + 1) 3 iI _ 1 8 Try.underlying24 hiI hzI0 hzI1 hzI2 rfl (by decide) (.slice D2 ys.length d2) ys.length _ (by rfl) hoX.out (some ⟨_, 0, none⟩) 1 1 [_] (by rfl) rfl (stand_new _ _ _ _) (by intro u hu; rw [List.mem_singleton.1 hu]; rfl) hbX.out.1 hbX.out.2 hbs.out ?_; intro A9 c9 w9 ho9 hg9 hat9; obtain ⟨hb9, hfin⟩ := hadd.out A9 c9 w9 ho9 hg9; obtain ⟨s0, s1, s2, s3⟩ := hb9.cells; replace hfin := Lib.hid hfin; clear ho9 hg9 hat9 hb9)
          all_goals
            go_wp2
            go_meet
            exact hfin
        case rest =>
        have hO2 := hcut
        clear hcut hO m0 m1
        obtain ⟨m0, m1, -⟩ := hO2.out.m4.cells
        by_cases hqc : q < m.cs.length
        · have hqci : (q : Int) < (m.cs.length : Int) := by omega
          have hdx := Lib.hid (del_on m.cs j q hqc hqjH.out)
          have hdy := Lib.hid (del_on m.ns j q hqn hqjH.out)
          go_upto_region 15 with fail
          have hH := hO2
          clear m0 m1
          obtain ⟨D1, d1, D2, d2, hb, hG⟩ := hO2.out.ob
          obtain ⟨m0, m1, -⟩ := hO2.out.m4.cells
          obtain ⟨z0, z1, z2, z3⟩ := hb.cells
          have hlx := del_le m.cs j q
          have hly := (show (delA (m.ns.take q) j ++ [nt m.ns q]).length ≤ q + 1 by have := del_le m.ns j q; simp; omega)
          have hmr := hm0.out.step hO2.out.bel (Nat.le_refl _)
          obtain ⟨b, off, eA, hbb, hc⟩ := hmr.cs.at (i := q) (by omega)
          have kc := hc q (by omega)
          rw [eA] at m0
          clear eA hc hbb hmr
          generalize nt m.cs q = x at *
          have hq8 := hn8
          generalize (delA (m.ns.take q) j ++ [nt m.ns q]) = ys at *
          generalize (delA (m.cs.take q) j) = xs at *
          have hoX := Lib.hid (own_below hG.cs ((below_drew wc).alloc (Nat.le_refl _) (.cells #[.string x] 9)))
          have hadd := Lib.hid (fun A9 c9 w9 ho hg => OS.addS (A9 := A9) (c9 := c9) (w9 := w9) (x := x) hO2.out hb hG ((below_drew wc).alloc (Nat.le_refl _) (.cells #[.string x] 9)) ho hg)
          have hbs := Lib.hid (show (bb + 1) ≤ (wc.drew.alloc (.cells #[.string x] 9)).heap.size from Nat.le_trans hO2.out.lt.2.2.2.1 ((below_drew wc).alloc (Nat.le_refl _) _).size)
          have z5 := keep_cell (al0 wc (.cells #[.string x] 9)) z0
          have z6 := keep_cell (al0 wc (.cells #[.string x] 9)) z1
          have hbX := Lib.hid (show xs.length + 1 ≤ maxLen ∧ (xs.length + 1) * 16 ≤ 140737488355328 by unfold maxLen; omega)
          clear hb hG hO2 hlx hly
          obtain ⟨iS, hiS, hzS0, hzS1, hzS2⟩ := info_parts infoS
          go_region_law (refine step_gen rfl (.tmp 73) (.tmp 79) 23 rfl (bb + 1) 9 iS _ 1 16 Try.underlying23 hiS hzS0 hzS1 hzS2 rfl (by decide) (.slice D1 xs.length d1) xs.length _ (by rfl) hoX.out (some ⟨_, 0, none⟩) 1 1 [_] (by rfl) rfl (stand_new _ _ _ _) (by intro u hu; rw [List.mem_singleton.1 hu]; rfl) hbX.out.1 hbX.out.2 hbs.out ?_; intro A9 c9 w9 ho9 hg9 hat9; obtain ⟨hb9, hfin⟩ := hadd.out A9 c9 w9 ho9 hg9; obtain ⟨s0, s1, s2, s3⟩ := hb9.cells; replace hfin := Lib.hid hfin; clear ho9 hg9 hat9 hb9)
          all_goals
            have hO' : Hid (OS w w.heap.size (w.heap.size + 1) bb (bb + 1) (.slice A1 m.cs.length c1) (.slice A2 m.ns.length c2) (delA (m.cs.take (q + 1)) j) (delA (m.ns.take (q + 1)) j) _) := Lib.hid (by rw [hdx.out, hdy.out]; exact hfin.out)
            clear hfin hadd hoX
            go_wp2
            go_roundw
            case rel => exact ⟨q + 1, by omega, by go_num, hO'⟩
            case measure => simp [intOf]; omega
        · have hqci : ¬ (q : Int) < (m.cs.length : Int) := by omega
          have hO' : Hid (OS w w.heap.size (w.heap.size + 1) bb (bb + 1) (.slice A1 m.cs.length c1) (.slice A2 m.ns.length c2) (delA (m.cs.take (q + 1)) j) (delA (m.ns.take (q + 1)) j) wc) := Lib.hid (by rw [take_more m.cs q (by omega), del_on m.ns j q hqn hqjH.out]; exact hO2.out)
          clear hO2
          go_wp2
          go_roundw
          case rel => exact ⟨q + 1, by omega, by go_num, hO'⟩
          case measure => simp [intOf]; omega
    · obtain rfl : q = m.ns.length := by omega
      have hO' := hO.out
      rw [List.take_of_length_le (by have := hnc.out; omega), List.take_of_length_le (Nat.le_refl _)] at hO'
      have hE : Hid (delA m.cs j = delA m.cs j) := Lib.hid rfl
      obtain ⟨m0, m1, -⟩ := hO'.m4.cells
      obtain ⟨D1, d1, D2, d2, hb, hG⟩ := hO'.ob
      have hT := hO'.tells hb hG
      obtain ⟨q0, q1, -⟩ := hb.cells
      obtain ⟨z0, z1, z2, z3⟩ := hO'.m8.cells
      obtain ⟨y0, y1, -⟩ := (hO'.m8.put (.slice D1 (delA m.cs j).length d1) (.slice D2 (delA m.ns j).length d2)).cells
      have hne8 : bb ≠ w.heap.size + 1 := fun e => hO'.lt.2.2.2.2.2.2.2.2 e.symm
      replace hT := Lib.hid hT
      clear hO hO' hb hG hqn
      generalize delA m.cs j = xs at *
      generalize delA m.ns j = ys at *
      go_wp2
      refine bodyPost_ret (v := .tuple #[.agg #[.slice D1 xs.length d1, .slice D2 ys.length d2], .int .i64 0]) ?_ rfl hT.out
      clear z0 z1 z2 z3 q0 q1 m0 m1
      simp [results, Try.results35, go_sem, y0, y1]
theorem rmerge_any (A1 : Option Addr) (c1 : Nat) (A2 : Option Addr) (c2 : Nat) (m : M) (k i : Int) (w : World) (h : HM w A1 c1 A2 c2 m) :
    Calls Try.prog 35 #[.agg #[.slice A1 m.cs.length c1, .slice A2 m.ns.length c2], .int .i64 k, .int .i64 i] w (Tells (mrgE m k i) (mrgM m k i) w) := by
  by_cases hz : chk m k = 0
  · cases hi : isN i m.cs.length with
    | false =>
      by_cases g : i < 0
      · exact rmerge_7 A1 c1 A2 c2 m k i w h hz hi g
      · refine rmerge_7b A1 c1 A2 c2 m k i w h hz hi g ?_
        cases Int.lt_or_le i m.cs.length with
        | inl h6 => rw [(isN_iff i _).2 ⟨by omega, h6⟩] at hi; cases hi
        | inr h6 => exact h6
    | true =>
      by_cases hd : node m i.toNat = node m (i.toNat + 1)
      · exact rmerge_0 A1 c1 A2 c2 m k i w h hz hi hd
      · exact rmerge_18 A1 c1 A2 c2 m k i w h hz hi hd
  · exact rmerge_no A1 c1 A2 c2 m k i w h hz
end Go.Proofs.Ytpijljbkdfjhcaa.spnJr
