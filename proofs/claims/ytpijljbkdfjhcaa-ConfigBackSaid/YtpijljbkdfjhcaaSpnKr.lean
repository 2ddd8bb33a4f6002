/- The document's Move. -/
import Derived.Test.YtpijljbkdfjhcaaSpnK
import Derived.Test.YtpijljbkdfjhcaaSpnJ
import Derived.Test.YtpijljbkdfjhcaaSpnG
set_option linter.unusedVariables false
set_option linter.unusedSimpArgs false
namespace Go.Proofs.Ytpijljbkdfjhcaa.spnKr
open Go.ChangeShapes Go.WideShapes Go.ChangeAt Go.RowKit
open spnM spnA spnB spnC spnN spnP spnD spnE spnF spnG spnH spnI spnJ spnK
attribute [local go_sem high] bin_slt bin_sle bin_sge bin_seq bin_sne

set_option maxRecDepth 100000 in
set_option maxHeartbeats 2000000 in
theorem rmove_no (A1 : Option Addr) (c1 : Nat) (A2 : Option Addr) (c2 : Nat) (m : M) (k i nn : Int) (w : World) (h : HM w A1 c1 A2 c2 m) (hz : ¬ chk m k = 0) :
    Calls Try.prog 36 #[.agg #[.slice A1 m.cs.length c1, .slice A2 m.ns.length c2], .int .i64 k, .int .i64 i, .int .i64 nn] w (Tells (movE m k i nn) (movM m k i nn) w) := by
  have e1 : movE m k i nn = chk m k := by unfold movE; rw [if_pos hz]
  have e2 : movM m k i nn = non := by unfold movM; rw [if_neg (by rw [e1]; exact hz)]
  rw [e1, e2]
  obtain ⟨W, hW, hb4, hb8, hal⟩ := head_boxes w (.slice A1 m.cs.length c1) (.slice A2 m.ns.length c2)
  have hck := rcheck_any A1 c1 A2 c2 m k W (h.below hal)
  have hmW := Lib.hid (h.below hal)
  replace hck := Lib.hid hck
  replace hb4 := Lib.hid hb4
  replace hb8 := Lib.hid hb8
  replace hal := Lib.hid hal
  replace hW := Lib.hid hW
  clear e1 e2 h
  have hne : ((chk m k : Int) != 0) = true := by rw [bne_iff_ne]; omega
  clear hz
  generalize chk m k = E at *
  go_enter Try.func36, Try.ntmps36
  go_wp2_with (fail)
  rw [hW.out]
  refine hck.out.mono ?_
  rintro e w1 ⟨rfl, hB1⟩
  have hb4' := hb4.out.below hB1
  have hb8' := hb8.out.below hB1
  have hm1 := Lib.hid (hmW.out.below hB1)
  have hbB := Lib.hid (trans0 hal.out hB1)
  obtain ⟨p0, p1, -⟩ := hb4'.cells
  obtain ⟨z0, z1, z2, z3⟩ := hb8'.cells
  obtain ⟨y0, y1, -⟩ := (hb8'.put (.slice none 0 0) (.slice none 0 0)).cells
  have hbl := Lib.hid (below2 (i := 0) (j := 1) hbB.out (b := w.heap.size + 1) (Nat.le_succ _) (.slice none 0 0) (.slice none 0 0))
  clear hb4' hb8' hB1
  go_wp2
  refine bodyPost_ret (v := .tuple #[.agg #[.slice none 0 0, .slice none 0 0], .int .i64 E]) ?_ rfl (tells_no hbl.out)
  clear z0 z1 z2 z3
  simp [results, Try.results36, go_sem, y0, y1]
set_option maxRecDepth 100000 in
set_option maxHeartbeats 2000000 in
theorem rmove_7 (A1 : Option Addr) (c1 : Nat) (A2 : Option Addr) (c2 : Nat) (m : M) (k i nn : Int) (w : World) (h : HM w A1 c1 A2 c2 m) (hz : chk m k = 0) (hi : there m i = false) (g : i < 0) :
    Calls Try.prog 36 #[.agg #[.slice A1 m.cs.length c1, .slice A2 m.ns.length c2], .int .i64 k, .int .i64 i, .int .i64 nn] w (Tells (movE m k i nn) (movM m k i nn) w) := by
  have e1 : movE m k i nn = 7 := by unfold movE; rw [if_neg (by omega), if_pos hi]
  have e2 : movM m k i nn = non := by unfold movM; rw [if_neg (by omega)]
  rw [e1, e2]
  obtain ⟨W, hW, hb4, hb8, hal⟩ := head_boxes w (.slice A1 m.cs.length c1) (.slice A2 m.ns.length c2)
  have hck := rcheck_any A1 c1 A2 c2 m k W (h.below hal)
  have hmW := Lib.hid (h.below hal)
  rw [hz] at hck
  obtain ⟨hnc, hn8⟩ : m.ns.length = m.cs.length + 1 ∧ m.ns.length ≤ 8 := ⟨((chk_iff m k).1 hz).nc, ((chk_iff m k).1 hz).n8⟩
  replace hck := Lib.hid hck
  replace hb4 := Lib.hid hb4
  replace hb8 := Lib.hid hb8
  replace hal := Lib.hid hal
  replace hW := Lib.hid hW
  clear e1 e2 h
  replace hnc := Lib.hid hnc
  go_enter Try.func36, Try.ntmps36
  go_wp2_with (fail)
  rw [hW.out]
  refine hck.out.mono ?_
  rintro e w1 ⟨rfl, hB1⟩
  have hb4' := hb4.out.below hB1
  have hb8' := hb8.out.below hB1
  have hm1 := Lib.hid (hmW.out.below hB1)
  have hbB := Lib.hid (trans0 hal.out hB1)
  obtain ⟨p0, p1, -⟩ := hb4'.cells
  obtain ⟨z0, z1, z2, z3⟩ := hb8'.cells
  obtain ⟨y0, y1, -⟩ := (hb8'.put (.slice none 0 0) (.slice none 0 0)).cells
  have hbl := Lib.hid (below2 (i := 0) (j := 1) hbB.out (b := w.heap.size + 1) (Nat.le_succ _) (.slice none 0 0) (.slice none 0 0))
  clear hb4' hb8' hB1
  go_wp2
  refine bodyPost_ret (v := .tuple #[.agg #[.slice none 0 0, .slice none 0 0], .int .i64 (7 : Nat)]) ?_ rfl (tells_no hbl.out)
  clear z0 z1 z2 z3
  simp [results, Try.results36, go_sem, y0, y1]
set_option maxRecDepth 100000 in
set_option maxHeartbeats 2000000 in
theorem rmove_7b (A1 : Option Addr) (c1 : Nat) (A2 : Option Addr) (c2 : Nat) (m : M) (k i nn : Int) (w : World) (h : HM w A1 c1 A2 c2 m) (hz : chk m k = 0) (hi : there m i = false) (g0 : ¬ i < 0) (g : (m.ns.length : Int) ≤ i) :
    Calls Try.prog 36 #[.agg #[.slice A1 m.cs.length c1, .slice A2 m.ns.length c2], .int .i64 k, .int .i64 i, .int .i64 nn] w (Tells (movE m k i nn) (movM m k i nn) w) := by
  have e1 : movE m k i nn = 7 := by unfold movE; rw [if_neg (by omega), if_pos hi]
  have e2 : movM m k i nn = non := by unfold movM; rw [if_neg (by omega)]
  rw [e1, e2]
  obtain ⟨W, hW, hb4, hb8, hal⟩ := head_boxes w (.slice A1 m.cs.length c1) (.slice A2 m.ns.length c2)
  have hck := rcheck_any A1 c1 A2 c2 m k W (h.below hal)
  have hmW := Lib.hid (h.below hal)
  rw [hz] at hck
  obtain ⟨hnc, hn8⟩ : m.ns.length = m.cs.length + 1 ∧ m.ns.length ≤ 8 := ⟨((chk_iff m k).1 hz).nc, ((chk_iff m k).1 hz).n8⟩
  replace hck := Lib.hid hck
  replace hb4 := Lib.hid hb4
  replace hb8 := Lib.hid hb8
  replace hal := Lib.hid hal
  replace hW := Lib.hid hW
  clear e1 e2 h
  replace hnc := Lib.hid hnc
  go_enter Try.func36, Try.ntmps36
  go_wp2_with (fail)
  rw [hW.out]
  refine hck.out.mono ?_
  rintro e w1 ⟨rfl, hB1⟩
  have hb4' := hb4.out.below hB1
  have hb8' := hb8.out.below hB1
  have hm1 := Lib.hid (hmW.out.below hB1)
  have hbB := Lib.hid (trans0 hal.out hB1)
  obtain ⟨p0, p1, -⟩ := hb4'.cells
  obtain ⟨z0, z1, z2, z3⟩ := hb8'.cells
  obtain ⟨y0, y1, -⟩ := (hb8'.put (.slice none 0 0) (.slice none 0 0)).cells
  have hbl := Lib.hid (below2 (i := 0) (j := 1) hbB.out (b := w.heap.size + 1) (Nat.le_succ _) (.slice none 0 0) (.slice none 0 0))
  clear hb4' hb8' hB1
  go_wp2
  refine bodyPost_ret (v := .tuple #[.agg #[.slice none 0 0, .slice none 0 0], .int .i64 (7 : Nat)]) ?_ rfl (tells_no hbl.out)
  clear z0 z1 z2 z3
  simp [results, Try.results36, go_sem, y0, y1]
set_option maxRecDepth 100000 in
set_option maxHeartbeats 2000000 in
theorem rmove_1 (A1 : Option Addr) (c1 : Nat) (A2 : Option Addr) (c2 : Nat) (m : M) (k i nn : Int) (w : World) (h : HM w A1 c1 A2 c2 m) (hz : chk m k = 0) (hi : there m i = true) (hn : isN nn k = false) (g : nn < 0) :
    Calls Try.prog 36 #[.agg #[.slice A1 m.cs.length c1, .slice A2 m.ns.length c2], .int .i64 k, .int .i64 i, .int .i64 nn] w (Tells (movE m k i nn) (movM m k i nn) w) := by
  have e1 : movE m k i nn = 1 := by unfold movE; rw [if_neg (by omega), if_neg (by rw [hi]; decide), if_pos hn]
  have e2 : movM m k i nn = non := by unfold movM; rw [if_neg (by omega)]
  rw [e1, e2]
  obtain ⟨W, hW, hb4, hb8, hal⟩ := head_boxes w (.slice A1 m.cs.length c1) (.slice A2 m.ns.length c2)
  have hck := rcheck_any A1 c1 A2 c2 m k W (h.below hal)
  have hmW := Lib.hid (h.below hal)
  rw [hz] at hck
  obtain ⟨hnc, hn8⟩ : m.ns.length = m.cs.length + 1 ∧ m.ns.length ≤ 8 := ⟨((chk_iff m k).1 hz).nc, ((chk_iff m k).1 hz).n8⟩
  obtain ⟨hq, g0, g1⟩ := (there_iff m i).1 hi
  have gg0 : ¬ i < 0 := by omega
  have gg1 : ¬ (m.ns.length : Int) ≤ i := by omega
  replace hck := Lib.hid hck
  replace hb4 := Lib.hid hb4
  replace hb8 := Lib.hid hb8
  replace hal := Lib.hid hal
  replace hW := Lib.hid hW
  clear e1 e2 h
  replace hnc := Lib.hid hnc
  clear hi hn hq
  go_enter Try.func36, Try.ntmps36
  go_wp2_with (fail)
  rw [hW.out]
  refine hck.out.mono ?_
  rintro e w1 ⟨rfl, hB1⟩
  have hb4' := hb4.out.below hB1
  have hb8' := hb8.out.below hB1
  have hm1 := Lib.hid (hmW.out.below hB1)
  have hbB := Lib.hid (trans0 hal.out hB1)
  obtain ⟨p0, p1, -⟩ := hb4'.cells
  obtain ⟨z0, z1, z2, z3⟩ := hb8'.cells
  obtain ⟨y0, y1, -⟩ := (hb8'.put (.slice none 0 0) (.slice none 0 0)).cells
  have hbl := Lib.hid (below2 (i := 0) (j := 1) hbB.out (b := w.heap.size + 1) (Nat.le_succ _) (.slice none 0 0) (.slice none 0 0))
  clear hb4' hb8' hB1
  go_wp2
  refine bodyPost_ret (v := .tuple #[.agg #[.slice none 0 0, .slice none 0 0], .int .i64 (1 : Nat)]) ?_ rfl (tells_no hbl.out)
  clear z0 z1 z2 z3
  simp [results, Try.results36, go_sem, y0, y1]
set_option maxRecDepth 100000 in
set_option maxHeartbeats 2000000 in
theorem rmove_1b (A1 : Option Addr) (c1 : Nat) (A2 : Option Addr) (c2 : Nat) (m : M) (k i nn : Int) (w : World) (h : HM w A1 c1 A2 c2 m) (hz : chk m k = 0) (hi : there m i = true) (hn : isN nn k = false) (gn : ¬ nn < 0) (g : k ≤ nn) :
    Calls Try.prog 36 #[.agg #[.slice A1 m.cs.length c1, .slice A2 m.ns.length c2], .int .i64 k, .int .i64 i, .int .i64 nn] w (Tells (movE m k i nn) (movM m k i nn) w) := by
  have e1 : movE m k i nn = 1 := by unfold movE; rw [if_neg (by omega), if_neg (by rw [hi]; decide), if_pos hn]
  have e2 : movM m k i nn = non := by unfold movM; rw [if_neg (by omega)]
  rw [e1, e2]
  obtain ⟨W, hW, hb4, hb8, hal⟩ := head_boxes w (.slice A1 m.cs.length c1) (.slice A2 m.ns.length c2)
  have hck := rcheck_any A1 c1 A2 c2 m k W (h.below hal)
  have hmW := Lib.hid (h.below hal)
  rw [hz] at hck
  obtain ⟨hnc, hn8⟩ : m.ns.length = m.cs.length + 1 ∧ m.ns.length ≤ 8 := ⟨((chk_iff m k).1 hz).nc, ((chk_iff m k).1 hz).n8⟩
  obtain ⟨hq, g0, g1⟩ := (there_iff m i).1 hi
  have gg0 : ¬ i < 0 := by omega
  have gg1 : ¬ (m.ns.length : Int) ≤ i := by omega
  replace hck := Lib.hid hck
  replace hb4 := Lib.hid hb4
  replace hb8 := Lib.hid hb8
  replace hal := Lib.hid hal
  replace hW := Lib.hid hW
  clear e1 e2 h
  replace hnc := Lib.hid hnc
  clear hi hn hq
  go_enter Try.func36, Try.ntmps36
  go_wp2_with (fail)
  rw [hW.out]
  refine hck.out.mono ?_
  rintro e w1 ⟨rfl, hB1⟩
  have hb4' := hb4.out.below hB1
  have hb8' := hb8.out.below hB1
  have hm1 := Lib.hid (hmW.out.below hB1)
  have hbB := Lib.hid (trans0 hal.out hB1)
  obtain ⟨p0, p1, -⟩ := hb4'.cells
  obtain ⟨z0, z1, z2, z3⟩ := hb8'.cells
  obtain ⟨y0, y1, -⟩ := (hb8'.put (.slice none 0 0) (.slice none 0 0)).cells
  have hbl := Lib.hid (below2 (i := 0) (j := 1) hbB.out (b := w.heap.size + 1) (Nat.le_succ _) (.slice none 0 0) (.slice none 0 0))
  clear hb4' hb8' hB1
  go_wp2
  refine bodyPost_ret (v := .tuple #[.agg #[.slice none 0 0, .slice none 0 0], .int .i64 (1 : Nat)]) ?_ rfl (tells_no hbl.out)
  clear z0 z1 z2 z3
  simp [results, Try.results36, go_sem, y0, y1]
set_option maxRecDepth 100000 in
set_option maxHeartbeats 2000000 in
theorem rmove_8 (A1 : Option Addr) (c1 : Nat) (A2 : Option Addr) (c2 : Nat) (m : M) (k i nn : Int) (w : World) (h : HM w A1 c1 A2 c2 m) (hz : chk m k = 0) (hi : there m i = true) (hn : isN nn k = true) (hd : node m i.toNat = nn) :
    Calls Try.prog 36 #[.agg #[.slice A1 m.cs.length c1, .slice A2 m.ns.length c2], .int .i64 k, .int .i64 i, .int .i64 nn] w (Tells (movE m k i nn) (movM m k i nn) w) := by
  have e1 : movE m k i nn = 8 := by unfold movE; rw [if_neg (by omega), if_neg (by rw [hi]; decide), if_neg (by rw [hn]; decide), if_pos hd]
  have e2 : movM m k i nn = non := by unfold movM; rw [if_neg (by omega)]
  rw [e1, e2]
  obtain ⟨W, hW, hb4, hb8, hal⟩ := head_boxes w (.slice A1 m.cs.length c1) (.slice A2 m.ns.length c2)
  have hck := rcheck_any A1 c1 A2 c2 m k W (h.below hal)
  have hmW := Lib.hid (h.below hal)
  rw [hz] at hck
  obtain ⟨hnc, hn8⟩ : m.ns.length = m.cs.length + 1 ∧ m.ns.length ≤ 8 := ⟨((chk_iff m k).1 hz).nc, ((chk_iff m k).1 hz).n8⟩
  obtain ⟨hq, g0, g1⟩ := (there_iff m i).1 hi
  have gg0 : ¬ i < 0 := by omega
  have gg1 : ¬ (m.ns.length : Int) ≤ i := by omega
  have gn0 : ¬ nn < 0 := by have := (isN_iff nn k).1 hn; omega
  have gn1 : ¬ k ≤ nn := by have := (isN_iff nn k).1 hn; omega
  have hdb : (nt m.ns i.toNat == nn) = true := by rw [beq_iff_eq]; exact hd
  replace hck := Lib.hid hck
  replace hb4 := Lib.hid hb4
  replace hb8 := Lib.hid hb8
  replace hal := Lib.hid hal
  replace hW := Lib.hid hW
  clear e1 e2 h
  replace hnc := Lib.hid hnc
  clear hi hn hq hd
  generalize hxx : nt m.ns i.toNat = xx at *
  go_enter Try.func36, Try.ntmps36
  go_wp2_with (fail)
  rw [hW.out]
  refine hck.out.mono ?_
  rintro e w1 ⟨rfl, hB1⟩
  have hb4' := hb4.out.below hB1
  have hb8' := hb8.out.below hB1
  have hm1 := Lib.hid (hmW.out.below hB1)
  have hbB := Lib.hid (trans0 hal.out hB1)
  obtain ⟨p0, p1, -⟩ := hb4'.cells
  obtain ⟨z0, z1, z2, z3⟩ := hb8'.cells
  obtain ⟨y0, y1, -⟩ := (hb8'.put (.slice none 0 0) (.slice none 0 0)).cells
  have hbl := Lib.hid (below2 (i := 0) (j := 1) hbB.out (b := w.heap.size + 1) (Nat.le_succ _) (.slice none 0 0) (.slice none 0 0))
  clear hb4' hb8' hB1
  obtain ⟨b, off, eA, hbb, hc⟩ := hm1.out.ns.at (i := i.toNat) (by omega)
  have kc := hc i.toNat (by omega)
  rw [eA] at p1
  clear hc eA hbb
  rw [hxx] at kc
  clear hxx
  go_wp2
  refine bodyPost_ret (v := .tuple #[.agg #[.slice none 0 0, .slice none 0 0], .int .i64 (8 : Nat)]) ?_ rfl (tells_no hbl.out)
  clear z0 z1 z2 z3
  simp [results, Try.results36, go_sem, y0, y1]
set_option maxRecDepth 100000 in
set_option maxHeartbeats 2000000 in
theorem rmove_0 (A1 : Option Addr) (c1 : Nat) (A2 : Option Addr) (c2 : Nat) (m : M) (k i nn : Int) (w : World) (h : HM w A1 c1 A2 c2 m) (hz : chk m k = 0) (hi : there m i = true) (hn : isN nn k = true) (hd : node m i.toNat ≠ nn) :
    Calls Try.prog 36 #[.agg #[.slice A1 m.cs.length c1, .slice A2 m.ns.length c2], .int .i64 k, .int .i64 i, .int .i64 nn] w (Tells (movE m k i nn) (movM m k i nn) w) := by
  have e1 : movE m k i nn = 0 := by unfold movE; rw [if_neg (by omega), if_neg (by rw [hi]; decide), if_neg (by rw [hn]; decide), if_neg hd]
  have e2 : movM m k i nn = ⟨m.cs, setA m.ns i.toNat nn⟩ := by unfold movM; rw [if_pos e1]
  rw [e1, e2]
  obtain ⟨W, hW, hb4, hb8, hal⟩ := head_boxes w (.slice A1 m.cs.length c1) (.slice A2 m.ns.length c2)
  have hck := rcheck_any A1 c1 A2 c2 m k W (h.below hal)
  have hmW := Lib.hid (h.below hal)
  rw [hz] at hck
  obtain ⟨hnc, hn8⟩ : m.ns.length = m.cs.length + 1 ∧ m.ns.length ≤ 8 := ⟨((chk_iff m k).1 hz).nc, ((chk_iff m k).1 hz).n8⟩
  obtain ⟨hq, g0, g1⟩ := (there_iff m i).1 hi
  have gg0 : ¬ i < 0 := by omega
  have gg1 : ¬ (m.ns.length : Int) ≤ i := by omega
  have gn0 : ¬ nn < 0 := by have := (isN_iff nn k).1 hn; omega
  have gn1 : ¬ k ≤ nn := by have := (isN_iff nn k).1 hn; omega
  obtain ⟨xx, hxx⟩ : ∃ xx, nt m.ns i.toNat = xx := ⟨_, rfl⟩
  have hdb : (xx == nn) = false := by rw [beq_eq_false_iff_ne, ← hxx]; exact hd
  replace hck := Lib.hid hck
  replace hb4 := Lib.hid hb4
  replace hb8 := Lib.hid hb8
  replace hal := Lib.hid hal
  replace hW := Lib.hid hW
  clear e1 e2 h
  replace hnc := Lib.hid hnc
  clear hi hn hq hd
  replace hxx := Lib.hid hxx
  go_enter Try.func36, Try.ntmps36
  go_wp2_with (fail)
  rw [hW.out]
  refine hck.out.mono ?_
  rintro e w1 ⟨rfl, hB1⟩
  have hb4' := hb4.out.below hB1
  have hb8' := hb8.out.below hB1
  have hm1 := Lib.hid (hmW.out.below hB1)
  have hbB := Lib.hid (trans0 hal.out hB1)
  obtain ⟨p0, p1, -⟩ := hb4'.cells
  have hcp := Lib.hid (rcopy_any A1 c1 A2 c2 m w1 hm1.out)
  obtain ⟨b, off, eA, hbb, hc⟩ := hm1.out.ns.at (i := i.toNat) (by omega)
  have kc := hc i.toNat (by omega)
  subst eA
  rw [hxx.out] at kc
  have hl8 := Lib.hid hb8'.lt
  replace hb8' := Lib.hid hb8'
  clear hc hbb hb4' hB1
  have hiN : Hid (i.toNat < m.ns.length) := Lib.hid (by omega)
  go_wp2_with (fail)
  refine hcp.out.mono ?_
  rintro e w3 ⟨D1, d1, D2, d2, rfl, hG, hB3⟩
  clear p0 p1 kc
  have hll := hl8.out
  have hii := hiN.out
  have hB3' := trans0 hbB.out hB3
  obtain ⟨X, hX⟩ : ∃ X, w3.alloc (.cells #[.slice D1 m.cs.length d1, .slice D2 m.ns.length d2] 26) = X := ⟨_, rfl⟩
  have hGX := hG.below (al0 w3 (.cells #[.slice D1 m.cs.length d1, .slice D2 m.ns.length d2] 26))
  have hBX := trans0 hB3' (al0 w3 (.cells #[.slice D1 m.cs.length d1, .slice D2 m.ns.length d2] 26))
  have hb8X := (hb8'.out.below hB3).below (al0 w3 (.cells #[.slice D1 m.cs.length d1, .slice D2 m.ns.length d2] 26))
  obtain ⟨q0, q1⟩ := cells2 w3 (.slice D1 m.cs.length d1) (.slice D2 m.ns.length d2) 26
  rw [hX] at hGX hBX hb8X q0 q1
  obtain ⟨g, rfl, hg0, hg1⟩ : ∃ g, D2 = some ⟨g, 0, none⟩ ∧ w1.heap.size ≤ g ∧ g < w3.heap.size := by
    have hlt := hG.ns.lt
    rcases hG.ns.2 with ⟨e, e0⟩ | ⟨g, cap, cur, e, hbg, _⟩
    · omega
    · cases e; exact ⟨g, rfl, hlt g rfl⟩
  have hxc := hGX.ns.cellAt i.toNat (by omega)
  rw [List.getElem?_map, List.getElem?_eq_getElem hii] at hxc
  simp only [Option.map_some] at hxc
  have hxf := hGX.ns.frozenAt i.toNat
  obtain ⟨hst, -⟩ := hGX.ns.stored i.toNat (.int .i64 nn)
  have hw0 : w.heap.size ≤ w1.heap.size := hbB.out.size
  have hO5 := own_block hGX.cs (w' := X.setCell ⟨g, i.toNat, none⟩ (.int .i64 nn)) fun k e => Below.heap_setCell _ _ _ _ (show k ≠ g from fun e2 => own_apart hGX.cs hGX.ns (by decide) e (by rw [e2]; rfl))
  have hls : (setA m.ns i.toNat nn).length = m.ns.length := by unfold setA; exact List.length_set
  have hms : (m.ns.map (Value.int .i64)).set i.toNat (.int .i64 nn) = (setA m.ns i.toNat nn).map (Value.int .i64) := by unfold setA; rw [List.map_set]
  rw [hms] at hst
  have hG5 : GM (X.setCell ⟨g, i.toNat, none⟩ (.int .i64 nn)) w1.heap.size D1 d1 (some ⟨g, 0, none⟩) d2 ⟨m.cs, setA m.ns i.toNat nn⟩ :=
    ⟨hO5, by show World.ownsRow _ _ _ 1 (.slice _ (setA m.ns i.toNat nn).length d2) (setA m.ns i.toNat nn).length _; rw [hls]; exact hst⟩
  have hG6 := hG5.set2 (b := w.heap.size + 1) hll (.slice D1 m.cs.length d1) (.slice (some ⟨g, 0, none⟩) m.ns.length d2)
  have hb85 : B2 (w.heap.size + 1) (.slice none 0 0) (.slice none 0 0) (X.setCell ⟨g, i.toNat, none⟩ (.int .i64 nn)) := hb8X.setOther (a := ⟨g, i.toNat, none⟩) (show w.heap.size + 1 ≠ g by omega) _
  have hB6 := below2 (i := 0) (j := 1) (hBX.setCell (p := ⟨g, i.toNat, none⟩) (show w.heap.size ≤ g by omega) (.int .i64 nn)) (Nat.le_succ _) (.slice D1 m.cs.length d1) (.slice (some ⟨g, 0, none⟩) m.ns.length d2)
  have n0 := (World.cell?_of_block (a := ⟨w3.heap.size, 0, none⟩) (Below.heap_setCell X ⟨g, i.toNat, none⟩ (.int .i64 nn) w3.heap.size (show w3.heap.size ≠ g by omega))).trans q0
  have n1 := (World.cell?_of_block (a := ⟨w3.heap.size, 1, none⟩) (Below.heap_setCell X ⟨g, i.toNat, none⟩ (.int .i64 nn) w3.heap.size (show w3.heap.size ≠ g by omega))).trans q1
  obtain ⟨z0, z1, z2, z3⟩ := hb85.cells
  obtain ⟨y0, y1, -⟩ := (hb85.put (.slice D1 m.cs.length d1) (.slice (some ⟨g, 0, none⟩) m.ns.length d2)).cells
  have hT : Tells 0 ⟨m.cs, setA m.ns i.toNat nn⟩ w (.returned (.tuple #[.agg #[.slice D1 m.cs.length d1, .slice (some ⟨g, 0, none⟩) m.ns.length d2], .int .i64 0])) (((X.setCell ⟨g, i.toNat, none⟩ (.int .i64 nn)).setCell ⟨w.heap.size + 1, 0, none⟩ (.slice D1 m.cs.length d1)).setCell ⟨w.heap.size + 1, 1, none⟩ (.slice (some ⟨g, 0, none⟩) m.ns.length d2)) :=
    ⟨D1, d1, some ⟨g, 0, none⟩, d2, by show _ = Ending.returned (.tuple #[.agg #[.slice D1 m.cs.length d1, .slice _ (setA m.ns i.toNat nn).length d2], .int .i64 (0 : Nat)]); rw [hls]; rfl, hG6.more hw0, hB6⟩
  subst hX
  replace hT := Lib.hid hT
  clear hB3 hB3' hG hGX hBX hb8X hst hO5 hls hms hG5 hG6 hb85 hB6 hll hg0 hg1 hw0 hcp
  go_wp2
  refine bodyPost_ret (v := .tuple #[.agg #[.slice D1 m.cs.length d1, .slice (some ⟨g, 0, none⟩) m.ns.length d2], .int .i64 0]) ?_ rfl hT.out
  clear z0 z1 z2 z3 n0 n1 q0 q1 hxc hxf
  simp [results, Try.results36, go_sem, y0, y1]
theorem rmove_any (A1 : Option Addr) (c1 : Nat) (A2 : Option Addr) (c2 : Nat) (m : M) (k i nn : Int) (w : World) (h : HM w A1 c1 A2 c2 m) :
    Calls Try.prog 36 #[.agg #[.slice A1 m.cs.length c1, .slice A2 m.ns.length c2], .int .i64 k, .int .i64 i, .int .i64 nn] w (Tells (movE m k i nn) (movM m k i nn) w) := by
  by_cases hz : chk m k = 0
  · cases hi : there m i with
    | false =>
      by_cases g : i < 0
      · exact rmove_7 A1 c1 A2 c2 m k i nn w h hz hi g
      · refine rmove_7b A1 c1 A2 c2 m k i nn w h hz hi g ?_
        have hnc := ((chk_iff m k).1 hz).nc
        cases Int.lt_or_le i m.ns.length with
        | inl h6 => rw [(there_iff m i).2 ⟨hnc, by omega, h6⟩] at hi; cases hi
        | inr h6 => exact h6
    | true =>
      cases hn : isN nn k with
      | false =>
        by_cases g : nn < 0
        · exact rmove_1 A1 c1 A2 c2 m k i nn w h hz hi hn g
        · refine rmove_1b A1 c1 A2 c2 m k i nn w h hz hi hn g ?_
          cases Int.lt_or_le nn k with
          | inl h6 => rw [(isN_iff nn k).2 ⟨by omega, h6⟩] at hn; cases hn
          | inr h6 => exact h6
      | true =>
        by_cases hd : node m i.toNat = nn
        · exact rmove_8 A1 c1 A2 c2 m k i nn w h hz hi hn hd
        · exact rmove_0 A1 c1 A2 c2 m k i nn w h hz hi hn hd
  · exact rmove_no A1 c1 A2 c2 m k i nn w h hz
end Go.Proofs.Ytpijljbkdfjhcaa.spnKr
