/- The document's Split. -/
import Derived.Test.YtpijljbkdfjhcaaSpnCo
import Derived.Deep.RegionLaw
import Derived.Test.YtpijljbkdfjhcaaSpnT
set_option linter.unusedVariables false
set_option linter.unusedSimpArgs false
namespace Go.Proofs.Ytpijljbkdfjhcaa.spnIr
open Go.Deep Go.ChangeShapes Go.WideShapes Go.ChangeAt Go.RowKit
open spnM spnA spnB spnC spnN spnP spnD spnE spnF spnG spnH spnI spnJ spnK spnT spnCo gen
attribute [local go_sem high] bin_slt bin_sle bin_sge bin_seq bin_sne

set_option maxRecDepth 100000 in
set_option maxHeartbeats 2000000 in
theorem rsplit_no (A1 : Option Addr) (c1 : Nat) (A2 : Option Addr) (c2 : Nat) (m : M) (k i : Int) (key : ByteArray) (w : World) (h : HM w A1 c1 A2 c2 m) (hz : ¬ chk m k = 0) :
    Calls Try.prog 34 #[.agg #[.slice A1 m.cs.length c1, .slice A2 m.ns.length c2], .int .i64 k, .int .i64 i, .string key] w (Tells (splE m k i key) (splM m k i key) w) := by
  have e1 : splE m k i key = chk m k := by unfold splE; rw [if_pos hz]
  have e2 : splM m k i key = non := by unfold splM; rw [if_neg (by rw [e1]; exact hz)]
  rw [e1, e2]
  obtain ⟨W, hW, hb4, hb8, hal⟩ := head_boxes w (.slice A1 m.cs.length c1) (.slice A2 m.ns.length c2)
  have hck := rcheck_any A1 c1 A2 c2 m k W (h.below hal)
  have hmW := Lib.hid (h.below hal)
  replace hck := Lib.hid hck
  replace hb4 := Lib.hid hb4
  replace hb8 := Lib.hid hb8
  replace hal := Lib.hid hal
  replace hW := Lib.hid hW
  clear e1 e2 h
  have hne : ((chk m k : Int) != 0) = true := by rw [bne_iff_ne]; omega
  clear hz
  generalize chk m k = E at *
  go_enter Try.func34, Try.ntmps34
  go_wp2_with (fail)
  rw [hW.out]
  refine hck.out.mono ?_
  rintro e w1 ⟨rfl, hB1⟩
  have hb4' := hb4.out.below hB1
  have hb8' := hb8.out.below hB1
  have hm1 := Lib.hid (hmW.out.below hB1)
  have hbB := Lib.hid (trans0 hal.out hB1)
  obtain ⟨p0, p1, -⟩ := hb4'.cells
  obtain ⟨z0, z1, z2, z3⟩ := hb8'.cells
  obtain ⟨y0, y1, -⟩ := (hb8'.put (.slice none 0 0) (.slice none 0 0)).cells
  have hbl := Lib.hid (below2 (i := 0) (j := 1) hbB.out (b := w.heap.size + 1) (Nat.le_succ _) (.slice none 0 0) (.slice none 0 0))
  clear hb4' hb8' hB1
  go_wp2
  refine bodyPost_ret (v := .tuple #[.agg #[.slice none 0 0, .slice none 0 0], .int .i64 E]) ?_ rfl (tells_no hbl.out)
  clear z0 z1 z2 z3
  simp [results, Try.results34, go_sem, y0, y1]
set_option maxRecDepth 100000 in
set_option maxHeartbeats 2000000 in
theorem rsplit_7 (A1 : Option Addr) (c1 : Nat) (A2 : Option Addr) (c2 : Nat) (m : M) (k i : Int) (key : ByteArray) (w : World) (h : HM w A1 c1 A2 c2 m) (hz : chk m k = 0) (hi9 : -9223372036854775808 ≤ i ∧ i ≤ 9223372036854775807) (hi : there m i = false) :
    Calls Try.prog 34 #[.agg #[.slice A1 m.cs.length c1, .slice A2 m.ns.length c2], .int .i64 k, .int .i64 i, .string key] w (Tells (splE m k i key) (splM m k i key) w) := by
  have e1 : splE m k i key = 7 := by unfold splE; rw [if_neg (by omega), if_pos hi]
  have e2 : splM m k i key = non := by unfold splM; rw [if_neg (by omega)]
  rw [e1, e2]
  obtain ⟨W, hW, hb4, hb8, hal⟩ := head_boxes w (.slice A1 m.cs.length c1) (.slice A2 m.ns.length c2)
  have hck := rcheck_any A1 c1 A2 c2 m k W (h.below hal)
  have hmW := Lib.hid (h.below hal)
  rw [hz] at hck
  obtain ⟨hnc, hn8⟩ : m.ns.length = m.cs.length + 1 ∧ m.ns.length ≤ 8 := ⟨((chk_iff m k).1 hz).nc, ((chk_iff m k).1 hz).n8⟩
  have hends := fun w' (hw : HM w' A1 c1 A2 c2 m) => ends_any A1 c1 A2 c2 m i w' hw hi9.1 hi9.2
  simp only [hi, Bool.false_eq_true, if_false, if_true] at hends
  replace hends := Lib.hid hends
  replace hck := Lib.hid hck
  replace hb4 := Lib.hid hb4
  replace hb8 := Lib.hid hb8
  replace hal := Lib.hid hal
  replace hW := Lib.hid hW
  clear e1 e2 h
  replace hnc := Lib.hid hnc
  clear hi hi9
  go_enter Try.func34, Try.ntmps34
  go_wp2_with (fail)
  rw [hW.out]
  refine hck.out.mono ?_
  rintro e w1 ⟨rfl, hB1⟩
  have hBW1 := Lib.hid hB1
  obtain ⟨p0, p1, -⟩ := (hb4.out.below hB1).cells
  have hen := Lib.hid (hends.out w1 (hmW.out.below hB1))
  clear hB1 hck
  go_wp2_with (fail)
  refine hen.out.mono ?_
  rintro e w2 ⟨rfl, hB2⟩
  have hB1 := trans0 hBW1.out hB2
  clear p0 p1 hB2 hen hBW1
  have hb4' := hb4.out.below hB1
  have hb8' := hb8.out.below hB1
  have hm1 := Lib.hid (hmW.out.below hB1)
  have hbB := Lib.hid (trans0 hal.out hB1)
  obtain ⟨p0, p1, -⟩ := hb4'.cells
  obtain ⟨z0, z1, z2, z3⟩ := hb8'.cells
  obtain ⟨y0, y1, -⟩ := (hb8'.put (.slice none 0 0) (.slice none 0 0)).cells
  have hbl := Lib.hid (below2 (i := 0) (j := 1) hbB.out (b := w.heap.size + 1) (Nat.le_succ _) (.slice none 0 0) (.slice none 0 0))
  clear hb4' hb8' hB1
  go_wp2
  refine bodyPost_ret (v := .tuple #[.agg #[.slice none 0 0, .slice none 0 0], .int .i64 (7 : Nat)]) ?_ rfl (tells_no hbl.out)
  clear z0 z1 z2 z3
  simp [results, Try.results34, go_sem, y0, y1]
set_option maxRecDepth 100000 in
set_option maxHeartbeats 2000000 in
theorem rsplit_14a (A1 : Option Addr) (c1 : Nat) (A2 : Option Addr) (c2 : Nat) (m : M) (k i : Int) (key : ByteArray) (w : World) (h : HM w A1 c1 A2 c2 m) (hz : chk m k = 0) (hi9 : -9223372036854775808 ≤ i ∧ i ≤ 9223372036854775807) (hi : there m i = true) (hp : pnt key (spnM.lo m i.toNat) (spnM.hi m i.toNat) = false) (hs : 16 < key.size) :
    Calls Try.prog 34 #[.agg #[.slice A1 m.cs.length c1, .slice A2 m.ns.length c2], .int .i64 k, .int .i64 i, .string key] w (Tells (splE m k i key) (splM m k i key) w) := by
  have e1 : splE m k i key = 14 := by unfold splE; rw [if_neg (by omega), if_neg (by rw [hi]; decide), if_pos hp]
  have e2 : splM m k i key = non := by unfold splM; rw [if_neg (by omega)]
  rw [e1, e2]
  obtain ⟨W, hW, hb4, hb8, hal⟩ := head_boxes w (.slice A1 m.cs.length c1) (.slice A2 m.ns.length c2)
  have hck := rcheck_any A1 c1 A2 c2 m k W (h.below hal)
  have hmW := Lib.hid (h.below hal)
  rw [hz] at hck
  obtain ⟨hnc, hn8⟩ : m.ns.length = m.cs.length + 1 ∧ m.ns.length ≤ 8 := ⟨((chk_iff m k).1 hz).nc, ((chk_iff m k).1 hz).n8⟩
  have hends := fun w' (hw : HM w' A1 c1 A2 c2 m) => ends_any A1 c1 A2 c2 m i w' hw hi9.1 hi9.2
  simp only [hi, Bool.false_eq_true, if_false, if_true] at hends
  replace hends := Lib.hid hends
  have hsi : (16 : Int) < (key.size : Int) := by omega
  replace hck := Lib.hid hck
  replace hb4 := Lib.hid hb4
  replace hb8 := Lib.hid hb8
  replace hal := Lib.hid hal
  replace hW := Lib.hid hW
  clear e1 e2 h
  replace hnc := Lib.hid hnc
  clear hp
  clear hi hi9
  generalize spnM.lo m i.toNat = l1 at *
  generalize spnM.hi m i.toNat = h1 at *
  go_enter Try.func34, Try.ntmps34
  go_wp2_with (fail)
  rw [hW.out]
  refine hck.out.mono ?_
  rintro e w1 ⟨rfl, hB1⟩
  have hBW1 := Lib.hid hB1
  obtain ⟨p0, p1, -⟩ := (hb4.out.below hB1).cells
  have hen := Lib.hid (hends.out w1 (hmW.out.below hB1))
  clear hB1 hck
  go_wp2_with (fail)
  refine hen.out.mono ?_
  rintro e w2 ⟨rfl, hB2⟩
  have hB1 := trans0 hBW1.out hB2
  clear p0 p1 hB2 hen hBW1
  have hb4' := hb4.out.below hB1
  have hb8' := hb8.out.below hB1
  have hm1 := Lib.hid (hmW.out.below hB1)
  have hbB := Lib.hid (trans0 hal.out hB1)
  obtain ⟨p0, p1, -⟩ := hb4'.cells
  obtain ⟨z0, z1, z2, z3⟩ := hb8'.cells
  obtain ⟨y0, y1, -⟩ := (hb8'.put (.slice none 0 0) (.slice none 0 0)).cells
  have hbl := Lib.hid (below2 (i := 0) (j := 1) hbB.out (b := w.heap.size + 1) (Nat.le_succ _) (.slice none 0 0) (.slice none 0 0))
  clear hb4' hb8' hB1
  go_wp2
  refine bodyPost_ret (v := .tuple #[.agg #[.slice none 0 0, .slice none 0 0], .int .i64 (14 : Nat)]) ?_ rfl (tells_no hbl.out)
  clear z0 z1 z2 z3
  simp [results, Try.results34, go_sem, y0, y1]
set_option maxRecDepth 100000 in
set_option maxHeartbeats 2000000 in
theorem rsplit_14b (A1 : Option Addr) (c1 : Nat) (A2 : Option Addr) (c2 : Nat) (m : M) (k i : Int) (key : ByteArray) (w : World) (h : HM w A1 c1 A2 c2 m) (hz : chk m k = 0) (hi9 : -9223372036854775808 ≤ i ∧ i ≤ 9223372036854775807) (hi : there m i = true) (hp : pnt key (spnM.lo m i.toNat) (spnM.hi m i.toNat) = false) (hs : ¬ 16 < key.size) (hw : wth key (spnM.lo m i.toNat) (spnM.hi m i.toNat) = false) :
    Calls Try.prog 34 #[.agg #[.slice A1 m.cs.length c1, .slice A2 m.ns.length c2], .int .i64 k, .int .i64 i, .string key] w (Tells (splE m k i key) (splM m k i key) w) := by
  have e1 : splE m k i key = 14 := by unfold splE; rw [if_neg (by omega), if_neg (by rw [hi]; decide), if_pos hp]
  have e2 : splM m k i key = non := by unfold splM; rw [if_neg (by omega)]
  rw [e1, e2]
  obtain ⟨W, hW, hb4, hb8, hal⟩ := head_boxes w (.slice A1 m.cs.length c1) (.slice A2 m.ns.length c2)
  have hck := rcheck_any A1 c1 A2 c2 m k W (h.below hal)
  have hmW := Lib.hid (h.below hal)
  rw [hz] at hck
  obtain ⟨hnc, hn8⟩ : m.ns.length = m.cs.length + 1 ∧ m.ns.length ≤ 8 := ⟨((chk_iff m k).1 hz).nc, ((chk_iff m k).1 hz).n8⟩
  have hends := fun w' (hw : HM w' A1 c1 A2 c2 m) => ends_any A1 c1 A2 c2 m i w' hw hi9.1 hi9.2
  simp only [hi, Bool.false_eq_true, if_false, if_true] at hends
  replace hends := Lib.hid hends
  have hsi : ¬ (16 : Int) < (key.size : Int) := by omega
  replace hck := Lib.hid hck
  replace hb4 := Lib.hid hb4
  replace hb8 := Lib.hid hb8
  replace hal := Lib.hid hal
  replace hW := Lib.hid hW
  clear e1 e2 h
  replace hnc := Lib.hid hnc
  clear hp
  have hwi := fun w => rwithin_any key (spnM.lo m i.toNat) (spnM.hi m i.toNat) w
  simp only [hw] at hwi
  replace hwi := Lib.hid hwi
  clear hw
  clear hi hi9
  generalize spnM.lo m i.toNat = l1 at *
  generalize spnM.hi m i.toNat = h1 at *
  go_enter Try.func34, Try.ntmps34
  go_wp2_with (fail)
  rw [hW.out]
  refine hck.out.mono ?_
  rintro e w1 ⟨rfl, hB1⟩
  have hBW1 := Lib.hid hB1
  obtain ⟨p0, p1, -⟩ := (hb4.out.below hB1).cells
  have hen := Lib.hid (hends.out w1 (hmW.out.below hB1))
  clear hB1 hck
  go_wp2_with (fail)
  refine hen.out.mono ?_
  rintro e w2 ⟨rfl, hB2⟩
  have hB1 := trans0 hBW1.out hB2
  clear p0 p1 hB2 hen hBW1
  have hb4' := hb4.out.below hB1
  have hb8' := hb8.out.below hB1
  have hm1 := Lib.hid (hmW.out.below hB1)
  have hbB := Lib.hid (trans0 hal.out hB1)
  obtain ⟨p0, p1, -⟩ := hb4'.cells
  obtain ⟨z0, z1, z2, z3⟩ := hb8'.cells
  obtain ⟨y0, y1, -⟩ := (hb8'.put (.slice none 0 0) (.slice none 0 0)).cells
  have hbl := Lib.hid (below2 (i := 0) (j := 1) hbB.out (b := w.heap.size + 1) (Nat.le_succ _) (.slice none 0 0) (.slice none 0 0))
  clear hb4' hb8' hB1
  go_wp2_with (fail)
  refine (hwi.out _).mono ?_
  rintro e w' ⟨rfl, rfl⟩
  go_wp2
  refine bodyPost_ret (v := .tuple #[.agg #[.slice none 0 0, .slice none 0 0], .int .i64 (14 : Nat)]) ?_ rfl (tells_no hbl.out)
  clear z0 z1 z2 z3
  simp [results, Try.results34, go_sem, y0, y1]
set_option maxRecDepth 100000 in
set_option maxHeartbeats 2000000 in
theorem rsplit_14c (A1 : Option Addr) (c1 : Nat) (A2 : Option Addr) (c2 : Nat) (m : M) (k i : Int) (key : ByteArray) (w : World) (h : HM w A1 c1 A2 c2 m) (hz : chk m k = 0) (hi9 : -9223372036854775808 ≤ i ∧ i ≤ 9223372036854775807) (hi : there m i = true) (hp : pnt key (spnM.lo m i.toNat) (spnM.hi m i.toNat) = false) (hs : ¬ 16 < key.size) (hw : wth key (spnM.lo m i.toNat) (spnM.hi m i.toNat) = true) (hq : seq key (spnM.lo m i.toNat) = true) :
    Calls Try.prog 34 #[.agg #[.slice A1 m.cs.length c1, .slice A2 m.ns.length c2], .int .i64 k, .int .i64 i, .string key] w (Tells (splE m k i key) (splM m k i key) w) := by
  have e1 : splE m k i key = 14 := by unfold splE; rw [if_neg (by omega), if_neg (by rw [hi]; decide), if_pos hp]
  have e2 : splM m k i key = non := by unfold splM; rw [if_neg (by omega)]
  rw [e1, e2]
  obtain ⟨W, hW, hb4, hb8, hal⟩ := head_boxes w (.slice A1 m.cs.length c1) (.slice A2 m.ns.length c2)
  have hck := rcheck_any A1 c1 A2 c2 m k W (h.below hal)
  have hmW := Lib.hid (h.below hal)
  rw [hz] at hck
  obtain ⟨hnc, hn8⟩ : m.ns.length = m.cs.length + 1 ∧ m.ns.length ≤ 8 := ⟨((chk_iff m k).1 hz).nc, ((chk_iff m k).1 hz).n8⟩
  have hends := fun w' (hw : HM w' A1 c1 A2 c2 m) => ends_any A1 c1 A2 c2 m i w' hw hi9.1 hi9.2
  simp only [hi, Bool.false_eq_true, if_false, if_true] at hends
  replace hends := Lib.hid hends
  have hsi : ¬ (16 : Int) < (key.size : Int) := by omega
  replace hck := Lib.hid hck
  replace hb4 := Lib.hid hb4
  replace hb8 := Lib.hid hb8
  replace hal := Lib.hid hal
  replace hW := Lib.hid hW
  clear e1 e2 h
  replace hnc := Lib.hid hnc
  clear hp
  have hwi := fun w => rwithin_any key (spnM.lo m i.toNat) (spnM.hi m i.toNat) w
  simp only [hw] at hwi
  replace hwi := Lib.hid hwi
  clear hw
  clear hi hi9
  generalize spnM.lo m i.toNat = l1 at *
  generalize spnM.hi m i.toNat = h1 at *
  go_enter Try.func34, Try.ntmps34
  go_wp2_with (fail)
  rw [hW.out]
  refine hck.out.mono ?_
  rintro e w1 ⟨rfl, hB1⟩
  have hBW1 := Lib.hid hB1
  obtain ⟨p0, p1, -⟩ := (hb4.out.below hB1).cells
  have hen := Lib.hid (hends.out w1 (hmW.out.below hB1))
  clear hB1 hck
  go_wp2_with (fail)
  refine hen.out.mono ?_
  rintro e w2 ⟨rfl, hB2⟩
  have hB1 := trans0 hBW1.out hB2
  clear p0 p1 hB2 hen hBW1
  have hb4' := hb4.out.below hB1
  have hb8' := hb8.out.below hB1
  have hm1 := Lib.hid (hmW.out.below hB1)
  have hbB := Lib.hid (trans0 hal.out hB1)
  obtain ⟨p0, p1, -⟩ := hb4'.cells
  obtain ⟨z0, z1, z2, z3⟩ := hb8'.cells
  obtain ⟨y0, y1, -⟩ := (hb8'.put (.slice none 0 0) (.slice none 0 0)).cells
  have hbl := Lib.hid (below2 (i := 0) (j := 1) hbB.out (b := w.heap.size + 1) (Nat.le_succ _) (.slice none 0 0) (.slice none 0 0))
  clear hb4' hb8' hB1
  go_wp2_with (fail)
  refine (hwi.out _).mono ?_
  rintro e w' ⟨rfl, rfl⟩
  go_wp2
  refine bodyPost_ret (v := .tuple #[.agg #[.slice none 0 0, .slice none 0 0], .int .i64 (14 : Nat)]) ?_ rfl (tells_no hbl.out)
  clear z0 z1 z2 z3
  simp [results, Try.results34, go_sem, y0, y1]
set_option maxRecDepth 100000 in
set_option maxHeartbeats 2000000 in
theorem rsplit_9 (A1 : Option Addr) (c1 : Nat) (A2 : Option Addr) (c2 : Nat) (m : M) (k i : Int) (key : ByteArray) (w : World) (h : HM w A1 c1 A2 c2 m) (hz : chk m k = 0) (hi9 : -9223372036854775808 ≤ i ∧ i ≤ 9223372036854775807) (hi : there m i = true) (hp : pnt key (spnM.lo m i.toNat) (spnM.hi m i.toNat) = true) (hs : ¬ 16 < key.size) (hw : wth key (spnM.lo m i.toNat) (spnM.hi m i.toNat) = true) (hq : seq key (spnM.lo m i.toNat) = false) (h8 : 8 ≤ m.ns.length) :
    Calls Try.prog 34 #[.agg #[.slice A1 m.cs.length c1, .slice A2 m.ns.length c2], .int .i64 k, .int .i64 i, .string key] w (Tells (splE m k i key) (splM m k i key) w) := by
  have e1 : splE m k i key = 9 := by unfold splE; rw [if_neg (by omega), if_neg (by rw [hi]; decide), if_neg (by rw [hp]; decide), if_pos h8]
  have e2 : splM m k i key = non := by unfold splM; rw [if_neg (by omega)]
  rw [e1, e2]
  obtain ⟨W, hW, hb4, hb8, hal⟩ := head_boxes w (.slice A1 m.cs.length c1) (.slice A2 m.ns.length c2)
  have hck := rcheck_any A1 c1 A2 c2 m k W (h.below hal)
  have hmW := Lib.hid (h.below hal)
  rw [hz] at hck
  obtain ⟨hnc, hn8⟩ : m.ns.length = m.cs.length + 1 ∧ m.ns.length ≤ 8 := ⟨((chk_iff m k).1 hz).nc, ((chk_iff m k).1 hz).n8⟩
  have hends := fun w' (hw : HM w' A1 c1 A2 c2 m) => ends_any A1 c1 A2 c2 m i w' hw hi9.1 hi9.2
  simp only [hi, Bool.false_eq_true, if_false, if_true] at hends
  replace hends := Lib.hid hends
  have hsi : ¬ (16 : Int) < (key.size : Int) := by omega
  have h8i : (8 : Int) ≤ (m.ns.length : Int) := by omega
  replace hck := Lib.hid hck
  replace hb4 := Lib.hid hb4
  replace hb8 := Lib.hid hb8
  replace hal := Lib.hid hal
  replace hW := Lib.hid hW
  clear e1 e2 h
  replace hnc := Lib.hid hnc
  clear hp
  have hwi := fun w => rwithin_any key (spnM.lo m i.toNat) (spnM.hi m i.toNat) w
  simp only [hw] at hwi
  replace hwi := Lib.hid hwi
  clear hw
  clear hi hi9
  generalize spnM.lo m i.toNat = l1 at *
  generalize spnM.hi m i.toNat = h1 at *
  go_enter Try.func34, Try.ntmps34
  go_wp2_with (fail)
  rw [hW.out]
  refine hck.out.mono ?_
  rintro e w1 ⟨rfl, hB1⟩
  have hBW1 := Lib.hid hB1
  obtain ⟨p0, p1, -⟩ := (hb4.out.below hB1).cells
  have hen := Lib.hid (hends.out w1 (hmW.out.below hB1))
  clear hB1 hck
  go_wp2_with (fail)
  refine hen.out.mono ?_
  rintro e w2 ⟨rfl, hB2⟩
  have hB1 := trans0 hBW1.out hB2
  clear p0 p1 hB2 hen hBW1
  have hb4' := hb4.out.below hB1
  have hb8' := hb8.out.below hB1
  have hm1 := Lib.hid (hmW.out.below hB1)
  have hbB := Lib.hid (trans0 hal.out hB1)
  obtain ⟨p0, p1, -⟩ := hb4'.cells
  obtain ⟨z0, z1, z2, z3⟩ := hb8'.cells
  obtain ⟨y0, y1, -⟩ := (hb8'.put (.slice none 0 0) (.slice none 0 0)).cells
  have hbl := Lib.hid (below2 (i := 0) (j := 1) hbB.out (b := w.heap.size + 1) (Nat.le_succ _) (.slice none 0 0) (.slice none 0 0))
  clear hb4' hb8' hB1
  go_wp2_with (fail)
  refine (hwi.out _).mono ?_
  rintro e w' ⟨rfl, rfl⟩
  go_wp2
  refine bodyPost_ret (v := .tuple #[.agg #[.slice none 0 0, .slice none 0 0], .int .i64 (9 : Nat)]) ?_ rfl (tells_no hbl.out)
  clear z0 z1 z2 z3
  simp [results, Try.results34, go_sem, y0, y1]
set_option maxRecDepth 100000 in
set_option maxHeartbeats 2000000 in
theorem rsplit_0 (A1 : Option Addr) (c1 : Nat) (A2 : Option Addr) (c2 : Nat) (m : M) (k i : Int) (key : ByteArray) (w : World) (h : HM w A1 c1 A2 c2 m) (hz : chk m k = 0) (hi9 : -9223372036854775808 ≤ i ∧ i ≤ 9223372036854775807) (hi : there m i = true) (hp : pnt key (spnM.lo m i.toNat) (spnM.hi m i.toNat) = true) (hs : ¬ 16 < key.size) (hw : wth key (spnM.lo m i.toNat) (spnM.hi m i.toNat) = true) (hq : seq key (spnM.lo m i.toNat) = false) (h8 : ¬ 8 ≤ m.ns.length) :
    Calls Try.prog 34 #[.agg #[.slice A1 m.cs.length c1, .slice A2 m.ns.length c2], .int .i64 k, .int .i64 i, .string key] w (Tells (splE m k i key) (splM m k i key) w) := by
  have e1 : splE m k i key = 0 := by unfold splE; rw [if_neg (by omega), if_neg (by rw [hi]; decide), if_neg (by rw [hp]; decide), if_neg h8]
  have e2 : splM m k i key = ⟨insA m.cs i.toNat key, insA m.ns i.toNat (nt m.ns i.toNat)⟩ := by unfold splM; rw [if_pos e1]; rfl
  rw [e1, e2]
  obtain ⟨W, hW, hb4, hb8, hal⟩ := head_boxes w (.slice A1 m.cs.length c1) (.slice A2 m.ns.length c2)
  have hck := rcheck_any A1 c1 A2 c2 m k W (h.below hal)
  have hmW := Lib.hid (h.below hal)
  have hm0 := Lib.hid h
  rw [hz] at hck
  obtain ⟨hnc, hn8⟩ : m.ns.length = m.cs.length + 1 ∧ m.ns.length ≤ 8 := ⟨((chk_iff m k).1 hz).nc, ((chk_iff m k).1 hz).n8⟩
  have hij := (there_iff m i).1 hi
  obtain ⟨j, rfl⟩ : ∃ j : Nat, i = j := ⟨i.toNat, by omega⟩
  rw [show ((j : Int)).toNat = j from rfl] at *
  have hjn : Hid (j < m.ns.length) := Lib.hid (by omega)
  have hends := fun w' (hw : HM w' A1 c1 A2 c2 m) => ends_any A1 c1 A2 c2 m (j : Int) w' hw hi9.1 hi9.2
  simp only [hi, Bool.false_eq_true, if_false, if_true, Int.toNat_natCast] at hends
  replace hends := Lib.hid hends
  have hsi : ¬ (16 : Int) < (key.size : Int) := by omega
  have h8i : ¬ (8 : Int) ≤ (m.ns.length : Int) := by omega
  replace hck := Lib.hid hck
  replace hb4 := Lib.hid hb4
  replace hb8 := Lib.hid hb8
  replace hal := Lib.hid hal
  replace hW := Lib.hid hW
  clear e1 e2 h
  replace hnc := Lib.hid hnc
  clear hp
  have hwi := fun w => rwithin_any key (spnM.lo m j) (spnM.hi m j) w
  simp only [hw] at hwi
  replace hwi := Lib.hid hwi
  clear hw
  clear hi hi9 hij
  generalize spnM.lo m j = l1 at *
  generalize spnM.hi m j = h1 at *
  go_enter Try.func34, Try.ntmps34
  go_wp2_with (fail)
  rw [hW.out]
  refine hck.out.mono ?_
  rintro e w1 ⟨rfl, hB1⟩
  have hBW1 := Lib.hid hB1
  obtain ⟨p0, p1, -⟩ := (hb4.out.below hB1).cells
  have hen := Lib.hid (hends.out w1 (hmW.out.below hB1))
  clear hB1 hck
  go_wp2_with (fail)
  refine hen.out.mono ?_
  rintro e w2 ⟨rfl, hB2⟩
  have hB1 := trans0 hBW1.out hB2
  clear p0 p1 hB2 hen hBW1
  have hb4' := hb4.out.below hB1
  have hb8' := hb8.out.below hB1
  have hm1 := Lib.hid (hmW.out.below hB1)
  have hbB := Lib.hid (trans0 hal.out hB1)
  obtain ⟨p0, p1, -⟩ := hb4'.cells
  go_wp2_with (fail)
  refine (hwi.out _).mono ?_
  rintro e w' ⟨rfl, rfl⟩
  have hOS := OS.new (w := w) (t := 26) hb4' hb8' hbB.out (Nat.le_refl _) (Nat.le_succ _)
  obtain ⟨Y, hY⟩ : ∃ Y, w2.alloc (.cells #[.slice none 0 0, .slice none 0 0] 26) = Y := ⟨_, rfl⟩
  rw [hY] at hOS
  replace hOS := Lib.hid hOS
  replace hY := Lib.hid hY
  clear hb4' hb8' hbB hb4 hb8 hal hW hm1 hmW hB1 hends hwi
  go_wp2
  rw [hY.out]
  clear hY p0 p1 hsi h8i hq
  generalize w2.heap.size = bb at *
  go_loopw [15] (fun t wr => ∃ q : Nat, q ≤ m.ns.length ∧ t = .int .i64 q ∧ Hid (OS w w.heap.size (w.heap.size + 1) bb (bb + 1) (.slice A1 m.cs.length c1) (.slice A2 m.ns.length c2) (spA m.cs j q key) (spA m.ns j q (nt m.ns j)) wr)) (fun t _ => m.ns.length - (intOf t).toNat)
  case atStart => exact ⟨0, Nat.zero_le _, rfl, by simpa [spA] using hOS⟩
  case round =>
    clear hOS
    obtain ⟨q, hq, rfl, hO⟩ := hrel
    by_cases hqn : q < m.ns.length
    · have hqi : (q : Int) < (m.ns.length : Int) := by omega
      have hq0 : (0 : Int) ≤ (q : Int) := by omega
      obtain ⟨m0, m1, -⟩ := hO.out.m4.cells
      go_upto_region 15 with fail
      go_cut [] from 62 to 71 (fun wx => Hid (OS w w.heap.size (w.heap.size + 1) bb (bb + 1) (.slice A1 m.cs.length c1) (.slice A2 m.ns.length c2) ((spA m.cs j q key)) ((spA m.ns j q (nt m.ns j)) ++ [nt m.ns q]) wx))
      case first =>
        clear m0 m1
        obtain ⟨D1, d1, D2, d2, hb, hG⟩ := hO.out.ob
        obtain ⟨m0, m1, -⟩ := hO.out.m4.cells
        obtain ⟨z0, z1, z2, z3⟩ := hb.cells
        have hlx := sp_le m.cs j q key
        have hly := sp_le m.ns j q (nt m.ns j)
        have hmr := hm0.out.step hO.out.bel (Nat.le_refl _)
        obtain ⟨b, off, eA, hbb, hc⟩ := hmr.ns.at (i := q) (by omega)
        have kc := hc q (by omega)
        rw [eA] at m1
        clear eA hc hbb hmr
        have hq8 := hn8
        generalize (spA m.ns j q (nt m.ns j)) = ys at *
        generalize (spA m.cs j q key) = xs at *
        generalize nt m.ns q = x at *
        have hoX := Lib.hid (own_below hG.ns ((below_drew wr).alloc (Nat.le_refl _) (.cells #[.int .i64 x] 3)))
        have hadd := Lib.hid (fun A9 c9 w9 ho hg => OS.addI (A9 := A9) (c9 := c9) (w9 := w9) (x := x) hO.out hb hG ((below_drew wr).alloc (Nat.le_refl _) (.cells #[.int .i64 x] 3)) ho hg)
        have hbs := Lib.hid (show (bb + 1) ≤ (wr.drew.alloc (.cells #[.int .i64 x] 3)).heap.size from Nat.le_trans hO.out.lt.2.2.2.1 ((below_drew wr).alloc (Nat.le_refl _) _).size)
        have z5 := keep_cell (al0 wr (.cells #[.int .i64 x] 3)) z0
        have z6 := keep_cell (al0 wr (.cells #[.int .i64 x] 3)) z1
        have hbX := Lib.hid (show ys.length + 1 ≤ maxLen ∧ (ys.length + 1) * 8 ≤ 140737488355328 by unfold maxLen; omega)
        clear hb hG hO hlx hly
        obtain ⟨iI, hiI, hzI0, hzI1, hzI2⟩ := info_parts infoI
        go_region_law (refine step_gen rfl (.tmp 63) (.tmp 69) 24 rfl (bb + 1) 3 iI _ 1 8 Try.underlying24 hiI hzI0 hzI1 hzI2 rfl (by decide) (.slice D2 ys.length d2) ys.length _ (by rfl) hoX.out (some ⟨_, 0, none⟩) 1 1 [_] (by rfl) rfl (stand_new _ _ _ _) (by intro u hu; rw [List.mem_singleton.1 hu]; rfl) hbX.out.1 hbX.out.2 hbs.out ?_; intro A9 c9 w9 ho9 hg9 hat9; obtain ⟨hb9, hfin⟩ := hadd.out A9 c9 w9 ho9 hg9; obtain ⟨s0, s1, s2, s3⟩ := hb9.cells; replace hfin := Lib.hid hfin; clear ho9 hg9 hat9 hb9)
        all_goals
          go_wp2
          go_meet
          exact hfin
      case rest =>
      have hO2 := hcut
      clear hcut hO m0 m1
      obtain ⟨m0, m1, -⟩ := hO2.out.m4.cells
      by_cases hqj : q = j
      · have hqe : ((q : Int) == (j : Int)) = true := by rw [beq_iff_eq]; omega
        have hdy : Hid (spA m.ns j (q + 1) (nt m.ns j) = (((spA m.ns j q (nt m.ns j)) ++ [nt m.ns q]) ++ [nt m.ns q])) := Lib.hid (by rw [hqj]; exact sp_at m.ns j _ (by omega))
        have hdxa : Hid (q < m.cs.length → spA m.cs j (q + 1) key = ((spA m.cs j q key) ++ [key]) ++ [nt m.cs q]) := Lib.hid (fun h => by rw [hqj]; exact sp_at m.cs j key (by omega))
        have hdxb : Hid (¬ q < m.cs.length → spA m.cs j (q + 1) key = ((spA m.cs j q key) ++ [key])) := Lib.hid (fun h => by rw [hqj]; exact sp_end m.cs j key (by have := hnc.out; omega))
        clear hqj
        go_upto_region 17 with fail
        go_cut [] from 75 to 84 (fun wx => Hid (OS w w.heap.size (w.heap.size + 1) bb (bb + 1) (.slice A1 m.cs.length c1) (.slice A2 m.ns.length c2) ((spA m.cs j q key)) (((spA m.ns j q (nt m.ns j)) ++ [nt m.ns q]) ++ [nt m.ns q]) wx))
        case first =>
          clear m0 m1
          obtain ⟨D1, d1, D2, d2, hb, hG⟩ := hO2.out.ob
          obtain ⟨m0, m1, -⟩ := hO2.out.m4.cells
          obtain ⟨z0, z1, z2, z3⟩ := hb.cells
          have hlx := sp_le m.cs j q key
          have hly := (show ((spA m.ns j q (nt m.ns j)) ++ [nt m.ns q]).length ≤ q + 2 by have := sp_le m.ns j q (nt m.ns j); simp; omega)
          have hmr := hm0.out.step hO2.out.bel (Nat.le_refl _)
          obtain ⟨b, off, eA, hbb, hc⟩ := hmr.ns.at (i := q) (by omega)
          have kc := hc q (by omega)
          rw [eA] at m1
          clear eA hc hbb hmr
          have hq8 := hn8
          generalize ((spA m.ns j q (nt m.ns j)) ++ [nt m.ns q]) = ys at *
          generalize (spA m.cs j q key) = xs at *
          generalize nt m.ns q = x at *
          have hoX := Lib.hid (own_below hG.ns ((below_drew wc).alloc (Nat.le_refl _) (.cells #[.int .i64 x] 3)))
          have hadd := Lib.hid (fun A9 c9 w9 ho hg => OS.addI (A9 := A9) (c9 := c9) (w9 := w9) (x := x) hO2.out hb hG ((below_drew wc).alloc (Nat.le_refl _) (.cells #[.int .i64 x] 3)) ho hg)
          have hbs := Lib.hid (show (bb + 1) ≤ (wc.drew.alloc (.cells #[.int .i64 x] 3)).heap.size from Nat.le_trans hO2.out.lt.2.2.2.1 ((below_drew wc).alloc (Nat.le_refl _) _).size)
          have z5 := keep_cell (al0 wc (.cells #[.int .i64 x] 3)) z0
          have z6 := keep_cell (al0 wc (.cells #[.int .i64 x] 3)) z1
          have hbX := Lib.hid (show ys.length + 1 ≤ maxLen ∧ (ys.length + 1) * 8 ≤ 140737488355328 by unfold maxLen; omega)
          clear hb hG hO2 hlx hly
          obtain ⟨iI, hiI, hzI0, hzI1, hzI2⟩ := info_parts infoI
          go_region_law (refine step_gen rfl (.tmp 76) (.tmp 82) 24 rfl (bb + 1) 3 iI _ 1 8 Try.underlying24 hiI hzI0 hzI1 hzI2 rfl (by decide) (.slice D2 ys.length d2) ys.length _ (by rfl) hoX.out (some ⟨_, 0, none⟩) 1 1 [_] (by rfl) rfl (stand_new _ _ _ _) (by intro u hu; rw [List.mem_singleton.1 hu]; rfl) hbX.out.1 hbX.out.2 hbs.out ?_; intro A9 c9 w9 ho9 hg9 hat9; obtain ⟨hb9, hfin⟩ := hadd.out A9 c9 w9 ho9 hg9; obtain ⟨s0, s1, s2, s3⟩ := hb9.cells; replace hfin := Lib.hid hfin; clear ho9 hg9 hat9 hb9)
          all_goals
            go_wp2
            go_meet
            exact hfin
        case rest =>
        have hO3 := hcut
        clear hcut hO2 m0 m1
        obtain ⟨m0, m1, -⟩ := hO3.out.m4.cells
        by_cases hqc : q < m.cs.length
        · have hqci : (q : Int) < (m.cs.length : Int) := by omega
          have hdx := Lib.hid (hdxa.out hqc)
          clear m0 m1
          obtain ⟨D1, d1, D2, d2, hb, hG⟩ := hO3.out.ob
          obtain ⟨m0, m1, -⟩ := hO3.out.m4.cells
          obtain ⟨z0, z1, z2, z3⟩ := hb.cells
          have hlx := sp_le m.cs j q key
          obtain ⟨xs, hxs⟩ : ∃ xs, (spA m.cs j q key) = xs := ⟨_, rfl⟩
          rw [hxs] at hO3 hb hG hlx
          replace hxs := Lib.hid hxs
          obtain ⟨ys, hys⟩ : ∃ ys, (((spA m.ns j q (nt m.ns j)) ++ [nt m.ns q]) ++ [nt m.ns q]) = ys := ⟨_, rfl⟩
          rw [hys] at hO3 hb hG
          replace hys := Lib.hid hys
          rw [hxs.out] at z0
          rw [hys.out] at z1
          have hoX := Lib.hid (own_below hG.cs ((Below.refl _ wc).alloc (Nat.le_refl _) (.cells #[.string key] 9)))
          have hadd := Lib.hid (fun A9 c9 w9 ho hg => OS.addS (A9 := A9) (c9 := c9) (w9 := w9) (x := key) hO3.out hb hG ((Below.refl _ wc).alloc (Nat.le_refl _) (.cells #[.string key] 9)) ho hg)
          have hbs := Lib.hid (show (bb + 1) ≤ (wc.alloc (.cells #[.string key] 9)).heap.size from Nat.le_trans hO3.out.lt.2.2.2.1 ((Below.refl _ wc).alloc (Nat.le_refl _) _).size)
          have hbX := Lib.hid (show xs.length + 1 ≤ maxLen ∧ (xs.length + 1) * 16 ≤ 140737488355328 by unfold maxLen; omega)
          have hstn := Lib.hid (stand_new wc [.string key] 9 1)
          obtain ⟨iS, hiS, hzS0, hzS1, hzS2⟩ := info_parts infoS
          clear hb hG hO3 hlx
          go_wp2_with (at_builtin; refine wpList_gen rfl (.tmp 86) (.tmp 88) 23 rfl (bb + 1) 9 iS _ 1 16 Try.underlying23 hiS hzS0 hzS1 hzS2 rfl (by decide) (.slice D1 xs.length d1) xs.length _ (by rfl) hoX.out (some ⟨wc.heap.size, 0, none⟩) 1 1 [.string key] (by rfl) rfl hstn.out (by intro u hu; rw [List.mem_singleton.1 hu]; rfl) hbX.out.1 hbX.out.2 hbs.out ?_; intro A9 c9 w9 ho9 hg9 hat9; obtain ⟨hb9, hfin⟩ := hadd.out A9 c9 w9 ho9 hg9; obtain ⟨s0, s1, s2, s3⟩ := hb9.cells; obtain ⟨n0, n1, -⟩ := hfin.m4.cells; replace hfin := Lib.hid hfin; clear ho9 hg9 hat9 hb9 m0 m1 z0 z1 z2 z3)
          obtain ⟨wd, hwd⟩ : ∃ wd, w9.setCell ⟨bb, 0, none⟩ (.slice A9 (xs.length + 1) c9) = wd := ⟨_, rfl⟩
          rw [hwd] at hfin ⊢
          rw [← hxs.out, ← hys.out] at hfin
          have hO4 := hfin
          clear hfin hadd hoX hwd n0 n1 s0 s1 s2 s3
          obtain ⟨m0, m1, -⟩ := hO4.out.m4.cells
          go_upto_region 20 with fail
          have hH := hO4
          clear m0 m1
          obtain ⟨D1, d1, D2, d2, hb, hG⟩ := hO4.out.ob
          obtain ⟨m0, m1, -⟩ := hO4.out.m4.cells
          obtain ⟨z0, z1, z2, z3⟩ := hb.cells
          have hlx := (show ((spA m.cs j q key) ++ [key]).length ≤ q + 2 by have := sp_le m.cs j q key; simp; omega)
          have hly := Lib.hid trivial
          have hmr := hm0.out.step hO4.out.bel (Nat.le_refl _)
          obtain ⟨b, off, eA, hbb, hc⟩ := hmr.cs.at (i := q) (by omega)
          have kc := hc q (by omega)
          rw [eA] at m0
          clear eA hc hbb hmr
          have hq8 := hn8
          generalize (((spA m.ns j q (nt m.ns j)) ++ [nt m.ns q]) ++ [nt m.ns q]) = ys at *
          generalize ((spA m.cs j q key) ++ [key]) = xs at *
          generalize nt m.cs q = x at *
          have hoX := Lib.hid (own_below hG.cs ((below_drew wd).alloc (Nat.le_refl _) (.cells #[.string x] 9)))
          have hadd := Lib.hid (fun A9 c9 w9 ho hg => OS.addS (A9 := A9) (c9 := c9) (w9 := w9) (x := x) hO4.out hb hG ((below_drew wd).alloc (Nat.le_refl _) (.cells #[.string x] 9)) ho hg)
          have hbs := Lib.hid (show (bb + 1) ≤ (wd.drew.alloc (.cells #[.string x] 9)).heap.size from Nat.le_trans hO4.out.lt.2.2.2.1 ((below_drew wd).alloc (Nat.le_refl _) _).size)
          have z5 := keep_cell (al0 wd (.cells #[.string x] 9)) z0
          have z6 := keep_cell (al0 wd (.cells #[.string x] 9)) z1
          have hbX := Lib.hid (show xs.length + 1 ≤ maxLen ∧ (xs.length + 1) * 16 ≤ 140737488355328 by unfold maxLen; omega)
          clear hb hG hO4 hlx hly
          obtain ⟨iS, hiS, hzS0, hzS1, hzS2⟩ := info_parts infoS
          go_region_law (refine step_gen rfl (.tmp 97) (.tmp 103) 23 rfl (bb + 1) 9 iS _ 1 16 Try.underlying23 hiS hzS0 hzS1 hzS2 rfl (by decide) (.slice D1 xs.length d1) xs.length _ (by rfl) hoX.out (some ⟨_, 0, none⟩) 1 1 [_] (by rfl) rfl (stand_new _ _ _ _) (by intro u hu; rw [List.mem_singleton.1 hu]; rfl) hbX.out.1 hbX.out.2 hbs.out ?_; intro A9 c9 w9 ho9 hg9 hat9; obtain ⟨hb9, hfin⟩ := hadd.out A9 c9 w9 ho9 hg9; obtain ⟨s0, s1, s2, s3⟩ := hb9.cells; replace hfin := Lib.hid hfin; clear ho9 hg9 hat9 hb9)
          all_goals
            have hO' : Hid (OS w w.heap.size (w.heap.size + 1) bb (bb + 1) (.slice A1 m.cs.length c1) (.slice A2 m.ns.length c2) (spA m.cs j (q + 1) key) (spA m.ns j (q + 1) (nt m.ns j)) _) := Lib.hid (by rw [hdx.out, hdy.out]; exact hfin.out)
            clear hfin hadd hoX
            go_wp2
            go_roundw
            case rel => exact ⟨q + 1, by omega, by go_num, hO'⟩
            case measure => simp [intOf]; omega
        · have hqci : ¬ (q : Int) < (m.cs.length : Int) := by omega
          have hdx := Lib.hid (hdxb.out hqc)
          clear m0 m1
          obtain ⟨D1, d1, D2, d2, hb, hG⟩ := hO3.out.ob
          obtain ⟨m0, m1, -⟩ := hO3.out.m4.cells
          obtain ⟨z0, z1, z2, z3⟩ := hb.cells
          have hlx := sp_le m.cs j q key
          obtain ⟨xs, hxs⟩ : ∃ xs, (spA m.cs j q key) = xs := ⟨_, rfl⟩
          rw [hxs] at hO3 hb hG hlx
          replace hxs := Lib.hid hxs
          obtain ⟨ys, hys⟩ : ∃ ys, (((spA m.ns j q (nt m.ns j)) ++ [nt m.ns q]) ++ [nt m.ns q]) = ys := ⟨_, rfl⟩
          rw [hys] at hO3 hb hG
          replace hys := Lib.hid hys
          rw [hxs.out] at z0
          rw [hys.out] at z1
          have hoX := Lib.hid (own_below hG.cs ((Below.refl _ wc).alloc (Nat.le_refl _) (.cells #[.string key] 9)))
          have hadd := Lib.hid (fun A9 c9 w9 ho hg => OS.addS (A9 := A9) (c9 := c9) (w9 := w9) (x := key) hO3.out hb hG ((Below.refl _ wc).alloc (Nat.le_refl _) (.cells #[.string key] 9)) ho hg)
          have hbs := Lib.hid (show (bb + 1) ≤ (wc.alloc (.cells #[.string key] 9)).heap.size from Nat.le_trans hO3.out.lt.2.2.2.1 ((Below.refl _ wc).alloc (Nat.le_refl _) _).size)
          have hbX := Lib.hid (show xs.length + 1 ≤ maxLen ∧ (xs.length + 1) * 16 ≤ 140737488355328 by unfold maxLen; omega)
          have hstn := Lib.hid (stand_new wc [.string key] 9 1)
          obtain ⟨iS, hiS, hzS0, hzS1, hzS2⟩ := info_parts infoS
          clear hb hG hO3 hlx
          go_wp2_with (at_builtin; refine wpList_gen rfl (.tmp 86) (.tmp 88) 23 rfl (bb + 1) 9 iS _ 1 16 Try.underlying23 hiS hzS0 hzS1 hzS2 rfl (by decide) (.slice D1 xs.length d1) xs.length _ (by rfl) hoX.out (some ⟨wc.heap.size, 0, none⟩) 1 1 [.string key] (by rfl) rfl hstn.out (by intro u hu; rw [List.mem_singleton.1 hu]; rfl) hbX.out.1 hbX.out.2 hbs.out ?_; intro A9 c9 w9 ho9 hg9 hat9; obtain ⟨hb9, hfin⟩ := hadd.out A9 c9 w9 ho9 hg9; obtain ⟨s0, s1, s2, s3⟩ := hb9.cells; obtain ⟨n0, n1, -⟩ := hfin.m4.cells; replace hfin := Lib.hid hfin; clear ho9 hg9 hat9 hb9 m0 m1 z0 z1 z2 z3)
          have hO' : Hid (OS w w.heap.size (w.heap.size + 1) bb (bb + 1) (.slice A1 m.cs.length c1) (.slice A2 m.ns.length c2) (spA m.cs j (q + 1) key) (spA m.ns j (q + 1) (nt m.ns j)) _) := Lib.hid (by rw [hdx.out, hdy.out, hxs.out, hys.out]; exact hfin.out)
          clear hfin hadd hoX
          go_wp2
          go_roundw
          case rel => exact ⟨q + 1, by omega, by go_num, hO'⟩
          case measure => simp [intOf]; omega
      · have hqe : ((q : Int) == (j : Int)) = false := by rw [beq_eq_false_iff_ne]; omega
        have hdy : Hid (spA m.ns j (q + 1) (nt m.ns j) = ((spA m.ns j q (nt m.ns j)) ++ [nt m.ns q])) := Lib.hid (by rcases Nat.lt_or_gt_of_ne hqj with h | h; exact sp_low m.ns j q _ hqn h; exact sp_high m.ns j q _ hqn h)
        have hdxa : Hid (q < m.cs.length → spA m.cs j (q + 1) key = (spA m.cs j q key) ++ [nt m.cs q]) := Lib.hid (fun hc => by rcases Nat.lt_or_gt_of_ne hqj with h | h; exact sp_low m.cs j q _ hc h; exact sp_high m.cs j q _ hc h)
        have hdxb : Hid (¬ q < m.cs.length → spA m.cs j (q + 1) key = (spA m.cs j q key)) := Lib.hid (fun hc => sp_more m.cs j q key (by omega) (by have := hnc.out; have := hjn.out; omega))
        clear hqj
        by_cases hqc : q < m.cs.length
        · have hqci : (q : Int) < (m.cs.length : Int) := by omega
          have hdx := Lib.hid (hdxa.out hqc)
          go_upto_region 20 with fail
          have hH := hO2
          clear m0 m1
          obtain ⟨D1, d1, D2, d2, hb, hG⟩ := hO2.out.ob
          obtain ⟨m0, m1, -⟩ := hO2.out.m4.cells
          obtain ⟨z0, z1, z2, z3⟩ := hb.cells
          have hlx := sp_le m.cs j q key
          have hly := (show ((spA m.ns j q (nt m.ns j)) ++ [nt m.ns q]).length ≤ q + 2 by have := sp_le m.ns j q (nt m.ns j); simp; omega)
          have hmr := hm0.out.step hO2.out.bel (Nat.le_refl _)
          obtain ⟨b, off, eA, hbb, hc⟩ := hmr.cs.at (i := q) (by omega)
          have kc := hc q (by omega)
          rw [eA] at m0
          clear eA hc hbb hmr
          have hq8 := hn8
          generalize ((spA m.ns j q (nt m.ns j)) ++ [nt m.ns q]) = ys at *
          generalize (spA m.cs j q key) = xs at *
          generalize nt m.cs q = x at *
          have hoX := Lib.hid (own_below hG.cs ((below_drew wc).alloc (Nat.le_refl _) (.cells #[.string x] 9)))
          have hadd := Lib.hid (fun A9 c9 w9 ho hg => OS.addS (A9 := A9) (c9 := c9) (w9 := w9) (x := x) hO2.out hb hG ((below_drew wc).alloc (Nat.le_refl _) (.cells #[.string x] 9)) ho hg)
          have hbs := Lib.hid (show (bb + 1) ≤ (wc.drew.alloc (.cells #[.string x] 9)).heap.size from Nat.le_trans hO2.out.lt.2.2.2.1 ((below_drew wc).alloc (Nat.le_refl _) _).size)
          have z5 := keep_cell (al0 wc (.cells #[.string x] 9)) z0
          have z6 := keep_cell (al0 wc (.cells #[.string x] 9)) z1
          have hbX := Lib.hid (show xs.length + 1 ≤ maxLen ∧ (xs.length + 1) * 16 ≤ 140737488355328 by unfold maxLen; omega)
          clear hb hG hO2 hlx hly
          obtain ⟨iS, hiS, hzS0, hzS1, hzS2⟩ := info_parts infoS
          go_region_law (refine step_gen rfl (.tmp 97) (.tmp 103) 23 rfl (bb + 1) 9 iS _ 1 16 Try.underlying23 hiS hzS0 hzS1 hzS2 rfl (by decide) (.slice D1 xs.length d1) xs.length _ (by rfl) hoX.out (some ⟨_, 0, none⟩) 1 1 [_] (by rfl) rfl (stand_new _ _ _ _) (by intro u hu; rw [List.mem_singleton.1 hu]; rfl) hbX.out.1 hbX.out.2 hbs.out ?_; intro A9 c9 w9 ho9 hg9 hat9; obtain ⟨hb9, hfin⟩ := hadd.out A9 c9 w9 ho9 hg9; obtain ⟨s0, s1, s2, s3⟩ := hb9.cells; replace hfin := Lib.hid hfin; clear ho9 hg9 hat9 hb9)
          all_goals
            have hO' : Hid (OS w w.heap.size (w.heap.size + 1) bb (bb + 1) (.slice A1 m.cs.length c1) (.slice A2 m.ns.length c2) (spA m.cs j (q + 1) key) (spA m.ns j (q + 1) (nt m.ns j)) _) := Lib.hid (by rw [hdx.out, hdy.out]; exact hfin.out)
            clear hfin hadd hoX
            go_wp2
            go_roundw
            case rel => exact ⟨q + 1, by omega, by go_num, hO'⟩
            case measure => simp [intOf]; omega
        · have hqci : ¬ (q : Int) < (m.cs.length : Int) := by omega
          have hO' : Hid (OS w w.heap.size (w.heap.size + 1) bb (bb + 1) (.slice A1 m.cs.length c1) (.slice A2 m.ns.length c2) (spA m.cs j (q + 1) key) (spA m.ns j (q + 1) (nt m.ns j)) wc) := Lib.hid (by rw [hdxb.out hqc, hdy.out]; exact hO2.out)
          clear hO2
          go_wp2
          go_roundw
          case rel => exact ⟨q + 1, by omega, by go_num, hO'⟩
          case measure => simp [intOf]; omega
    · obtain rfl : q = m.ns.length := by omega
      have hO' := hO.out
      have ex : spA m.cs j m.ns.length key = insA m.cs j key := by unfold spA; rw [if_pos hjn.out, List.take_of_length_le (by have := hnc.out; omega)]
      have ey : spA m.ns j m.ns.length (nt m.ns j) = insA m.ns j (nt m.ns j) := by unfold spA; rw [if_pos hjn.out, List.take_of_length_le (Nat.le_refl _)]
      rw [ex, ey] at hO'
      clear ex ey
      obtain ⟨m0, m1, -⟩ := hO'.m4.cells
      obtain ⟨D1, d1, D2, d2, hb, hG⟩ := hO'.ob
      have hT := hO'.tells hb hG
      obtain ⟨q0, q1, -⟩ := hb.cells
      obtain ⟨z0, z1, z2, z3⟩ := hO'.m8.cells
      obtain ⟨y0, y1, -⟩ := (hO'.m8.put (.slice D1 (insA m.cs j key).length d1) (.slice D2 (insA m.ns j (nt m.ns j)).length d2)).cells
      have hne8 : bb ≠ w.heap.size + 1 := fun e => hO'.lt.2.2.2.2.2.2.2.2 e.symm
      replace hT := Lib.hid hT
      clear hO hO' hb hG hqn
      generalize insA m.cs j key = xs at *
      generalize insA m.ns j (nt m.ns j) = ys at *
      go_wp2
      refine bodyPost_ret (v := .tuple #[.agg #[.slice D1 xs.length d1, .slice D2 ys.length d2], .int .i64 0]) ?_ rfl hT.out
      clear z0 z1 z2 z3 q0 q1 m0 m1
      simp [results, Try.results34, go_sem, y0, y1]
theorem rsplit_any (A1 : Option Addr) (c1 : Nat) (A2 : Option Addr) (c2 : Nat) (m : M) (k i : Int) (key : ByteArray) (w : World) (h : HM w A1 c1 A2 c2 m) (hi9 : -9223372036854775808 ≤ i ∧ i ≤ 9223372036854775807) :
    Calls Try.prog 34 #[.agg #[.slice A1 m.cs.length c1, .slice A2 m.ns.length c2], .int .i64 k, .int .i64 i, .string key] w (Tells (splE m k i key) (splM m k i key) w) := by
  by_cases hz : chk m k = 0
  · cases hi : there m i with
    | false => exact rsplit_7 A1 c1 A2 c2 m k i key w h hz hi9 hi
    | true =>
      by_cases hs : 16 < key.size
      · refine rsplit_14a A1 c1 A2 c2 m k i key w h hz hi9 hi ?_ hs
        unfold pnt; rw [decide_eq_false (by omega)]; rfl
      · cases hw : wth key (spnM.lo m i.toNat) (spnM.hi m i.toNat) with
        | false =>
          refine rsplit_14b A1 c1 A2 c2 m k i key w h hz hi9 hi ?_ hs hw
          unfold pnt; rw [hw]; simp
        | true =>
          cases hq : seq key (spnM.lo m i.toNat) with
          | true =>
            refine rsplit_14c A1 c1 A2 c2 m k i key w h hz hi9 hi ?_ hs hw hq
            unfold pnt; rw [hw, hq]; simp
          | false =>
            have hp : pnt key (spnM.lo m i.toNat) (spnM.hi m i.toNat) = true := by unfold pnt; rw [hw, hq, decide_eq_true (by omega)]; rfl
            by_cases h8 : 8 ≤ m.ns.length
            · exact rsplit_9 A1 c1 A2 c2 m k i key w h hz hi9 hi hp hs hw hq h8
            · exact rsplit_0 A1 c1 A2 c2 m k i key w h hz hi9 hi hp hs hw hq h8
  · exact rsplit_no A1 c1 A2 c2 m k i key w h hz
end Go.Proofs.Ytpijljbkdfjhcaa.spnIr
