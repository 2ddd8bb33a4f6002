/- SpanChanges. -/
import Derived.Test.YtihaapjobkpdcaaSpnIr
import Derived.Test.YtihaapjobkpdcaaSpnJr
import Derived.Test.YtihaapjobkpdcaaSpnY
set_option linter.unusedVariables false
namespace Go.Proofs.Ytihaapjobkpdcaa.spnCh
open Go.ChangeShapes Go.WideShapes Go.ChangeAt Go.RowKit
open spnM spnA spnB spnC spnN spnP spnD spnE spnF spnG spnH spnI spnJ spnK spnQ spnR spnS spnT spnKr spnIr spnJr
attribute [local go_sem high] bin_slt bin_sle bin_sge bin_seq bin_sne

set_option maxRecDepth 100000 in
set_option maxHeartbeats 4000000 in
theorem changes_small (A1 : Option Addr) (c1 : Nat) (A2 : Option Addr) (c2 : Nat) (m : M) (k i nn : Int) (key : ByteArray) (w : World) (h : HM w A1 c1 A2 c2 m) (hi9 : -9223372036854775808 ≤ i ∧ i ≤ 9223372036854775807) (hg : grt m = false) :
    Calls Try.prog 5 #[.agg #[.slice A1 m.cs.length c1, .slice A2 m.ns.length c2], .int .i64 k, .int .i64 i, .int .i64 nn, .string key] w fun e w' => e = .returned (.bool true) ∧ Below w.heap.size w w' := by
  obtain ⟨ea, ma, hpa, hra, hsa, hka⟩ : ∃ (ea : Nat) (ma : M),
      (∀ w', HM w' A1 c1 A2 c2 m → Calls Try.prog 24 #[.agg #[.slice A1 m.cs.length c1, .slice A2 m.ns.length c2], .int .i64 k, .int .i64 i, .string key] w' (Tells ea ma w')) ∧
      (∀ w', HM w' A1 c1 A2 c2 m → Calls Try.prog 25 #[.agg #[.slice A1 m.cs.length c1, .slice A2 m.ns.length c2], .int .i64 k, .int .i64 i, .string key] w' (Tells ea ma w')) ∧ Sm ma ∧ (ea = 0 → chk ma k = 0) :=
    ⟨splE m k i key, splM m k i key, fun w' hw => split_any A1 c1 A2 c2 m k i key w' hw, fun w' hw => rsplit_any A1 c1 A2 c2 m k i key w' hw hi9, sm_spl m k i key, fun e => (chk_iff _ _).2 (Ok.split e)⟩
  obtain ⟨za, hza⟩ : ∃ z, ((ea : Int) != 0) = z := ⟨_, rfl⟩
  replace hka : Hid (za = false → chk ma k = 0) := Lib.hid (fun e => hka (by rw [e, bne_eq_false_iff_eq] at hza; omega))
  replace hpa := Lib.hid hpa
  replace hra := Lib.hid hra
  replace hsa := Lib.hid hsa
  replace hza := Lib.hid hza
  obtain ⟨eb, mb, hpb, hrb, hsb, hkb⟩ : ∃ (eb : Nat) (mb : M),
      (∀ w', HM w' A1 c1 A2 c2 m → Calls Try.prog 26 #[.agg #[.slice A1 m.cs.length c1, .slice A2 m.ns.length c2], .int .i64 k, .int .i64 i] w' (Tells eb mb w')) ∧
      (∀ w', HM w' A1 c1 A2 c2 m → Calls Try.prog 27 #[.agg #[.slice A1 m.cs.length c1, .slice A2 m.ns.length c2], .int .i64 k, .int .i64 i] w' (Tells eb mb w')) ∧ Sm mb ∧ (eb = 0 → chk mb k = 0) :=
    ⟨mrgE m k i, mrgM m k i, fun w' hw => merge_any A1 c1 A2 c2 m k i w' hw, fun w' hw => rmerge_any A1 c1 A2 c2 m k i w' hw, sm_mrg m k i, fun e => (chk_iff _ _).2 (Ok.merge e)⟩
  obtain ⟨zb, hzb⟩ : ∃ z, ((eb : Int) != 0) = z := ⟨_, rfl⟩
  replace hkb : Hid (zb = false → chk mb k = 0) := Lib.hid (fun e => hkb (by rw [e, bne_eq_false_iff_eq] at hzb; omega))
  replace hpb := Lib.hid hpb
  replace hrb := Lib.hid hrb
  replace hsb := Lib.hid hsb
  replace hzb := Lib.hid hzb
  obtain ⟨ec, mc, hpc, hrc, hsc, hkc⟩ : ∃ (ec : Nat) (mc : M),
      (∀ w', HM w' A1 c1 A2 c2 m → Calls Try.prog 28 #[.agg #[.slice A1 m.cs.length c1, .slice A2 m.ns.length c2], .int .i64 k, .int .i64 i, .int .i64 nn] w' (Tells ec mc w')) ∧
      (∀ w', HM w' A1 c1 A2 c2 m → Calls Try.prog 29 #[.agg #[.slice A1 m.cs.length c1, .slice A2 m.ns.length c2], .int .i64 k, .int .i64 i, .int .i64 nn] w' (Tells ec mc w')) ∧ Sm mc ∧ (ec = 0 → chk mc k = 0) :=
    ⟨movE m k i nn, movM m k i nn, fun w' hw => move_any A1 c1 A2 c2 m k i nn w' hw, fun w' hw => rmove_any A1 c1 A2 c2 m k i nn w' hw, sm_mov m k i nn, fun e => (chk_iff _ _).2 (Ok.move e)⟩
  obtain ⟨zc, hzc⟩ : ∃ z, ((ec : Int) != 0) = z := ⟨_, rfl⟩
  replace hkc : Hid (zc = false → chk mc k = 0) := Lib.hid (fun e => hkc (by rw [e, bne_eq_false_iff_eq] at hzc; omega))
  replace hpc := Lib.hid hpc
  replace hrc := Lib.hid hrc
  replace hsc := Lib.hid hsc
  replace hzc := Lib.hid hzc
  have hb := MB.new h
  have hal := al0 w (.cells #[.slice A1 m.cs.length c1, .slice A2 m.ns.length c2] 25)
  obtain ⟨W, hW⟩ : ∃ W, w.alloc (.cells #[.slice A1 m.cs.length c1, .slice A2 m.ns.length c2] 25) = W := ⟨_, rfl⟩
  rw [hW] at hal hb
  have hgr := great_any A1 c1 A2 c2 m W
  rw [hg] at hgr
  replace hgr := Lib.hid hgr
  replace hb := Lib.hid hb
  replace hal := Lib.hid hal
  replace hW := Lib.hid hW
  clear h hg hi9
  go_enter Try.func5, Try.ntmps5
  go_wp2_with (fail)
  rw [hW.out]
  refine hgr.out.mono ?_
  rintro e V0 ⟨rfl, hB1⟩
  have hb0' := hb.out.below hB1
  have hnext := Lib.hid (hpa.out V0 hb0'.hm)
  have hBw0 := Lib.hid (trans0 hal.out hB1)
  obtain ⟨q0, q1, -⟩ := id hb0'
  have hb0 := Lib.hid hb0'
  clear hB1 hgr hb hb0'
  go_wp2_with (fail)
  refine hnext.out.mono ?_
  rintro e v1 ⟨D1, d1, E1, f1, rfl, hG, hB⟩
  have hx := MB.new (GM.hms hG hsa.out)
  have hBa := trans0 hB (al0 v1 (.cells #[.slice D1 ma.cs.length d1, .slice E1 ma.ns.length f1] 25))
  obtain ⟨V1, hV⟩ : ∃ V1, v1.alloc (.cells #[.slice D1 ma.cs.length d1, .slice E1 ma.ns.length f1] 25) = V1 := ⟨_, rfl⟩
  rw [hV] at hx hBa
  have hbN := hb0.out.below hBa
  have hx1 := Lib.hid hx
  have hB1 := Lib.hid hBa
  clear q0 q1
  have hnx := Lib.hid (hra.out V1 hbN.hm)
  obtain ⟨q0, q1, -⟩ := id hbN
  rw [← hV] at q0 q1
  have hb1 := Lib.hid hbN
  have hVf := Lib.hid hV
  clear hG hB hx hBa hV hbN hnext hb0
  go_wp2_with (fail)
  rw [hVf.out]
  refine hnx.out.mono ?_
  clear hVf
  have hnext := hnx
  clear hnx
  rintro e v2 ⟨D2, d2, E2, f2, rfl, hG, hB⟩
  have hx := MB.new (GM.hms hG hsa.out)
  have hBa := trans0 hB (al0 v2 (.cells #[.slice D2 ma.cs.length d2, .slice E2 ma.ns.length f2] 25))
  obtain ⟨V2, hV⟩ : ∃ V2, v2.alloc (.cells #[.slice D2 ma.cs.length d2, .slice E2 ma.ns.length f2] 25) = V2 := ⟨_, rfl⟩
  rw [hV] at hx hBa
  have hbN := hb1.out.below hBa
  have hx2 := Lib.hid hx
  have hB2 := Lib.hid hBa
  clear q0 q1
  have hnx := Lib.hid (hpb.out V2 hbN.hm)
  obtain ⟨q0, q1, -⟩ := id hbN
  rw [← hV] at q0 q1
  have hb2 := Lib.hid hbN
  have hVf := Lib.hid hV
  clear hG hB hx hBa hV hbN hnext hb1
  go_wp2_with (fail)
  rw [hVf.out]
  refine hnx.out.mono ?_
  clear hVf
  have hnext := hnx
  clear hnx
  rintro e v3 ⟨D3, d3, E3, f3, rfl, hG, hB⟩
  have hx := MB.new (GM.hms hG hsb.out)
  have hBa := trans0 hB (al0 v3 (.cells #[.slice D3 mb.cs.length d3, .slice E3 mb.ns.length f3] 25))
  obtain ⟨V3, hV⟩ : ∃ V3, v3.alloc (.cells #[.slice D3 mb.cs.length d3, .slice E3 mb.ns.length f3] 25) = V3 := ⟨_, rfl⟩
  rw [hV] at hx hBa
  have hbN := hb2.out.below hBa
  have hx3 := Lib.hid hx
  have hB3 := Lib.hid hBa
  clear q0 q1
  have hnx := Lib.hid (hrb.out V3 hbN.hm)
  obtain ⟨q0, q1, -⟩ := id hbN
  rw [← hV] at q0 q1
  have hb3 := Lib.hid hbN
  have hVf := Lib.hid hV
  clear hG hB hx hBa hV hbN hnext hb2
  go_wp2_with (fail)
  rw [hVf.out]
  refine hnx.out.mono ?_
  clear hVf
  have hnext := hnx
  clear hnx
  rintro e v4 ⟨D4, d4, E4, f4, rfl, hG, hB⟩
  have hx := MB.new (GM.hms hG hsb.out)
  have hBa := trans0 hB (al0 v4 (.cells #[.slice D4 mb.cs.length d4, .slice E4 mb.ns.length f4] 25))
  obtain ⟨V4, hV⟩ : ∃ V4, v4.alloc (.cells #[.slice D4 mb.cs.length d4, .slice E4 mb.ns.length f4] 25) = V4 := ⟨_, rfl⟩
  rw [hV] at hx hBa
  have hbN := hb3.out.below hBa
  have hx4 := Lib.hid hx
  have hB4 := Lib.hid hBa
  clear q0 q1
  have hnx := Lib.hid (hpc.out V4 hbN.hm)
  obtain ⟨q0, q1, -⟩ := id hbN
  rw [← hV] at q0 q1
  have hb4 := Lib.hid hbN
  have hVf := Lib.hid hV
  clear hG hB hx hBa hV hbN hnext hb3
  go_wp2_with (fail)
  rw [hVf.out]
  refine hnx.out.mono ?_
  clear hVf
  have hnext := hnx
  clear hnx
  rintro e v5 ⟨D5, d5, E5, f5, rfl, hG, hB⟩
  have hx := MB.new (GM.hms hG hsc.out)
  have hBa := trans0 hB (al0 v5 (.cells #[.slice D5 mc.cs.length d5, .slice E5 mc.ns.length f5] 25))
  obtain ⟨V5, hV⟩ : ∃ V5, v5.alloc (.cells #[.slice D5 mc.cs.length d5, .slice E5 mc.ns.length f5] 25) = V5 := ⟨_, rfl⟩
  rw [hV] at hx hBa
  have hbN := hb4.out.below hBa
  have hx5 := Lib.hid hx
  have hB5 := Lib.hid hBa
  clear q0 q1
  have hnx := Lib.hid (hrc.out V5 hbN.hm)
  obtain ⟨q0, q1, -⟩ := id hbN
  rw [← hV] at q0 q1
  have hb5 := Lib.hid hbN
  have hVf := Lib.hid hV
  clear hG hB hx hBa hV hbN hnext hb4
  go_wp2_with (fail)
  rw [hVf.out]
  refine hnx.out.mono ?_
  clear hVf
  have hnext := hnx
  clear hnx
  rintro e v6 ⟨D6, d6, E6, f6, rfl, hG, hB⟩
  have hx := MB.new (GM.hms hG hsc.out)
  have hBa := trans0 hB (al0 v6 (.cells #[.slice D6 mc.cs.length d6, .slice E6 mc.ns.length f6] 25))
  obtain ⟨V6, hV⟩ : ∃ V6, v6.alloc (.cells #[.slice D6 mc.cs.length d6, .slice E6 mc.ns.length f6] 25) = V6 := ⟨_, rfl⟩
  rw [hV] at hx hBa
  have hbN := hb5.out.below hBa
  have hx6 := Lib.hid hx
  have hB6 := Lib.hid hBa
  clear q0 q1
  have t56 := hB6.out
  have t46 := trans0 hB5.out t56
  have t36 := trans0 hB4.out t46
  have t26 := trans0 hB3.out t36
  have t16 := trans0 hB2.out t26
  have hBw6 := Lib.hid (trans0 hBw0.out (trans0 hB1.out t16))
  have y1 := hx1.out.below t16
  have y2 := hx2.out.below t26
  have y3 := Lib.hid (hx3.out.below t36)
  have y4 := Lib.hid (hx4.out.below t46)
  have y5 := Lib.hid (hx5.out.below t56)
  have y6 := hx6
  have hqa := Lib.hid (same_any D1 d1 E1 f1 D2 d2 E2 f2 ma V6 y1.hm y2.hm)
  obtain ⟨a0, a1, -⟩ := id y1
  obtain ⟨b0, b1, -⟩ := id y2
  rw [← hV] at a0 a1 b0 b1
  replace y1 := Lib.hid y1
  clear y2 t16 t26 t36 t46 t56
  have hVf := Lib.hid hV
  clear hG hB hx hBa hV hbN hnext hb5 hB1 hB2 hB3 hB4 hB5 hB6 hx1 hx2 hx3 hx4 hx5 hx6 hBw0 hpa hra hpb hrb hpc hrc hsa hsb hsc
  go_wp2_with (fail)
  rw [hVf.out]
  refine hqa.out.mono ?_
  rintro e u1 ⟨rfl, hB7⟩
  have z1 := Lib.hid (y1.out.below hB7)
  have z3 := y3.out.below hB7
  have z4 := y4.out.below hB7
  have z5 := Lib.hid (y5.out.below hB7)
  have z6 := Lib.hid (y6.out.below hB7)
  have hBw7 := Lib.hid (trans0 hBw6.out hB7)
  have hqb := Lib.hid (same_any D3 d3 E3 f3 D4 d4 E4 f4 mb u1 z3.hm z4.hm)
  clear a0 a1 b0 b1
  obtain ⟨a0, a1, -⟩ := id z3
  obtain ⟨b0, b1, -⟩ := id z4
  replace z3 := Lib.hid z3
  clear hB7 z4 y1 y3 y4 y5 y6 hBw6 hqa hVf
  go_wp2_with (fail)
  refine hqb.out.mono ?_
  rintro e u2 ⟨rfl, hB8⟩
  have x1 := Lib.hid (z1.out.below hB8)
  have x3 := Lib.hid (z3.out.below hB8)
  have x5 := z5.out.below hB8
  have x6 := z6.out.below hB8
  have hBw8 := Lib.hid (trans0 hBw7.out hB8)
  have hqc := Lib.hid (same_any D5 d5 E5 f5 D6 d6 E6 f6 mc u2 x5.hm x6.hm)
  clear a0 a1 b0 b1
  obtain ⟨a0, a1, -⟩ := id x5
  obtain ⟨b0, b1, -⟩ := id x6
  replace x5 := Lib.hid x5
  clear hB8 x6 z1 z3 z5 z6 hBw7 hqb
  go_wp2_with (fail)
  refine hqc.out.mono ?_
  rintro e u3 ⟨rfl, hB9⟩
  have o1 := x1.out.below hB9
  have o3 := x3.out.below hB9
  have o5 := x5.out.below hB9
  have hBw9 := Lib.hid (trans0 hBw8.out hB9)
  have h00 := Below.refl u3.heap.size u3
  have hcel := Lib.hid (fun w' (hw : Below u3.heap.size u3 w') => (⟨(o1.below hw).p0, (o1.below hw).p1, (o3.below hw).p0, (o3.below hw).p1, (o5.below hw).p0, (o5.below hw).p1⟩ : _ ∧ _ ∧ _ ∧ _ ∧ _ ∧ _))
  have kW := Lib.hid (up_awake u3)
  have kCa := Lib.hid (fun hz0 : za = false => show Up 12 #[.agg #[.slice D1 ma.cs.length d1, .slice E1 ma.ns.length f1], .int .i64 k] (.returned (.int .i64 ((0 : Nat) : Int))) u3 from up_of fun w' hw => by have := check_any D1 d1 E1 f1 ma k w' (o1.below hw).hm; rw [hka.out hz0] at this; exact this)
  have kCb := Lib.hid (fun hz0 : zb = false => show Up 12 #[.agg #[.slice D3 mb.cs.length d3, .slice E3 mb.ns.length f3], .int .i64 k] (.returned (.int .i64 ((0 : Nat) : Int))) u3 from up_of fun w' hw => by have := check_any D3 d3 E3 f3 mb k w' (o3.below hw).hm; rw [hkb.out hz0] at this; exact this)
  have kCc := Lib.hid (fun hz0 : zc = false => show Up 12 #[.agg #[.slice D5 mc.cs.length d5, .slice E5 mc.ns.length f5], .int .i64 k] (.returned (.int .i64 ((0 : Nat) : Int))) u3 from up_of fun w' hw => by have := check_any D5 d5 E5 f5 mc k w' (o5.below hw).hm; rw [hkc.out hz0] at this; exact this)
  clear a0 a1 b0 b1 o1 o3 o5 hB9 hBw8 hqc x1 x3 x5 hka hkb hkc
  have hza' := hza.out
  have hzb' := hzb.out
  have hzc' := hzc.out
  cases za <;> cases zb <;> cases zc
  all_goals
    go_wp2_with (first
      | (go_at_call 11; ((with_reducible refine (kW.out _ (by assumption)).mono ?_); rintro e w' ⟨rfl, hBx⟩; obtain ⟨n0, n1, n2, n3, n4, n5⟩ := hcel.out _ hBx))
      | (go_at_call 12; ((with_reducible refine (kCa.out (by first | trivial | rfl) _ (by assumption)).mono ?_); rintro e w' ⟨rfl, hBx⟩; obtain ⟨n0, n1, n2, n3, n4, n5⟩ := hcel.out _ hBx))
      | (go_at_call 12; ((with_reducible refine (kCb.out (by first | trivial | rfl) _ (by assumption)).mono ?_); rintro e w' ⟨rfl, hBx⟩; obtain ⟨n0, n1, n2, n3, n4, n5⟩ := hcel.out _ hBx))
      | (go_at_call 12; ((with_reducible refine (kCc.out (by first | trivial | rfl) _ (by assumption)).mono ?_); rintro e w' ⟨rfl, hBx⟩; obtain ⟨n0, n1, n2, n3, n4, n5⟩ := hcel.out _ hBx)) | fail)
    go_ret
    exact ⟨by simp, hBw9.out.trans (Below.mono (by assumption) hBw9.out.size)⟩
set_option maxRecDepth 100000 in
set_option maxHeartbeats 1000000 in
theorem changes (A1 : Option Addr) (c1 : Nat) (A2 : Option Addr) (c2 : Nat) (m : M) (k i nn : Int) (key : ByteArray) (w : World) (h : HM w A1 c1 A2 c2 m) (hi9 : -9223372036854775808 ≤ i ∧ i ≤ 9223372036854775807) :
    Calls Try.prog 5 #[.agg #[.slice A1 m.cs.length c1, .slice A2 m.ns.length c2], .int .i64 k, .int .i64 i, .int .i64 nn, .string key] w fun e w' => e = .returned (.bool true) ∧ Below w.heap.size w w' := by
  cases hg : grt m with
  | false => exact changes_small A1 c1 A2 c2 m k i nn key w h hi9 hg
  | true =>
    have hal := al0 w (.cells #[.slice A1 m.cs.length c1, .slice A2 m.ns.length c2] 25)
    obtain ⟨p0, p1⟩ := cells2 w (.slice A1 m.cs.length c1) (.slice A2 m.ns.length c2) 25
    obtain ⟨W, hW⟩ : ∃ W, w.alloc (.cells #[.slice A1 m.cs.length c1, .slice A2 m.ns.length c2] 25) = W := ⟨_, rfl⟩
    rw [hW] at hal
    have hgr := great_any A1 c1 A2 c2 m W
    rw [hg] at hgr
    replace hgr := Lib.hid hgr
    replace hal := Lib.hid hal
    have hWf := Lib.hid hW
    clear h hg hW
    go_enter Try.func5, Try.ntmps5
    go_wp2_with (fail)
    rw [hWf.out]
    refine hgr.out.mono ?_
    rintro e w1 ⟨rfl, hB1⟩
    have hb1 := Lib.hid (trans0 hal.out hB1)
    clear hB1
    go_wp2_with (fail)
    refine (awake_any w1).mono ?_
    rintro e w2 ⟨rfl, hB2⟩
    have hb2 := Lib.hid (trans0 hb1.out hB2)
    clear hB2
    go_wp2
    go_ret
    exact ⟨rfl, hb2.out⟩
end Go.Proofs.Ytihaapjobkpdcaa.spnCh
