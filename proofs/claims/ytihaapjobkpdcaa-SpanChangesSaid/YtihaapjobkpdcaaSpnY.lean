/- SpanOwns. -/
import Derived.Test.YtihaapjobkpdcaaSpnX
import Derived.Deep.RegionLaw
set_option linter.unusedVariables false
namespace Go.Proofs.Ytihaapjobkpdcaa.spnY
open Go.ChangeShapes Go.WideShapes Go.ChangeAt Go.RowKit
open spnM spnA spnB spnC spnN spnP spnD spnE spnF spnG spnH spnI spnJ spnK spnQ spnR spnS spnT spnX
attribute [local go_sem high] bin_slt bin_sle bin_sge bin_seq bin_sne

theorem gm_krs {w : World} {base c1 c2 : Nat} {A1 A2 : Option Addr} {m : M} (h : GM w base A1 c1 A2 c2 m) (h1 : m.cs.length ≤ 140737488351232) : Kr IsS base w A1 m.cs.length := kr_own (fun x => ⟨x, rfl⟩) h.cs h1
theorem gm_kri {w : World} {base c1 c2 : Nat} {A1 A2 : Option Addr} {m : M} (h : GM w base A1 c1 A2 c2 m) (h2 : m.ns.length ≤ 140737488351232) : Kr IsI base w A2 m.ns.length := kr_own (fun x => ⟨x, rfl⟩) h.ns h2
theorem XS.new {base ab i : Nat} {D1 D2 : Nat → Option Addr} {n1 c1 n2 c2 : Nat → Nat} {w0 w : World} (t : TypeId) (h : QS base ab D1 n1 c1 D2 n2 c2 w) (hB : Below base w0 w) (hb : base ≤ w.heap.size) : XS base ab w.heap.size D1 n1 c1 D2 n2 c2 i w0 (w.alloc (.cells #[.slice (D1 i) (n1 i) (c1 i), .slice (D2 i) (n2 i) (c2 i)] t)) :=
  ⟨h.below (al0 w _), (cells2 w _ _ _).1, (cells2 w _ _ _).2, hB.alloc hb _⟩
set_option maxRecDepth 100000 in
set_option maxHeartbeats 4000000 in
theorem owns_small (A1 : Option Addr) (c1 : Nat) (A2 : Option Addr) (c2 : Nat) (m : M) (k i nn : Int) (key : ByteArray) (w : World) (h : HM w A1 c1 A2 c2 m) (hg : grt m = false) :
    Calls Try.prog 10 #[.agg #[.slice A1 m.cs.length c1, .slice A2 m.ns.length c2], .int .i64 k, .int .i64 i, .int .i64 nn, .string key] w fun e w' => e = .returned (.bool true) ∧ Below w.heap.size w w' := by
  have hb := MB.new h
  have hal := al0 w (.cells #[.slice A1 m.cs.length c1, .slice A2 m.ns.length c2] 25)
  obtain ⟨W, hW⟩ : ∃ W, w.alloc (.cells #[.slice A1 m.cs.length c1, .slice A2 m.ns.length c2] 25) = W := ⟨_, rfl⟩
  rw [hW] at hal hb
  have hgr := great_any A1 c1 A2 c2 m W
  rw [hg] at hgr
  replace hgr := Lib.hid hgr
  have hsz := Lib.hid (show m.cs.length * 16 ≤ 140737488351232 ∧ m.ns.length * 8 ≤ 140737488351232 from ⟨h.s1, h.s2⟩)
  replace hb := Lib.hid hb
  replace hal := Lib.hid hal
  replace hW := Lib.hid hW
  clear h hg
  go_enter Try.func10, Try.ntmps10
  go_wp2_with (fail)
  rw [hW.out]
  refine hgr.out.mono ?_
  rintro e w1 ⟨rfl, hB1⟩
  have hb1 := hb.out.below hB1
  have hcp := Lib.hid (rcopy_any A1 c1 A2 c2 m w1 hb1.hm)
  have hBw1 := Lib.hid (trans0 hal.out hB1)
  obtain ⟨p0, p1, -⟩ := id hb1
  replace hb1 := Lib.hid hb1
  clear hB1 hgr hb
  go_wp2_with (fail)
  refine hcp.out.mono ?_
  rintro e w2 ⟨D1, d1, D2, d2, rfl, hG, hB2⟩
  -- was
  have hwas := MB.new (hG.hm hsz.out.1 hsz.out.2)
  have hBa := trans0 hB2 (al0 w2 (.cells #[.slice D1 m.cs.length d1, .slice D2 m.ns.length d2] 25))
  obtain ⟨W2, hW2⟩ : ∃ W2, w2.alloc (.cells #[.slice D1 m.cs.length d1, .slice D2 m.ns.length d2] 25) = W2 := ⟨_, rfl⟩
  rw [hW2] at hwas hBa
  have hb2 := hb1.out.below hBa
  have hBw2 := Lib.hid (trans0 hBw1.out hBa)
  have hsp := Lib.hid (split_any A1 c1 A2 c2 m k i key W2 hb2.hm)
  obtain ⟨q0, q1, -⟩ := id hb2
  rw [← hW2] at q0 q1
  replace hb2 := Lib.hid hb2
  replace hwas := Lib.hid hwas
  have hW2f := Lib.hid hW2
  clear hG hB2 hBa hW2 p0 p1 hb1 hcp
  go_wp2_with (fail)
  rw [hW2f.out]
  refine hsp.out.mono ?_
  rintro e w3 ⟨E1, e1, E2, e2, rfl, hG3, hB3⟩
  have hsm3 := sm_spl m k i key
  generalize splE m k i key = ea at *
  generalize splM m k i key = ma at *
  have hx3 := MB.new (GM.hms hG3 hsm3)
  have hBa := trans0 hB3 (al0 w3 (.cells #[.slice E1 ma.cs.length e1, .slice E2 ma.ns.length e2] 25))
  have hra := (gm_krs hG3 (by have := hsm3.1; omega)).below (al0 w3 (.cells #[.slice E1 ma.cs.length e1, .slice E2 ma.ns.length e2] 25))
  have hria := (gm_kri hG3 (by have := hsm3.2; omega)).below (al0 w3 (.cells #[.slice E1 ma.cs.length e1, .slice E2 ma.ns.length e2] 25))
  obtain ⟨W3, hW3⟩ : ∃ W3, w3.alloc (.cells #[.slice E1 ma.cs.length e1, .slice E2 ma.ns.length e2] 25) = W3 := ⟨_, rfl⟩
  rw [hW3] at hx3 hBa hra hria
  have hb3 := hb2.out.below hBa
  have hBb3 := Lib.hid hBa
  have hmg := Lib.hid (merge_any A1 c1 A2 c2 m k i W3 hb3.hm)
  obtain ⟨q0, q1, -⟩ := id hb3
  rw [← hW3] at q0 q1
  replace hb3 := Lib.hid hb3
  replace hx3 := Lib.hid hx3
  replace hra := Lib.hid hra
  replace hria := Lib.hid hria
  have hW3f := Lib.hid hW3
  clear hG3 hB3 hBa hW3 hsp hsm3
  go_wp2_with (fail)
  rw [hW3f.out]
  refine hmg.out.mono ?_
  rintro e w4 ⟨F1, f1, F2, f2, rfl, hG4, hB4⟩
  have hsm4 := sm_mrg m k i
  generalize mrgE m k i = eb at *
  generalize mrgM m k i = mb at *
  have hx4 := MB.new (GM.hms hG4 hsm4)
  have hBa := trans0 hB4 (al0 w4 (.cells #[.slice F1 mb.cs.length f1, .slice F2 mb.ns.length f2] 25))
  have hrb := (gm_krs hG4 (by have := hsm4.1; omega)).below (al0 w4 (.cells #[.slice F1 mb.cs.length f1, .slice F2 mb.ns.length f2] 25))
  have hrib := (gm_kri hG4 (by have := hsm4.2; omega)).below (al0 w4 (.cells #[.slice F1 mb.cs.length f1, .slice F2 mb.ns.length f2] 25))
  obtain ⟨W4, hW4⟩ : ∃ W4, w4.alloc (.cells #[.slice F1 mb.cs.length f1, .slice F2 mb.ns.length f2] 25) = W4 := ⟨_, rfl⟩
  rw [hW4] at hx4 hBa hrb hrib
  have hb4 := hb3.out.below hBa
  have hBb4 := Lib.hid hBa
  have hmv := Lib.hid (move_any A1 c1 A2 c2 m k i nn W4 hb4.hm)
  obtain ⟨q0, q1, -⟩ := id hb4
  rw [← hW4] at q0 q1
  replace hb4 := Lib.hid hb4
  replace hx4 := Lib.hid hx4
  replace hrb := Lib.hid hrb
  replace hrib := Lib.hid hrib
  have hW4f := Lib.hid hW4
  clear hG4 hB4 hBa hW4 hmg hsm4
  go_wp2_with (fail)
  rw [hW4f.out]
  refine hmv.out.mono ?_
  rintro e w5 ⟨G1, g1, G2, g2, rfl, hG5, hB5⟩
  have hsm5 := sm_mov m k i nn
  generalize movE m k i nn = ec at *
  generalize movM m k i nn = mc at *
  have hx5 := MB.new (GM.hms hG5 hsm5)
  have hBa := trans0 hB5 (al0 w5 (.cells #[.slice G1 mc.cs.length g1, .slice G2 mc.ns.length g2] 25))
  have hrc := (gm_krs hG5 (by have := hsm5.1; omega)).below (al0 w5 (.cells #[.slice G1 mc.cs.length g1, .slice G2 mc.ns.length g2] 25))
  have hric := (gm_kri hG5 (by have := hsm5.2; omega)).below (al0 w5 (.cells #[.slice G1 mc.cs.length g1, .slice G2 mc.ns.length g2] 25))
  obtain ⟨W5, hW5⟩ : ∃ W5, w5.alloc (.cells #[.slice G1 mc.cs.length g1, .slice G2 mc.ns.length g2] 25) = W5 := ⟨_, rfl⟩
  rw [hW5] at hx5 hBa hrc hric
  have hb5 := hb4.out.below hBa
  have hBb5 := Lib.hid hBa
  have hcp := Lib.hid (copy_any A1 c1 A2 c2 m W5 hb5.hm)
  obtain ⟨q0, q1, -⟩ := id hb5
  rw [← hW5] at q0 q1
  replace hb5 := Lib.hid hb5
  replace hx5 := Lib.hid hx5
  replace hrc := Lib.hid hrc
  replace hric := Lib.hid hric
  have hW5f := Lib.hid hW5
  clear hG5 hB5 hBa hW5 hmv hsm5
  go_wp2_with (fail)
  rw [hW5f.out]
  refine hcp.out.mono ?_
  rintro e w6 ⟨H1, h1, H2, h2, rfl, hG6, hB6⟩
  have hx6 := MB.new (hG6.hm hsz.out.1 hsz.out.2)
  have hBa := trans0 hB6 (al0 w6 (.cells #[.slice H1 m.cs.length h1, .slice H2 m.ns.length h2] 25))
  have hrd := (gm_krs hG6 (by have := hsz.out.1; omega)).below (al0 w6 (.cells #[.slice H1 m.cs.length h1, .slice H2 m.ns.length h2] 25))
  have hrid := (gm_kri hG6 (by have := hsz.out.2; omega)).below (al0 w6 (.cells #[.slice H1 m.cs.length h1, .slice H2 m.ns.length h2] 25))
  obtain ⟨W6, hW6⟩ : ∃ W6, w6.alloc (.cells #[.slice H1 m.cs.length h1, .slice H2 m.ns.length h2] 25) = W6 := ⟨_, rfl⟩
  rw [hW6] at hx6 hBa hrd hrid
  have hb6 := hb5.out.below hBa
  have hBb6 := Lib.hid hBa
  have hsa := Lib.hid (same_any H1 h1 H2 h2 A1 c1 A2 c2 m W6 hx6.hm hb6.hm)
  obtain ⟨q0, q1, -⟩ := id hb6
  obtain ⟨y0, y1, -⟩ := id hx6
  rw [← hW6] at q0 q1 y0 y1
  replace hx6 := Lib.hid hx6
  replace hrd := Lib.hid hrd
  replace hrid := Lib.hid hrid
  have hW6f := Lib.hid hW6
  clear hG6 hB6 hBa hW6 hcp hb6
  go_wp2_with (fail)
  rw [hW6f.out]
  refine hsa.out.mono ?_
  rintro e w7 ⟨rfl, hB7⟩
  -- the array
  have t36 := trans0 hBb4.out (trans0 hBb5.out hBb6.out)
  have k3 := hx3.out.below (trans0 t36 hB7)
  have k4 := hx4.out.below (trans0 (trans0 hBb5.out hBb6.out) hB7)
  have k5 := hx5.out.below (trans0 hBb6.out hB7)
  have k6 := hx6.out.below hB7
  have s23 := hBb3.out.size
  have s34 := hBb4.out.size
  have s45 := hBb5.out.size
  have hbase := Lib.hid (show W2.heap.size ≤ W3.heap.size ∧ W2.heap.size ≤ W4.heap.size ∧ W2.heap.size ≤ W5.heap.size by omega)
  have hQS := Lib.hid (QS.new (base := W2.heap.size) (ea := e1) (eb := f1) (ec := g1) (ed := h1) (fa := e2) (fb := f2) (fc := g2) (fd := h2) 25
    (hra.out.below (trans0 t36 hB7)) (hria.out.below (trans0 t36 hB7))
    ((hrb.out.below (trans0 (trans0 hBb5.out hBb6.out) hB7)).more hbase.out.1) ((hrib.out.below (trans0 (trans0 hBb5.out hBb6.out) hB7)).more hbase.out.1)
    ((hrc.out.below (trans0 hBb6.out hB7)).more hbase.out.2.1) ((hric.out.below (trans0 hBb6.out hB7)).more hbase.out.2.1)
    ((hrd.out.below hB7).more hbase.out.2.2) ((hrid.out.below hB7).more hbase.out.2.2))
  have hBW := Lib.hid (trans0 (trans0 (trans0 hBb3.out t36) hB7) (al0 w7 (.cells #[.slice E1 ma.cs.length e1, .slice E2 ma.ns.length e2, .slice F1 mb.cs.length f1, .slice F2 mb.ns.length f2, .slice G1 mc.cs.length g1, .slice G2 mc.ns.length g2, .slice H1 m.cs.length h1, .slice H2 m.ns.length h2] 25)))
  obtain ⟨a30, a31, -⟩ := k3
  obtain ⟨a40, a41, -⟩ := k4
  obtain ⟨a50, a51, -⟩ := k5
  obtain ⟨a60, a61, -⟩ := k6
  clear hB7 t36 s23 s34 s45 hbase hrd hrid hrc hric hrb hrib hra hria hx3 hx4 hx5 hx6 hb3 hb4 hb5 hsa hW6f hW5f hW4f hW3f q0 q1 y0 y1 hBb3 hBb4 hBb5 hBb6
  go_wp2
  obtain ⟨w8, hw8⟩ : ∃ w8, w7.alloc (.cells #[.slice E1 ma.cs.length e1, .slice E2 ma.ns.length e2, .slice F1 mb.cs.length f1, .slice F2 mb.ns.length f2, .slice G1 mc.cs.length g1, .slice G2 mc.ns.length g2, .slice H1 m.cs.length h1, .slice H2 m.ns.length h2] 25) = w8 := ⟨_, rfl⟩
  rw [hw8] at hQS hBW ⊢
  replace hw8 := Lib.hid hw8
  generalize w7.heap.size = ab at *
  generalize sel4 E1 F1 G1 H1 = D1' at *
  generalize sel4 E2 F2 G2 H2 = D2' at *
  generalize sel4 ma.cs.length mb.cs.length mc.cs.length m.cs.length = n1 at *
  generalize sel4 ma.ns.length mb.ns.length mc.ns.length m.ns.length = n2 at *
  generalize sel4 e1 f1 g1 h1 = k1 at *
  generalize sel4 e2 f2 g2 h2 = k2 at *
  clear a30 a31 a40 a41 a50 a51 a60 a61
  go_loopw [63] (fun t wr => ∃ x : Nat, x ≤ 4 ∧ t = .int .i64 x ∧ Hid (QS W2.heap.size ab D1' n1 k1 D2' n2 k2 wr ∧ Below W2.heap.size W2 wr)) (fun t _ => 4 - (intOf t).toNat)
  case atStart => exact ⟨0, by omega, rfl, Lib.hid ⟨hQS.out, hBW.out⟩⟩
  case round =>
    clear hQS hBW hw8
    obtain ⟨x, hx4, rfl, hQ⟩ := hrel
    by_cases hlt : x < 4
    · obtain ⟨hc0, hc1⟩ := hQ.out.1.cell x hlt
      have hX0 := XS.new (i := x) 25 hQ.out.1 hQ.out.2 hQ.out.2.size
      have hx64 : (x : Int) < 4 := by omega
      have hx0 : (0 : Int) ≤ (x : Int) := by omega
      clear hQ
      go_wp2
      obtain ⟨wa, hwa⟩ : ∃ wa, wr.alloc (.cells #[.slice (D1' x) (n1 x) (k1 x), .slice (D2' x) (n2 x) (k2 x)] 25) = wa := ⟨_, rfl⟩
      rw [hwa] at hX0 ⊢
      clear hc0 hc1 hwa
      generalize wr.heap.size = xb at *
      go_loopw [70] (fun t wi => ∃ y : Nat, y ≤ n1 x ∧ t = .int .i64 y ∧ Hid (XS W2.heap.size ab xb D1' n1 k1 D2' n2 k2 x W2 wi)) (fun t _ => n1 x - (intOf t).toNat)
      case atStart => exact ⟨0, Nat.zero_le _, rfl, Lib.hid hX0⟩
      case round =>
        clear hX0
        obtain ⟨y, hy, rfl, hX⟩ := hrel
        have x0 := hX.out.x0
        have x1 := hX.out.x1
        by_cases hyl : y < n1 x
        · obtain ⟨hn, h0 | ⟨g, hg, hbg, hcs⟩⟩ := hX.out.qs.rs x hlt
          · omega
          · obtain ⟨⟨_, ⟨s, rfl⟩, hcy⟩, hfy⟩ := hcs y hyl
            rw [hg] at x0
            clear hg
            have hst := Lib.hid (hX.out.setS (u' := .string (oth s)) hcy ⟨s, rfl⟩ ⟨_, rfl⟩ hbg)
            have hot := Lib.hid (fun w => other_any s w)
            have hy0 : (0 : Int) ≤ (y : Int) := by omega
            have hy1 : (y : Int) < (n1 x : Int) := by omega
            clear hcs hX
            go_wp2
            go_region_with (first | (go_at_call 34; ((with_reducible refine (hot.out _).mono ?_); rintro e w' ⟨rfl, rfl⟩)) | fail)
            all_goals
              clear hot
              go_wp2
              go_roundw
              case rel => exact ⟨y + 1, by omega, by go_num, by first | exact hst | exact Lib.hid hst.out.drew⟩
              case measure => simp [intOf]; omega
        · obtain rfl : y = n1 x := by omega
          have hX0 := hX.out
          have hn1 := (hX.out.qs.rs x hlt).1
          clear hX x0
          go_wp2
          clear x1
          obtain ⟨w6, hw6⟩ : ∃ w6 : World, w6 = wr := ⟨_, rfl⟩
          subst hw6
          go_loopw [87] (fun t wi => ∃ y : Nat, y ≤ n2 x ∧ t = .int .i64 y ∧ Hid (XS W2.heap.size ab xb D1' n1 k1 D2' n2 k2 x W2 wi)) (fun t _ => n2 x - (intOf t).toNat)
          case atStart => exact ⟨0, Nat.zero_le _, rfl, Lib.hid hX0⟩
          case round =>
            clear hX0
            obtain ⟨y, hy, rfl, hX⟩ := hrel
            have x1 := hX.out.x1
            by_cases hyl : y < n2 x
            · obtain ⟨hn, h0 | ⟨g, hg, hbg, hcs⟩⟩ := hX.out.qs.ri x hlt
              · omega
              · obtain ⟨⟨_, ⟨s, rfl⟩, hcy⟩, hfy⟩ := hcs y hyl
                rw [hg] at x1
                clear hg
                have hst := Lib.hid (fun s' => hX.out.setI (u' := .int .i64 s') hcy ⟨s, rfl⟩ ⟨_, rfl⟩ hbg)
                have hy0 : (0 : Int) ≤ (y : Int) := by omega
                have hy1 : (y : Int) < (n2 x : Int) := by omega
                clear hcs hX
                go_wp2
                go_roundw
                case rel => exact ⟨y + 1, by omega, by go_num, Lib.hid (hst.out _)⟩
                case measure => simp [intOf]; omega
            · obtain rfl : y = n2 x := by omega
              have hX0 := Lib.hid (⟨hX.out.qs, hX.out.bel⟩ : _ ∧ _)
              have hn2 := (hX.out.qs.ri x hlt).1
              clear hX
              go_wp2
              go_roundw
              case rel => exact ⟨x + 1, by omega, by go_num, hX0⟩
              case measure => simp [intOf]; omega
    · obtain rfl : x = 4 := by omega
      have hb5 := hb2.out.below hQ.out.2
      have hwa := hwas.out.below hQ.out.2
      have hBw3 := Lib.hid (trans0 hBw2.out hQ.out.2)
      clear hQ
      go_wp2_with (fail)
      refine (awake_any wr).mono ?_
      rintro e w9 ⟨rfl, hB9⟩
      have hb6 := hb5.below hB9
      have hwb := hwa.below hB9
      have hsa := Lib.hid (same_any A1 c1 A2 c2 D1 d1 D2 d2 m w9 hb6.hm hwb.hm)
      obtain ⟨p0, p1, -⟩ := hb6
      obtain ⟨r0, r1, -⟩ := hwb
      have hB10 := Lib.hid (trans0 hBw3.out hB9)
      clear hB9 hb5 hwa
      go_wp2_with (go_at_call 30; ((with_reducible refine (hsa.out).mono ?_); rintro e w' ⟨rfl, hBx⟩))
      go_ret
      exact ⟨by simp, trans0 hB10.out hBx⟩
set_option maxRecDepth 100000 in
set_option maxHeartbeats 1000000 in
theorem owns (A1 : Option Addr) (c1 : Nat) (A2 : Option Addr) (c2 : Nat) (m : M) (k i nn : Int) (key : ByteArray) (w : World) (h : HM w A1 c1 A2 c2 m) :
    Calls Try.prog 10 #[.agg #[.slice A1 m.cs.length c1, .slice A2 m.ns.length c2], .int .i64 k, .int .i64 i, .int .i64 nn, .string key] w fun e w' => e = .returned (.bool true) ∧ Below w.heap.size w w' := by
  cases hg : grt m with
  | false => exact owns_small A1 c1 A2 c2 m k i nn key w h hg
  | true =>
    have hal := al0 w (.cells #[.slice A1 m.cs.length c1, .slice A2 m.ns.length c2] 25)
    obtain ⟨p0, p1⟩ := cells2 w (.slice A1 m.cs.length c1) (.slice A2 m.ns.length c2) 25
    obtain ⟨W, hW⟩ : ∃ W, w.alloc (.cells #[.slice A1 m.cs.length c1, .slice A2 m.ns.length c2] 25) = W := ⟨_, rfl⟩
    rw [hW] at hal
    have hgr := great_any A1 c1 A2 c2 m W
    rw [hg] at hgr
    replace hgr := Lib.hid hgr
    replace hal := Lib.hid hal
    have hWf := Lib.hid hW
    clear h hg hW
    go_enter Try.func10, Try.ntmps10
    go_wp2_with (fail)
    rw [hWf.out]
    refine hgr.out.mono ?_
    rintro e w1 ⟨rfl, hB1⟩
    have hb1 := Lib.hid (trans0 hal.out hB1)
    clear hB1
    go_wp2_with (fail)
    refine (awake_any w1).mono ?_
    rintro e w2 ⟨rfl, hB2⟩
    have hb2 := Lib.hid (trans0 hb1.out hB2)
    clear hB2
    go_wp2
    go_ret
    exact ⟨rfl, hb2.out⟩
end Go.Proofs.Ytihaapjobkpdcaa.spnY
