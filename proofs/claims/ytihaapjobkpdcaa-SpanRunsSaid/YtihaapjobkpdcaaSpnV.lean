/- SpanRuns. -/
import Derived.Test.YtihaapjobkpdcaaSpnS
import Derived.Test.YtihaapjobkpdcaaOpC
import Derived.Laws.Bits64
set_option linter.unusedVariables false
namespace Go.Proofs.Ytihaapjobkpdcaa.spnV
open Go.ChangeShapes Go.WideShapes Go.ChangeAt Go.RowKit
open spnM spnA spnB spnC spnN spnP spnD spnE spnF spnH spnI spnJ spnK spnQ spnR spnS opG
attribute [local go_sem high] bin_slt bin_sle bin_sge bin_seq bin_sne

/-- the nodes of the run -/
def nodesOf (k : Int) : Int := wrap64 (wrap64 ((IntKind.u64.wrap k).tmod 4) + 1)
theorem nodes_in (k : Int) : 1 ≤ nodesOf k ∧ nodesOf k ≤ 4 := by
  unfold nodesOf wrap64
  rw [IntKind.wrap_u64, Int.tmod_eq_emod_of_nonneg (by omega)]
  omega
/-- the run's map, right, in its box -/
structure RI (w : World) (b : Nat) (k : Int) (A1 : Option Addr) (c1 : Nat) (A2 : Option Addr) (c2 : Nat) (m : M) (W : World) : Prop where
  box : B2 b (.slice A1 m.cs.length c1) (.slice A2 m.ns.length c2) W
  hm : HM W A1 c1 A2 c2 m
  ok : Ok m k
  bel : Below w.heap.size w W
  low : w.heap.size ≤ b
section
variable {w W W' : World} {b : Nat} {k : Int} {A1 A2 D1 D2 : Option Addr} {c1 c2 d1 d2 base : Nat} {m m' : M}
theorem RI.below (h : RI w b k A1 c1 A2 c2 m W) (hB : Below W.heap.size W W') : RI w b k A1 c1 A2 c2 m W' := ⟨h.box.below hB, h.hm.below hB, h.ok, trans0 h.bel hB, h.low⟩
/-- another right map is laid into the box -/
theorem RI.put (h : RI w b k A1 c1 A2 c2 m W) (hG : GM W base D1 d1 D2 d2 m') (hb : b < base) (hok : Ok m' k) : RI w b k D1 d1 D2 d2 m' ((W.setCell ⟨b, 0, none⟩ (.slice D1 m'.cs.length d1)).setCell ⟨b, 1, none⟩ (.slice D2 m'.ns.length d2)) :=
  ⟨h.box.put _ _, GM.hms (hG.set2 hb _ _) (sm_ok hok), hok, below2 h.bel h.low _ _, h.low⟩
end
theorem row6 (w : World) (v0 v1 v2 v3 v4 v5 : Value) (t : TypeId) : (w.alloc (.cells #[v0, v1, v2, v3, v4, v5] t)).cell? ⟨w.heap.size, 0, none⟩ = some v0 ∧ (w.alloc (.cells #[v0, v1, v2, v3, v4, v5] t)).cell? ⟨w.heap.size, 2, none⟩ = some v2 ∧
    (w.alloc (.cells #[v0, v1, v2, v3, v4, v5] t)).cell? ⟨w.heap.size, 3, none⟩ = some v3 ∧ (w.alloc (.cells #[v0, v1, v2, v3, v4, v5] t)).cell? ⟨w.heap.size, 5, none⟩ = some v5 := by
  have h := fun (j : Nat) (v : Value) (hv : (#[v0, v1, v2, v3, v4, v5] : Array Value)[j]? = some v) => (cell_of_row _ _ j _ t (0, 0) (heap_alloc_new w (.cells #[v0, v1, v2, v3, v4, v5] t))).trans hv
  exact ⟨h 0 _ rfl, h 2 _ rfl, h 3 _ rfl, h 5 _ rfl⟩
set_option maxRecDepth 100000 in
set_option maxHeartbeats 8000000 in
theorem runs (k : Int) (A : Option Addr) (n c : Nat) (ls : List opC.Cmd) (key : ByteArray) (w : World) (hl : Rs w opC.QCmd 6 A n ls) :
    Calls Try.prog 9 #[.int .i64 k, .slice A n c, .string key] w fun e w' => e = .returned (.bool true) ∧ Below w.heap.size w w' := by
  have hn9 := hl.2.1
  have hK := nodes_in k
  replace hl := Lib.hid hl
  go_enter Try.func9, Try.ntmps9
  go_wp2_with (fail)
  refine (whole_any 0 w).mono ?_
  rintro e w1 ⟨A1, c1, A2, c2, rfl, hG, hB⟩
  have hRI : Hid (RI w w1.heap.size (nodesOf k) A1 c1 A2 c2 ⟨[], [0]⟩ (w1.alloc (.cells #[.slice A1 0 c1, .slice A2 1 c2] 25))) := Lib.hid
    ⟨B2.new w1 (.slice A1 0 c1) (.slice A2 1 c2), (GM.hms hG (sm_ok (ok_whole hK.1 hK.2))).below (al0 _ _), ok_whole hK.1 hK.2, trans0 hB (al0 _ _), hB.size⟩
  clear hG hB
  go_wp2
  rw [show wrap64 (wrap64 ((IntKind.u64.wrap k).tmod 4) + 1) = nodesOf k from rfl]
  generalize nodesOf k = K at *
  generalize w1.heap.size = b7 at *
  obtain ⟨hK1, hK4⟩ := hK
  go_loopw [8] (fun i wr => ∃ (j : Nat) (m : M) (A1 : Option Addr) (c1 : Nat) (A2 : Option Addr) (c2 : Nat), j ≤ n ∧ j ≤ 60 ∧ i = .int .i64 j ∧ Hid (RI w b7 K A1 c1 A2 c2 m wr)) (fun i _ => n - (intOf i).toNat)
  case atStart => exact ⟨0, _, _, _, _, _, by omega, by omega, rfl, hRI⟩
  case round =>
    clear hRI
    obtain ⟨j, m, A1, c1, A2, c2, hj, hj60, rfl, hR⟩ := hrel
    by_cases hlt : j < n ∧ j < 60
    · obtain ⟨hlt, hl6⟩ := hlt
      obtain ⟨b, off, rfl, hbl, ⟨f0, f1, f2, f3, f4, f5⟩, hk⟩ : ∃ b off, A = some ⟨b, off, none⟩ ∧ b < w.heap.size ∧ opC.QCmd w b (off + j * 6) (ls.getD j default) := by
        rcases hl.out.2.2 with h0 | ⟨b, off, e, h3, h4⟩
        · omega
        · exact ⟨b, off, e, h3, h4 j hlt⟩
      generalize ls.getD j default = C at *
      have ge : ∀ o, wr.cell? ⟨b, o, none⟩ = w.cell? ⟨b, o, none⟩ := fun o => hR.out.bel.cell (p := ⟨b, o, none⟩) hbl
      rw [← ge] at f0 f1 f2 f3 f4 f5
      obtain ⟨ck, cd, cs, cn, cm, ckey⟩ := C
      simp only at f0 f1 f2 f3 f4 f5
      have hjI : (j : Int) < (n : Int) := by omega
      have hj6I : (j : Int) < 60 := by omega
      have hal := al0 wr (.cells #[.int .i64 ck, .int .i64 cd, .int .i64 cs, .int .i64 cn, .int .i64 cm, .string ckey] 55)
      obtain ⟨r0, r2, r3, r5⟩ := row6 wr (.int .i64 ck) (.int .i64 cd) (.int .i64 cs) (.int .i64 cn) (.int .i64 cm) (.string ckey) 55
      have hR1 := hR.out.below hal
      obtain ⟨W1, hW1⟩ : ∃ W1, wr.alloc (.cells #[.int .i64 ck, .int .i64 cd, .int .i64 cs, .int .i64 cn, .int .i64 cm, .string ckey] 55) = W1 := ⟨_, rfl⟩
      rw [hW1] at hR1 r0 r2 r3 r5
      have hmv := Lib.hid (move_any A1 c1 A2 c2 m K cs cn W1 hR1.hm)
      obtain ⟨p0, p1, -⟩ := hR.out.box.cells
      obtain ⟨p0', p1', -⟩ := hR1.box.cells
      replace hR1 := Lib.hid hR1
      have hW1f := Lib.hid hW1
      have hR1c := Lib.hid (⟨r0, r2, r3, r5⟩ : _ ∧ _ ∧ _ ∧ _)
      rw [← hW1] at r0 r2 r3 r5 p0' p1'
      clear ge hal hk hW1
      by_cases hk3 : ck = 3
      · have hb3 : (ck == 3) = true := beq_iff_eq.2 hk3
        clear hk3
        by_cases hE : splE m K cs ckey = 0
        · go_wp2_with (fail)
          rw [hW1f.out]
          generalize movE m K cs cn = E0 at *
          generalize movM m K cs cn = mq at *
          refine hmv.out.mono ?_
          rintro e w2 ⟨D0, d0, F0, g0, rfl, hG, hB⟩
          obtain ⟨W2, hW2⟩ : ∃ W2, w2.alloc (.cells #[.slice D0 mq.cs.length d0, .slice F0 mq.ns.length g0] 25) = W2 := ⟨_, rfl⟩
          have hx := B2.new w2 (.slice D0 mq.cs.length d0) (.slice F0 mq.ns.length g0)
          have hB2 := trans0 hB (al0 w2 (.cells #[.slice D0 mq.cs.length d0, .slice F0 mq.ns.length g0] 25))
          have hz2 : w2.heap.size < (w2.alloc (.cells #[.slice D0 mq.cs.length d0, .slice F0 mq.ns.length g0] 25)).heap.size := by simp
          rw [hW2] at hx hB2 hz2
          have hRX2 := hR1.out.below hB2
          have hlt1 := hR1.out.box.lt
          have hlow1 := Lib.hid (show b7 < W1.heap.size ∧ W1.heap.size ≤ w2.heap.size ∧ w2.heap.size < W2.heap.size from ⟨hlt1, hB.size, hz2⟩)
          obtain ⟨a0, a2, a3, a5⟩ := hR1c.out
          have b0 := keep_cell hB2 a0
          have b2 := keep_cell hB2 a2
          have b5 := keep_cell hB2 a5
          obtain ⟨c0, c1', -⟩ := hRX2.box.cells
          have hsp := split_any A1 c1 A2 c2 m K cs ckey W2 hRX2.hm
          have hokp := Lib.hid (Ok.split hE)
          rw [hE] at hsp
          clear hE
          generalize splM m K cs ckey = m' at *
          replace hsp := Lib.hid hsp
          have hBW2 := Lib.hid hB2
          have hxf := Lib.hid hx
          rw [← hW2] at b0 b2 b5 c0 c1'
          have hW2f := Lib.hid hW2
          clear hG hB hx hB2 hz2 hRX2 hlt1 a0 a2 a3 a5 hmv r0 r2 r3 r5 p0 p1 p0' p1' hW2
          go_wp2_with (fail)
          rw [hW2f.out]
          refine hsp.out.mono ?_
          rintro e w3 ⟨D1, d1, D2, d2, rfl, hG3, hB3⟩
          have hx3 := hxf.out.below hB3
          obtain ⟨z0, z1, z2, z3⟩ := hx3.cells
          have hBX := below2 (i := 0) (j := 1) (b := w2.heap.size) (trans0 hBW2.out hB3) hlow1.out.2.1 (.slice D1 m'.cs.length d1) (.slice D2 m'.ns.length d2)
          have hRX := Lib.hid (hR1.out.below hBX)
          have hGX := Lib.hid (hG3.set2 (b := w2.heap.size) hlow1.out.2.2 (.slice D1 m'.cs.length d1) (.slice D2 m'.ns.length d2))
          have hlow := Lib.hid (show b7 < W2.heap.size by have := hlow1.out; omega)
          obtain ⟨x0, x1, -⟩ := (hx3.put (.slice D1 m'.cs.length d1) (.slice D2 m'.ns.length d2)).cells
          clear hG3 hB3 hx3 hBX hsp b0 b2 b5 c0 c1' hxf
          have hRp := hRX.out.put hGX.out (by have := hlow.out; omega) hokp.out
          obtain ⟨y0, y1, -⟩ := hRp.box.cells
          obtain ⟨s0, s1, s2, s3⟩ := hRX.out.box.cells
          have how := Lib.hid (owner_any D1 d1 D2 d2 m' key _ hRp.hm)
          have hown := Lib.hid (hRp.ok.owner_in key)
          obtain ⟨X4, hX4⟩ : ∃ X4, (((w3.setCell ⟨w2.heap.size, 0, none⟩ (.slice D1 m'.cs.length d1)).setCell ⟨w2.heap.size, 1, none⟩ (.slice D2 m'.ns.length d2)).setCell ⟨b7, 0, none⟩ (.slice D1 m'.cs.length d1)).setCell ⟨b7, 1, none⟩ (.slice D2 m'.ns.length d2) = X4 := ⟨_, rfl⟩
          rw [hX4] at hRp how
          replace hRp := Lib.hid hRp
          have hX4f := Lib.hid hX4
          clear hX4
          go_wp2_with (fail)
          rw [hX4f.out]
          refine how.out.mono ?_
          rintro e X5 ⟨rfl, hB5⟩
          have hR5 := hRp.out.below hB5
          obtain ⟨x0, x1, -⟩ := hR5.box.cells
          have hck := check_any D1 d1 D2 d2 m' K X5 hR5.hm
          rw [(chk_iff m' K).2 hR5.ok] at hck
          replace hck := Lib.hid hck
          replace hR5 := Lib.hid hR5
          obtain ⟨ho1, ho2⟩ := hown.out
          generalize own m' key = o at *
          clear hB5 y0 y1 hown how hRp
          go_wp2_with (fail)
          refine hck.out.mono ?_
          rintro e X6 ⟨rfl, hB6⟩
          have hR6 := Lib.hid (hR5.out.below hB6)
          clear hB6 x0 x1 hck hR5
          go_wp2
          go_roundw
          case rel => exact ⟨j + 1, m', _, _, _, _, by omega, by omega, by go_num, hR6⟩
          case measure => simp [intOf]; omega
        · go_wp2_with (fail)
          rw [hW1f.out]
          generalize movE m K cs cn = E0 at *
          generalize movM m K cs cn = mq at *
          refine hmv.out.mono ?_
          rintro e w2 ⟨D0, d0, F0, g0, rfl, hG, hB⟩
          obtain ⟨W2, hW2⟩ : ∃ W2, w2.alloc (.cells #[.slice D0 mq.cs.length d0, .slice F0 mq.ns.length g0] 25) = W2 := ⟨_, rfl⟩
          have hx := B2.new w2 (.slice D0 mq.cs.length d0) (.slice F0 mq.ns.length g0)
          have hB2 := trans0 hB (al0 w2 (.cells #[.slice D0 mq.cs.length d0, .slice F0 mq.ns.length g0] 25))
          have hz2 : w2.heap.size < (w2.alloc (.cells #[.slice D0 mq.cs.length d0, .slice F0 mq.ns.length g0] 25)).heap.size := by simp
          rw [hW2] at hx hB2 hz2
          have hRX2 := hR1.out.below hB2
          have hlt1 := hR1.out.box.lt
          have hlow1 := Lib.hid (show b7 < W1.heap.size ∧ W1.heap.size ≤ w2.heap.size ∧ w2.heap.size < W2.heap.size from ⟨hlt1, hB.size, hz2⟩)
          obtain ⟨a0, a2, a3, a5⟩ := hR1c.out
          have b0 := keep_cell hB2 a0
          have b2 := keep_cell hB2 a2
          have b5 := keep_cell hB2 a5
          obtain ⟨c0, c1', -⟩ := hRX2.box.cells
          have hsp := split_any A1 c1 A2 c2 m K cs ckey W2 hRX2.hm
          have hne : ((splE m K cs ckey : Int) == 0) = false := by rw [beq_eq_false_iff_ne]; omega
          have hnn : splM m K cs ckey = non := by unfold splM; rw [if_neg hE]
          rw [hnn] at hsp
          clear hE hnn
          generalize splE m K cs ckey = E at *
          replace hsp := Lib.hid hsp
          have hBW2 := Lib.hid hB2
          have hxf := Lib.hid hx
          rw [← hW2] at b0 b2 b5 c0 c1'
          have hW2f := Lib.hid hW2
          clear hG hB hx hB2 hz2 hRX2 hlt1 a0 a2 a3 a5 hmv r0 r2 r3 r5 p0 p1 p0' p1' hW2
          go_wp2_with (fail)
          rw [hW2f.out]
          refine hsp.out.mono ?_
          rintro e w3 ⟨D1, d1, D2, d2, rfl, hG3, hB3⟩
          have hx3 := hxf.out.below hB3
          obtain ⟨z0, z1, z2, z3⟩ := hx3.cells
          have hBX := below2 (i := 0) (j := 1) (b := w2.heap.size) (trans0 hBW2.out hB3) hlow1.out.2.1 (.slice D1 non.cs.length d1) (.slice D2 non.ns.length d2)
          have hRX := Lib.hid (hR1.out.below hBX)
          have hGX := Lib.hid (hG3.set2 (b := w2.heap.size) hlow1.out.2.2 (.slice D1 non.cs.length d1) (.slice D2 non.ns.length d2))
          have hlow := Lib.hid (show b7 < W2.heap.size by have := hlow1.out; omega)
          obtain ⟨x0, x1, -⟩ := (hx3.put (.slice D1 non.cs.length d1) (.slice D2 non.ns.length d2)).cells
          clear hG3 hB3 hx3 hBX hsp b0 b2 b5 c0 c1' hxf
          have hRp := hRX.out
          obtain ⟨y0, y1, -⟩ := hRp.box.cells
          have how := Lib.hid (owner_any A1 c1 A2 c2 m key _ hRp.hm)
          have hown := Lib.hid (hRp.ok.owner_in key)
          replace hRp := Lib.hid hRp
          go_wp2_with (fail)
          refine how.out.mono ?_
          rintro e X5 ⟨rfl, hB5⟩
          have hR5 := hRp.out.below hB5
          obtain ⟨x0, x1, -⟩ := hR5.box.cells
          have hck := check_any A1 c1 A2 c2 m K X5 hR5.hm
          rw [(chk_iff m K).2 hR5.ok] at hck
          replace hck := Lib.hid hck
          replace hR5 := Lib.hid hR5
          obtain ⟨ho1, ho2⟩ := hown.out
          generalize own m key = o at *
          clear hB5 y0 y1 hown how hRp
          go_wp2_with (fail)
          refine hck.out.mono ?_
          rintro e X6 ⟨rfl, hB6⟩
          have hR6 := Lib.hid (hR5.out.below hB6)
          clear hB6 x0 x1 hck hR5
          go_wp2
          go_roundw
          case rel => exact ⟨j + 1, m, _, _, _, _, by omega, by omega, by go_num, hR6⟩
          case measure => simp [intOf]; omega
      · by_cases hk4 : ck = 4
        · have hb3 : (ck == 3) = false := beq_eq_false_iff_ne.2 hk3
          have hb4 : (ck == 4) = true := beq_iff_eq.2 hk4
          clear hk3 hk4
          by_cases hE : mrgE m K cs = 0
          · go_wp2_with (fail)
            rw [hW1f.out]
            generalize movE m K cs cn = E0 at *
            generalize movM m K cs cn = mq at *
            refine hmv.out.mono ?_
            rintro e w2 ⟨D0, d0, F0, g0, rfl, hG, hB⟩
            obtain ⟨W2, hW2⟩ : ∃ W2, w2.alloc (.cells #[.slice D0 mq.cs.length d0, .slice F0 mq.ns.length g0] 25) = W2 := ⟨_, rfl⟩
            have hx := B2.new w2 (.slice D0 mq.cs.length d0) (.slice F0 mq.ns.length g0)
            have hB2 := trans0 hB (al0 w2 (.cells #[.slice D0 mq.cs.length d0, .slice F0 mq.ns.length g0] 25))
            have hz2 : w2.heap.size < (w2.alloc (.cells #[.slice D0 mq.cs.length d0, .slice F0 mq.ns.length g0] 25)).heap.size := by simp
            rw [hW2] at hx hB2 hz2
            have hRX2 := hR1.out.below hB2
            have hlt1 := hR1.out.box.lt
            have hlow1 := Lib.hid (show b7 < W1.heap.size ∧ W1.heap.size ≤ w2.heap.size ∧ w2.heap.size < W2.heap.size from ⟨hlt1, hB.size, hz2⟩)
            obtain ⟨a0, a2, a3, a5⟩ := hR1c.out
            have b0 := keep_cell hB2 a0
            have b2 := keep_cell hB2 a2
            have b5 := keep_cell hB2 a5
            obtain ⟨c0, c1', -⟩ := hRX2.box.cells
            have hsp := merge_any A1 c1 A2 c2 m K cs W2 hRX2.hm
            have hokp := Lib.hid (Ok.merge hE)
            rw [hE] at hsp
            clear hE
            generalize mrgM m K cs = m' at *
            replace hsp := Lib.hid hsp
            have hBW2 := Lib.hid hB2
            have hxf := Lib.hid hx
            rw [← hW2] at b0 b2 b5 c0 c1'
            have hW2f := Lib.hid hW2
            clear hG hB hx hB2 hz2 hRX2 hlt1 a0 a2 a3 a5 hmv r0 r2 r3 r5 p0 p1 p0' p1' hW2
            go_wp2_with (fail)
            rw [hW2f.out]
            refine hsp.out.mono ?_
            rintro e w3 ⟨D1, d1, D2, d2, rfl, hG3, hB3⟩
            have hx3 := hxf.out.below hB3
            obtain ⟨z0, z1, z2, z3⟩ := hx3.cells
            have hBX := below2 (i := 0) (j := 1) (b := w2.heap.size) (trans0 hBW2.out hB3) hlow1.out.2.1 (.slice D1 m'.cs.length d1) (.slice D2 m'.ns.length d2)
            have hRX := Lib.hid (hR1.out.below hBX)
            have hGX := Lib.hid (hG3.set2 (b := w2.heap.size) hlow1.out.2.2 (.slice D1 m'.cs.length d1) (.slice D2 m'.ns.length d2))
            have hlow := Lib.hid (show b7 < W2.heap.size by have := hlow1.out; omega)
            obtain ⟨x0, x1, -⟩ := (hx3.put (.slice D1 m'.cs.length d1) (.slice D2 m'.ns.length d2)).cells
            clear hG3 hB3 hx3 hBX hsp b0 b2 b5 c0 c1' hxf
            have hRp := hRX.out.put hGX.out (by have := hlow.out; omega) hokp.out
            obtain ⟨y0, y1, -⟩ := hRp.box.cells
            obtain ⟨s0, s1, s2, s3⟩ := hRX.out.box.cells
            have how := Lib.hid (owner_any D1 d1 D2 d2 m' key _ hRp.hm)
            have hown := Lib.hid (hRp.ok.owner_in key)
            obtain ⟨X4, hX4⟩ : ∃ X4, (((w3.setCell ⟨w2.heap.size, 0, none⟩ (.slice D1 m'.cs.length d1)).setCell ⟨w2.heap.size, 1, none⟩ (.slice D2 m'.ns.length d2)).setCell ⟨b7, 0, none⟩ (.slice D1 m'.cs.length d1)).setCell ⟨b7, 1, none⟩ (.slice D2 m'.ns.length d2) = X4 := ⟨_, rfl⟩
            rw [hX4] at hRp how
            replace hRp := Lib.hid hRp
            have hX4f := Lib.hid hX4
            clear hX4
            go_wp2_with (fail)
            rw [hX4f.out]
            refine how.out.mono ?_
            rintro e X5 ⟨rfl, hB5⟩
            have hR5 := hRp.out.below hB5
            obtain ⟨x0, x1, -⟩ := hR5.box.cells
            have hck := check_any D1 d1 D2 d2 m' K X5 hR5.hm
            rw [(chk_iff m' K).2 hR5.ok] at hck
            replace hck := Lib.hid hck
            replace hR5 := Lib.hid hR5
            obtain ⟨ho1, ho2⟩ := hown.out
            generalize own m' key = o at *
            clear hB5 y0 y1 hown how hRp
            go_wp2_with (fail)
            refine hck.out.mono ?_
            rintro e X6 ⟨rfl, hB6⟩
            have hR6 := Lib.hid (hR5.out.below hB6)
            clear hB6 x0 x1 hck hR5
            go_wp2
            go_roundw
            case rel => exact ⟨j + 1, m', _, _, _, _, by omega, by omega, by go_num, hR6⟩
            case measure => simp [intOf]; omega
          · go_wp2_with (fail)
            rw [hW1f.out]
            generalize movE m K cs cn = E0 at *
            generalize movM m K cs cn = mq at *
            refine hmv.out.mono ?_
            rintro e w2 ⟨D0, d0, F0, g0, rfl, hG, hB⟩
            obtain ⟨W2, hW2⟩ : ∃ W2, w2.alloc (.cells #[.slice D0 mq.cs.length d0, .slice F0 mq.ns.length g0] 25) = W2 := ⟨_, rfl⟩
            have hx := B2.new w2 (.slice D0 mq.cs.length d0) (.slice F0 mq.ns.length g0)
            have hB2 := trans0 hB (al0 w2 (.cells #[.slice D0 mq.cs.length d0, .slice F0 mq.ns.length g0] 25))
            have hz2 : w2.heap.size < (w2.alloc (.cells #[.slice D0 mq.cs.length d0, .slice F0 mq.ns.length g0] 25)).heap.size := by simp
            rw [hW2] at hx hB2 hz2
            have hRX2 := hR1.out.below hB2
            have hlt1 := hR1.out.box.lt
            have hlow1 := Lib.hid (show b7 < W1.heap.size ∧ W1.heap.size ≤ w2.heap.size ∧ w2.heap.size < W2.heap.size from ⟨hlt1, hB.size, hz2⟩)
            obtain ⟨a0, a2, a3, a5⟩ := hR1c.out
            have b0 := keep_cell hB2 a0
            have b2 := keep_cell hB2 a2
            have b5 := keep_cell hB2 a5
            obtain ⟨c0, c1', -⟩ := hRX2.box.cells
            have hsp := merge_any A1 c1 A2 c2 m K cs W2 hRX2.hm
            have hne : ((mrgE m K cs : Int) == 0) = false := by rw [beq_eq_false_iff_ne]; omega
            have hnn : mrgM m K cs = non := by unfold mrgM; rw [if_neg hE]
            rw [hnn] at hsp
            clear hE hnn
            generalize mrgE m K cs = E at *
            replace hsp := Lib.hid hsp
            have hBW2 := Lib.hid hB2
            have hxf := Lib.hid hx
            rw [← hW2] at b0 b2 b5 c0 c1'
            have hW2f := Lib.hid hW2
            clear hG hB hx hB2 hz2 hRX2 hlt1 a0 a2 a3 a5 hmv r0 r2 r3 r5 p0 p1 p0' p1' hW2
            go_wp2_with (fail)
            rw [hW2f.out]
            refine hsp.out.mono ?_
            rintro e w3 ⟨D1, d1, D2, d2, rfl, hG3, hB3⟩
            have hx3 := hxf.out.below hB3
            obtain ⟨z0, z1, z2, z3⟩ := hx3.cells
            have hBX := below2 (i := 0) (j := 1) (b := w2.heap.size) (trans0 hBW2.out hB3) hlow1.out.2.1 (.slice D1 non.cs.length d1) (.slice D2 non.ns.length d2)
            have hRX := Lib.hid (hR1.out.below hBX)
            have hGX := Lib.hid (hG3.set2 (b := w2.heap.size) hlow1.out.2.2 (.slice D1 non.cs.length d1) (.slice D2 non.ns.length d2))
            have hlow := Lib.hid (show b7 < W2.heap.size by have := hlow1.out; omega)
            obtain ⟨x0, x1, -⟩ := (hx3.put (.slice D1 non.cs.length d1) (.slice D2 non.ns.length d2)).cells
            clear hG3 hB3 hx3 hBX hsp b0 b2 b5 c0 c1' hxf
            have hRp := hRX.out
            obtain ⟨y0, y1, -⟩ := hRp.box.cells
            have how := Lib.hid (owner_any A1 c1 A2 c2 m key _ hRp.hm)
            have hown := Lib.hid (hRp.ok.owner_in key)
            replace hRp := Lib.hid hRp
            go_wp2_with (fail)
            refine how.out.mono ?_
            rintro e X5 ⟨rfl, hB5⟩
            have hR5 := hRp.out.below hB5
            obtain ⟨x0, x1, -⟩ := hR5.box.cells
            have hck := check_any A1 c1 A2 c2 m K X5 hR5.hm
            rw [(chk_iff m K).2 hR5.ok] at hck
            replace hck := Lib.hid hck
            replace hR5 := Lib.hid hR5
            obtain ⟨ho1, ho2⟩ := hown.out
            generalize own m key = o at *
            clear hB5 y0 y1 hown how hRp
            go_wp2_with (fail)
            refine hck.out.mono ?_
            rintro e X6 ⟨rfl, hB6⟩
            have hR6 := Lib.hid (hR5.out.below hB6)
            clear hB6 x0 x1 hck hR5
            go_wp2
            go_roundw
            case rel => exact ⟨j + 1, m, _, _, _, _, by omega, by omega, by go_num, hR6⟩
            case measure => simp [intOf]; omega
        · have hb3 : (ck == 3) = false := beq_eq_false_iff_ne.2 hk3
          have hb4 : (ck == 4) = false := beq_eq_false_iff_ne.2 hk4
          clear hk3 hk4
          by_cases hE : movE m K cs cn = 0
          · go_wp2_with (fail)
            rw [hW1f.out]
            have hokp0 := Ok.move hE
            rw [hE] at hmv
            clear hE
            generalize movM m K cs cn = m' at *
            refine hmv.out.mono ?_
            rintro e w2 ⟨D1, d1, D2, d2, rfl, hG, hB⟩
            obtain ⟨W2, hW2⟩ : ∃ W2, w2.alloc (.cells #[.slice D1 m'.cs.length d1, .slice D2 m'.ns.length d2] 25) = W2 := ⟨_, rfl⟩
            have hx := B2.new w2 (.slice D1 m'.cs.length d1) (.slice D2 m'.ns.length d2)
            have hG2 := hG.below (al0 w2 (.cells #[.slice D1 m'.cs.length d1, .slice D2 m'.ns.length d2] 25))
            have hB2 := trans0 hB (al0 w2 (.cells #[.slice D1 m'.cs.length d1, .slice D2 m'.ns.length d2] 25))
            rw [hW2] at hx hG2 hB2
            have hRX := Lib.hid (hR1.out.below hB2)
            have hlow := Lib.hid hR1.out.box.lt
            obtain ⟨a0, a2, a3, a5⟩ := hR1c.out
            have b0 := keep_cell hB2 a0
            obtain ⟨x0, x1, -⟩ := hx.cells
            have hGX := Lib.hid hG2
            have hokp := Lib.hid hokp0
            clear hokp0
            obtain ⟨c0, c1', -⟩ := hRX.out.box.cells
            rw [← hW2] at b0 x0 x1 c0 c1'
            obtain ⟨z0, z1, z2, z3⟩ := hRX.out.box.cells
            rw [← hW2] at z0 z1 z2 z3
            have hW2f := Lib.hid hW2
            rw [← hW2] at hRX hGX
            clear z0 z1
            clear hG hB hx hG2 hB2 a0 a2 a3 a5 hmv r0 r2 r3 r5 p0 p1 p0' p1' hW2
            have hRp := hRX.out.put hGX.out (by have := hlow.out; omega) hokp.out
            obtain ⟨y0, y1, -⟩ := hRp.box.cells
            obtain ⟨s0, s1, s2, s3⟩ := hRX.out.box.cells
            have how := Lib.hid (owner_any D1 d1 D2 d2 m' key _ hRp.hm)
            have hown := Lib.hid (hRp.ok.owner_in key)
            obtain ⟨X4, hX4⟩ : ∃ X4, ((w2.alloc (.cells #[.slice D1 m'.cs.length d1, .slice D2 m'.ns.length d2] 25)).setCell ⟨b7, 0, none⟩ (.slice D1 m'.cs.length d1)).setCell ⟨b7, 1, none⟩ (.slice D2 m'.ns.length d2) = X4 := ⟨_, rfl⟩
            rw [hX4] at hRp how
            replace hRp := Lib.hid hRp
            have hX4f := Lib.hid hX4
            clear hX4
            go_wp2_with (fail)
            rw [hX4f.out]
            refine how.out.mono ?_
            rintro e X5 ⟨rfl, hB5⟩
            have hR5 := hRp.out.below hB5
            obtain ⟨x0, x1, -⟩ := hR5.box.cells
            have hck := check_any D1 d1 D2 d2 m' K X5 hR5.hm
            rw [(chk_iff m' K).2 hR5.ok] at hck
            replace hck := Lib.hid hck
            replace hR5 := Lib.hid hR5
            obtain ⟨ho1, ho2⟩ := hown.out
            generalize own m' key = o at *
            clear hB5 y0 y1 hown how hRp
            go_wp2_with (fail)
            refine hck.out.mono ?_
            rintro e X6 ⟨rfl, hB6⟩
            have hR6 := Lib.hid (hR5.out.below hB6)
            clear hB6 x0 x1 hck hR5
            go_wp2
            go_roundw
            case rel => exact ⟨j + 1, m', _, _, _, _, by omega, by omega, by go_num, hR6⟩
            case measure => simp [intOf]; omega
          · go_wp2_with (fail)
            rw [hW1f.out]
            have hne : ((movE m K cs cn : Int) == 0) = false := by rw [beq_eq_false_iff_ne]; omega
            have hnn : movM m K cs cn = non := by unfold movM; rw [if_neg hE]
            rw [hnn] at hmv
            clear hE
            clear hnn
            generalize movE m K cs cn = E at *
            refine hmv.out.mono ?_
            rintro e w2 ⟨D1, d1, D2, d2, rfl, hG, hB⟩
            obtain ⟨W2, hW2⟩ : ∃ W2, w2.alloc (.cells #[.slice D1 non.cs.length d1, .slice D2 non.ns.length d2] 25) = W2 := ⟨_, rfl⟩
            have hx := B2.new w2 (.slice D1 non.cs.length d1) (.slice D2 non.ns.length d2)
            have hG2 := hG.below (al0 w2 (.cells #[.slice D1 non.cs.length d1, .slice D2 non.ns.length d2] 25))
            have hB2 := trans0 hB (al0 w2 (.cells #[.slice D1 non.cs.length d1, .slice D2 non.ns.length d2] 25))
            rw [hW2] at hx hG2 hB2
            have hRX := Lib.hid (hR1.out.below hB2)
            have hlow := Lib.hid hR1.out.box.lt
            obtain ⟨a0, a2, a3, a5⟩ := hR1c.out
            have b0 := keep_cell hB2 a0
            obtain ⟨x0, x1, -⟩ := hx.cells
            have hGX := Lib.hid hG2
            obtain ⟨c0, c1', -⟩ := hRX.out.box.cells
            rw [← hW2] at b0 x0 x1 c0 c1'
            rw [← hW2] at hRX hGX
            clear hG hB hx hG2 hB2 a0 a2 a3 a5 hmv r0 r2 r3 r5 p0 p1 p0' p1' hW2
            have hRp := hRX.out
            obtain ⟨y0, y1, -⟩ := hRp.box.cells
            have how := Lib.hid (owner_any A1 c1 A2 c2 m key _ hRp.hm)
            have hown := Lib.hid (hRp.ok.owner_in key)
            replace hRp := Lib.hid hRp
            go_wp2_with (fail)
            refine how.out.mono ?_
            rintro e X5 ⟨rfl, hB5⟩
            have hR5 := hRp.out.below hB5
            obtain ⟨x0, x1, -⟩ := hR5.box.cells
            have hck := check_any A1 c1 A2 c2 m K X5 hR5.hm
            rw [(chk_iff m K).2 hR5.ok] at hck
            replace hck := Lib.hid hck
            replace hR5 := Lib.hid hR5
            obtain ⟨ho1, ho2⟩ := hown.out
            generalize own m key = o at *
            clear hB5 y0 y1 hown how hRp
            go_wp2_with (fail)
            refine hck.out.mono ?_
            rintro e X6 ⟨rfl, hB6⟩
            have hR6 := Lib.hid (hR5.out.below hB6)
            clear hB6 x0 x1 hck hR5
            go_wp2
            go_roundw
            case rel => exact ⟨j + 1, m, _, _, _, _, by omega, by omega, by go_num, hR6⟩
            case measure => simp [intOf]; omega
    · have hout : j = n ∨ (j < n ∧ j = 60) := by omega
      have hBf := Lib.hid hR.out.bel
      clear hlt hR hl
      rcases hout with rfl | ⟨h1, rfl⟩
      · go_wp2_with (go_at_call 11; ((with_reducible refine (awake_any _).mono ?_); rintro e w' ⟨rfl, hBa⟩))
        go_ret
        exact ⟨rfl, trans0 hBf.out hBa⟩
      · have h1' : (60 : Int) < (n : Int) := by omega
        go_wp2_with (go_at_call 11; ((with_reducible refine (awake_any _).mono ?_); rintro e w' ⟨rfl, hBa⟩))
        go_ret
        exact ⟨rfl, trans0 hBf.out hBa⟩
end Go.Proofs.Ytihaapjobkpdcaa.spnV
