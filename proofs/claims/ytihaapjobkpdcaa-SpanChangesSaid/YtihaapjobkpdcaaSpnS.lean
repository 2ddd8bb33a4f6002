/- A map's box in a law; SpanMoves. -/
import Derived.Test.YtihaapjobkpdcaaSpnR
import Derived.Test.YtihaapjobkpdcaaSpnJ
import Derived.Test.YtihaapjobkpdcaaSpnK
set_option linter.unusedVariables false
namespace Go.Proofs.Ytihaapjobkpdcaa.spnS
open Go.ChangeShapes Go.WideShapes Go.ChangeAt Go.RowKit
open spnM spnA spnB spnC spnN spnP spnD spnE spnF spnH spnI spnJ spnK spnQ spnR
attribute [local go_sem high] bin_slt bin_sle bin_sge bin_seq bin_sne

/-- a map in a box -/
structure MB (b : Nat) (A1 : Option Addr) (c1 : Nat) (A2 : Option Addr) (c2 : Nat) (m : M) (W : World) : Prop where
  p0 : W.cell? ⟨b, 0, none⟩ = some (.slice A1 m.cs.length c1)
  p1 : W.cell? ⟨b, 1, none⟩ = some (.slice A2 m.ns.length c2)
  hm : HM W A1 c1 A2 c2 m
theorem MB.below {b c1 c2 : Nat} {A1 A2 : Option Addr} {m : M} {W W' : World} (h : MB b A1 c1 A2 c2 m W) (hB : Below W.heap.size W W') : MB b A1 c1 A2 c2 m W' := ⟨keep_cell hB h.p0, keep_cell hB h.p1, h.hm.below hB⟩
theorem MB.lt {b c1 c2 : Nat} {A1 A2 : Option Addr} {m : M} {W : World} (h : MB b A1 c1 A2 c2 m W) : b < W.heap.size := World.block_lt_of_cell? _ _ h.p0
theorem MB.sl {b c1 c2 : Nat} {A1 A2 : Option Addr} {m : M} {W : World} (h : MB b A1 c1 A2 c2 m W) : SL b (.slice A1 m.cs.length c1) (.slice A2 m.ns.length c2) W := ⟨h.p0, h.p1, h.lt⟩
theorem MB.new {c1 c2 : Nat} {A1 A2 : Option Addr} {m : M} {w : World} (h : HM w A1 c1 A2 c2 m) : MB w.heap.size A1 c1 A2 c2 m (w.alloc (.cells #[.slice A1 m.cs.length c1, .slice A2 m.ns.length c2] 25)) :=
  ⟨(cells2 w _ _ _).1, (cells2 w _ _ _).2, h.below (al0 _ _)⟩
/-- small maps -/
def Sm (m : M) : Prop := m.cs.length ≤ 8 ∧ m.ns.length ≤ 8
theorem sm_ok {m : M} {k : Int} (h : Ok m k) : Sm m := ⟨by have := h.n8; have := h.nc; omega, h.n8⟩
theorem sm_non : Sm non := ⟨Nat.zero_le _, Nat.zero_le _⟩
theorem sm_spl (m : M) (k i : Int) (key : ByteArray) : Sm (splM m k i key) := by
  by_cases h : splE m k i key = 0
  · exact sm_ok (Ok.split h)
  · unfold splM; rw [if_neg h]; exact sm_non
theorem sm_mrg (m : M) (k i : Int) : Sm (mrgM m k i) := by
  by_cases h : mrgE m k i = 0
  · exact sm_ok (Ok.merge h)
  · unfold mrgM; rw [if_neg h]; exact sm_non
theorem sm_mov (m : M) (k i n : Int) : Sm (movM m k i n) := by
  by_cases h : movE m k i n = 0
  · exact sm_ok (Ok.move h)
  · unfold movM; rw [if_neg h]; exact sm_non
theorem GM.hms {w : World} {base c1 c2 : Nat} {A1 A2 : Option Addr} {m : M} (h : GM w base A1 c1 A2 c2 m) (hs : Sm m) : HM w A1 c1 A2 c2 m := h.hm (by have := hs.1; omega) (by have := hs.2; omega)
set_option maxRecDepth 100000 in
set_option maxHeartbeats 1000000 in
theorem moves (A1 : Option Addr) (c1 : Nat) (A2 : Option Addr) (c2 : Nat) (m : M) (k i nn : Int) (key : ByteArray) (w : World) (h : HM w A1 c1 A2 c2 m) :
    Calls Try.prog 8 #[.agg #[.slice A1 m.cs.length c1, .slice A2 m.ns.length c2], .int .i64 k, .int .i64 i, .int .i64 nn, .string key] w fun e w' => e = .returned (.bool true) ∧ Below w.heap.size w w' := by
  have hb := MB.new h
  have hal := al0 w (.cells #[.slice A1 m.cs.length c1, .slice A2 m.ns.length c2] 25)
  obtain ⟨W, hW⟩ : ∃ W, w.alloc (.cells #[.slice A1 m.cs.length c1, .slice A2 m.ns.length c2] 25) = W := ⟨_, rfl⟩
  rw [hW] at hal hb
  have hmv := Lib.hid (move_any A1 c1 A2 c2 m k i nn W hb.hm)
  replace hb := Lib.hid hb
  replace hal := Lib.hid hal
  replace hW := Lib.hid hW
  clear h
  by_cases hE : movE m k i nn = 0
  · have how := Lib.hid (move_owner hE key)
    have hsm := Lib.hid (sm_mov m k i nn)
    rw [hE] at hmv
    clear hE
    generalize movM m k i nn = m' at *
    go_enter Try.func8, Try.ntmps8
    go_wp2_with (fail)
    rw [hW.out]
    refine hmv.out.mono ?_
    rintro e w1 ⟨D1, d1, D2, d2, rfl, hG, hB⟩
    obtain ⟨W1, hW1⟩ : ∃ W1, w1.alloc (.cells #[.slice D1 m'.cs.length d1, .slice D2 m'.ns.length d2] 25) = W1 := ⟨_, rfl⟩
    have hx := MB.new (GM.hms hG hsm.out)
    have hB1 := trans0 hB (al0 w1 (.cells #[.slice D1 m'.cs.length d1, .slice D2 m'.ns.length d2] 25))
    rw [hW1] at hx hB1
    have hm1 := hb.out.below hB1
    obtain ⟨p0, p1, hm1'⟩ := id hm1
    have how1 := Lib.hid (owner_any A1 c1 A2 c2 m key W1 hm1')
    have hB1' := Lib.hid (trans0 hal.out hB1)
    replace hW1 := Lib.hid hW1
    replace hx := Lib.hid hx
    replace hm1 := Lib.hid hm1
    clear hG hB hmv hm1' hB1 p0 p1
    obtain ⟨p0, p1⟩ : W1.cell? ⟨w.heap.size, 0, none⟩ = some (.slice A1 m.cs.length c1) ∧ W1.cell? ⟨w.heap.size, 1, none⟩ = some (.slice A2 m.ns.length c2) := ⟨hm1.out.p0, hm1.out.p1⟩
    rw [← hW1.out] at p0 p1
    go_wp2_with (fail)
    rw [hW1.out]
    refine how1.out.mono ?_
    rintro e w2 ⟨rfl, hB2⟩
    have hm2 := hm1.out.below hB2
    have hx2 := hx.out.below hB2
    have hf2 := Lib.hid (find_any A1 c1 (.slice A2 m.ns.length c2) m.cs key w2 hm2.hm.cs (by have := hm2.hm.s1; omega))
    obtain ⟨q0, q1, -⟩ := id hm2
    have hB2' := Lib.hid (trans0 hB1'.out hB2)
    replace hx2 := Lib.hid hx2
    clear hB2 hm2 p0 p1 hx hm1 how1 hW1
    go_wp2_with (fail)
    refine hf2.out.mono ?_
    rintro e w3 ⟨rfl, hB3⟩
    have hx3 := Lib.hid (hx2.out.below hB3)
    have hB3' := Lib.hid (trans0 hB2'.out hB3)
    clear hB3 q0 q1 hx2 hf2
    by_cases hfi : (fnd m.cs key : Int) = i
    · have hfb : ((fnd m.cs key : Int) == i) = true := by rw [beq_iff_eq]; exact hfi
      have ho' : Hid (own m' key = nn) := Lib.hid (by rw [how.out, if_pos hfi])
      clear hfi how
      generalize fnd m.cs key = F at *
      go_wp2_with (fail)
      refine (awake_any w3).mono ?_
      rintro e w4 ⟨rfl, hB4⟩
      have hx4 := hx3.out.below hB4
      have hoo := owner_any D1 d1 D2 d2 m' key w4 hx4.hm
      rw [ho'.out] at hoo
      replace hoo := Lib.hid hoo
      obtain ⟨q0, q1, -⟩ := hx4
      have hB4' := Lib.hid (trans0 hB3'.out hB4)
      clear hB4
      go_wp2_with (go_at_call 20; ((with_reducible refine (hoo.out).mono ?_); rintro e w' ⟨rfl, hB5⟩))
      go_ret
      exact ⟨by simp, trans0 hB4'.out hB5⟩
    · have hfb : ((fnd m.cs key : Int) == i) = false := by rw [beq_eq_false_iff_ne]; exact hfi
      have ho' : Hid (own m' key = own m key) := Lib.hid (by rw [how.out, if_neg hfi])
      clear hfi how
      generalize fnd m.cs key = F at *
      go_wp2_with (fail)
      refine (awake_any w3).mono ?_
      rintro e w4 ⟨rfl, hB4⟩
      have hx4 := hx3.out.below hB4
      have hoo := owner_any D1 d1 D2 d2 m' key w4 hx4.hm
      rw [ho'.out] at hoo
      replace hoo := Lib.hid hoo
      obtain ⟨q0, q1, -⟩ := hx4
      have hB4' := Lib.hid (trans0 hB3'.out hB4)
      clear hB4
      go_wp2_with (go_at_call 20; ((with_reducible refine (hoo.out).mono ?_); rintro e w' ⟨rfl, hB5⟩))
      go_ret
      exact ⟨by simp, trans0 hB4'.out hB5⟩
  · have hnn : movM m k i nn = non := by unfold movM; rw [if_neg hE]
    have hne : ((movE m k i nn : Int) != 0) = true := by rw [bne_iff_ne]; omega
    rw [hnn] at hmv
    clear hE hnn
    generalize movE m k i nn = E at *
    go_enter Try.func8, Try.ntmps8
    go_wp2_with (fail)
    rw [hW.out]
    refine hmv.out.mono ?_
    rintro e w1 ⟨D1, d1, D2, d2, rfl, hG, hB⟩
    obtain ⟨W1, hW1⟩ : ∃ W1, w1.alloc (.cells #[.slice D1 0 d1, .slice D2 0 d2] 25) = W1 := ⟨_, rfl⟩
    have hx : MB w1.heap.size D1 d1 D2 d2 non (w1.alloc (.cells #[.slice D1 0 d1, .slice D2 0 d2] 25)) := MB.new (GM.hms hG sm_non)
    have hB1 := trans0 hB (al0 w1 (.cells #[.slice D1 0 d1, .slice D2 0 d2] 25))
    rw [hW1] at hx hB1
    have hB1' := Lib.hid (trans0 hal.out hB1)
    replace hx := Lib.hid hx
    replace hW1 := Lib.hid hW1
    clear hG hB hmv hB1
    simp only [non, List.length_nil]
    go_wp2_with (fail)
    rw [hW1.out]
    refine (awake_any W1).mono ?_
    rintro e w4 ⟨rfl, hB4⟩
    have hx4 := hx.out.below hB4
    obtain ⟨q0, q1, -⟩ := hx4
    simp only [non, List.length_nil] at q0 q1
    have hB4' := Lib.hid (trans0 hB1'.out hB4)
    clear hB4
    go_wp2
    go_ret
    exact ⟨rfl, hB4'.out⟩
end Go.Proofs.Ytihaapjobkpdcaa.spnS
