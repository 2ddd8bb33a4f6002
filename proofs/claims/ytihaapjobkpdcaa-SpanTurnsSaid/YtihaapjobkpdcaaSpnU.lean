/- SpanTurns. -/
import Derived.Test.YtihaapjobkpdcaaSpnT
set_option linter.unusedVariables false
namespace Go.Proofs.Ytihaapjobkpdcaa.spnU
open Go.ChangeShapes Go.WideShapes Go.ChangeAt Go.RowKit
open spnM spnA spnB spnC spnN spnP spnD spnE spnF spnH spnI spnJ spnQ spnR spnS spnT
attribute [local go_sem high] bin_slt bin_sle bin_sge bin_seq bin_sne

/-- three boxes -/
abbrev SL3 (b b' b'' : Nat) (u v u' v' u'' v'' : Value) (w : World) : Prop := (w.cell? ⟨b, 0, none⟩ = some u ∧ w.cell? ⟨b, 1, none⟩ = some v) ∧ (w.cell? ⟨b', 0, none⟩ = some u' ∧ w.cell? ⟨b', 1, none⟩ = some v') ∧ (w.cell? ⟨b'', 0, none⟩ = some u'' ∧ w.cell? ⟨b'', 1, none⟩ = some v'')
theorem sl3_of {b c1 c2 b' c1' c2' b'' c1'' c2'' : Nat} {A1 A2 A1' A2' A1'' A2'' : Option Addr} {m m' m'' : M} {W : World} (h : MB b A1 c1 A2 c2 m W) (h' : MB b' A1' c1' A2' c2' m' W) (h'' : MB b'' A1'' c1'' A2'' c2'' m'' W) :
    SL3 b b' b'' (.slice A1 m.cs.length c1) (.slice A2 m.ns.length c2) (.slice A1' m'.cs.length c1') (.slice A2' m'.ns.length c2') (.slice A1'' m''.cs.length c1'') (.slice A2'' m''.ns.length c2'') W := ⟨⟨h.p0, h.p1⟩, ⟨h'.p0, h'.p1⟩, h''.p0, h''.p1⟩
set_option maxRecDepth 100000 in
set_option maxHeartbeats 2000000 in
theorem turns (A1 : Option Addr) (c1 : Nat) (A2 : Option Addr) (c2 : Nat) (m : M) (k i : Int) (at_ key : ByteArray) (w : World) (h : HM w A1 c1 A2 c2 m) :
    Calls Try.prog 7 #[.agg #[.slice A1 m.cs.length c1, .slice A2 m.ns.length c2], .int .i64 k, .int .i64 i, .string at_, .string key] w fun e w' => e = .returned (.bool true) ∧ Below w.heap.size w w' := by
  have hb := MB.new h
  have hal := al0 w (.cells #[.slice A1 m.cs.length c1, .slice A2 m.ns.length c2] 25)
  obtain ⟨W, hW⟩ : ∃ W, w.alloc (.cells #[.slice A1 m.cs.length c1, .slice A2 m.ns.length c2] 25) = W := ⟨_, rfl⟩
  rw [hW] at hal hb
  have hmv := Lib.hid (split_any A1 c1 A2 c2 m k i at_ W hb.hm)
  have hms := h.s2
  replace hb := Lib.hid hb
  replace hal := Lib.hid hal
  replace hW := Lib.hid hW
  clear h
  by_cases hE : splE m k i at_ = 0
  · have how := split_owner hE key
    have hfi := split_find hE
    obtain ⟨hmE, hmM⟩ := merge_split hE
    have hsm := Lib.hid (sm_spl m k i at_)
    obtain ⟨hok, hi0, hi1, -⟩ := splE_zero hE
    have hlen : (splM m k i at_).ns.length = m.ns.length + 1 := by
      unfold splM
      rw [if_pos hE]
      exact insA_len _ _ _ (by omega)
    have hn8 := hok.n8
    have hsmm := Lib.hid (sm_ok hok)
    rw [hE] at hmv
    obtain ⟨j, rfl⟩ : ∃ j : Nat, i = j := ⟨i.toNat, by omega⟩
    rw [show ((j : Int)).toNat = j from rfl] at hfi hi1
    clear hE hok hi0
    generalize splM m k j at_ = m' at *
    have how' := Lib.hid how
    have hfi' := Lib.hid hfi
    have hmE' := Lib.hid hmE
    have hmM' := Lib.hid hmM
    have hlb : ((m'.ns.length : Int) == (m.ns.length : Int) + 1) = true := by rw [beq_iff_eq]; omega
    have hwj := wrap_in ((j : Int) + 1) (by omega) (by omega)
    have hwl := wrap_in ((m.ns.length : Int) + 1) (by omega) (by omega)
    have hsum := Lib.hid (show IntKind.i64.wrap ((j : Int) + 1) = (j : Int) + 1 ∧ IntKind.i64.wrap ((m.ns.length : Int) + 1) = (m.ns.length : Int) + 1 from ⟨hwj, hwl⟩)
    clear how hfi hmE hmM hlen hwj hwl hi1
    go_enter Try.func7, Try.ntmps7
    go_wp2_with (fail)
    rw [hW.out]
    refine hmv.out.mono ?_
    rintro e w1 ⟨D1, d1, D2, d2, rfl, hG, hB⟩
    obtain ⟨W1, hW1⟩ : ∃ W1, w1.alloc (.cells #[.slice D1 m'.cs.length d1, .slice D2 m'.ns.length d2] 25) = W1 := ⟨_, rfl⟩
    have hx := MB.new (GM.hms hG hsm.out)
    have hB1 := trans0 hB (al0 w1 (.cells #[.slice D1 m'.cs.length d1, .slice D2 m'.ns.length d2] 25))
    rw [hW1] at hx hB1
    have hm1 := Lib.hid (hb.out.below hB1)
    have hmg := merge_any D1 d1 D2 d2 m' k j W1 hx.hm
    rw [hmE'.out, hmM'.out] at hmg
    replace hmg := Lib.hid hmg
    have hB1' := Lib.hid (trans0 hal.out hB1)
    obtain ⟨p0, p1⟩ : W1.cell? ⟨w1.heap.size, 0, none⟩ = some (.slice D1 m'.cs.length d1) ∧ W1.cell? ⟨w1.heap.size, 1, none⟩ = some (.slice D2 m'.ns.length d2) := ⟨hx.p0, hx.p1⟩
    rw [← hW1] at p0 p1
    replace hx := Lib.hid hx
    replace hW1 := Lib.hid hW1
    clear hG hB hmv hB1
    go_wp2_with (fail)
    rw [hW1.out]
    refine hmg.out.mono ?_
    rintro e w2 ⟨F1, f1, F2, f2, rfl, hG, hB⟩
    obtain ⟨W2, hW2⟩ : ∃ W2, w2.alloc (.cells #[.slice F1 m.cs.length f1, .slice F2 m.ns.length f2] 25) = W2 := ⟨_, rfl⟩
    have hy := MB.new (GM.hms hG hsmm.out)
    have hB2 := trans0 hB (al0 w2 (.cells #[.slice F1 m.cs.length f1, .slice F2 m.ns.length f2] 25))
    rw [hW2] at hy hB2
    have hx2 := hx.out.below hB2
    have hm2 := hm1.out.below hB2
    have hB2' := Lib.hid (trans0 hB1'.out hB2)
    have hS := Lib.hid (show ∀ w', Below W2.heap.size W2 w' → _ from fun w' hw => sl3_of (hm2.below hw) (hx2.below hw) (hy.below hw))
    have hSd := Lib.hid (hS.out W2.drew (below_drew W2))
    have kA := Lib.hid (up_awake W2)
    have kS := Lib.hid (show Up 30 #[.agg #[.slice A1 m.cs.length c1, .slice A2 m.ns.length c2], .agg #[.slice F1 m.cs.length f1, .slice F2 m.ns.length f2]] (.returned (.bool true)) W2 from up_of fun w' hw => same_any A1 c1 A2 c2 F1 f1 F2 f2 m w' (hm2.below hw).hm (hy.below hw).hm)
    have kO := Lib.hid (show Up 20 #[.agg #[.slice A1 m.cs.length c1, .slice A2 m.ns.length c2], .string key] (.returned (.int .i64 (own m key))) W2 from up_of fun w' hw => owner_any A1 c1 A2 c2 m key w' (hm2.below hw).hm)
    have kP := Lib.hid (show Up 20 #[.agg #[.slice D1 m'.cs.length d1, .slice D2 m'.ns.length d2], .string key] (.returned (.int .i64 (own m key))) W2 from up_of fun w' hw => by
      have := owner_any D1 d1 D2 d2 m' key w' (hx2.below hw).hm
      rw [how'.out] at this
      exact this)
    have kF := Lib.hid (show Up 18 #[.agg #[.slice D1 m'.cs.length d1, .slice D2 m'.ns.length d2], .string at_] (.returned (.int .i64 ((j : Int) + 1))) W2 from up_of fun w' hw => by
      have := find_any D1 d1 (.slice D2 m'.ns.length d2) m'.cs at_ w' (hx2.below hw).hm.cs (by have := hx2.hm.s1; omega)
      rw [hfi'.out] at this
      exact this)
    replace hW2 := Lib.hid hW2
    obtain ⟨hs1, hs2⟩ := hsum.out
    clear hG hB hB2 hmg p0 p1 hx2 hm2 hx hm1 hy hms
    generalize own m key = o at *
    go_wp2
    rw [hW2.out]
    go_region_held3 (SL3 w.heap.size w1.heap.size w2.heap.size (.slice A1 m.cs.length c1) (.slice A2 m.ns.length c2) (.slice D1 m'.cs.length d1) (.slice D2 m'.ns.length d2) (.slice F1 m.cs.length f1) (.slice F2 m.ns.length f2))
      (first | with_reducible exact hSd.out | with_reducible assumption | with_reducible exact hS.out _ (by assumption) | fail)
      (first
        | (go_at_call 11; ((with_reducible refine (kA.out _ (by first | assumption | exact (Below.refl _ _).drew)).mono ?_); rintro e w' ⟨rfl, hBx⟩))
        | (go_at_call 30; ((with_reducible refine (kS.out _ (by first | assumption | exact (Below.refl _ _).drew)).mono ?_); rintro e w' ⟨rfl, hBx⟩))
        | (go_at_call 20; ((with_reducible refine (kO.out _ (by first | assumption | exact (Below.refl _ _).drew)).mono ?_); rintro e w' ⟨rfl, hBx⟩))
        | (go_at_call 20; ((with_reducible refine (kP.out _ (by first | assumption | exact (Below.refl _ _).drew)).mono ?_); rintro e w' ⟨rfl, hBx⟩))
        | (go_at_call 18; ((with_reducible refine (kF.out _ (by first | assumption | exact (Below.refl _ _).drew)).mono ?_); rintro e w' ⟨rfl, hBx⟩)) | fail)
    all_goals
      clear hs1 hs2
      go_wp2
      go_ret
      exact ⟨rfl, hB2'.out.trans (Below.mono (by assumption) hB2'.out.size)⟩
  · have hnn : splM m k i at_ = non := by unfold splM; rw [if_neg hE]
    have hne : ((splE m k i at_ : Int) != 0) = true := by rw [bne_iff_ne]; omega
    rw [hnn] at hmv
    clear hE hnn
    generalize splE m k i at_ = E at *
    go_enter Try.func7, Try.ntmps7
    go_wp2_with (fail)
    rw [hW.out]
    refine hmv.out.mono ?_
    rintro e w1 ⟨D1, d1, D2, d2, rfl, hG, hB⟩
    obtain ⟨W1, hW1⟩ : ∃ W1, w1.alloc (.cells #[.slice D1 0 d1, .slice D2 0 d2] 25) = W1 := ⟨_, rfl⟩
    have hx : MB w1.heap.size D1 d1 D2 d2 non (w1.alloc (.cells #[.slice D1 0 d1, .slice D2 0 d2] 25)) := MB.new (GM.hms hG sm_non)
    have hB1 := trans0 hB (al0 w1 (.cells #[.slice D1 0 d1, .slice D2 0 d2] 25))
    rw [hW1] at hx hB1
    have hB1' := Lib.hid (trans0 hal.out hB1)
    replace hx := Lib.hid hx
    replace hW1 := Lib.hid hW1
    clear hG hB hmv hB1
    simp only [non, List.length_nil]
    go_wp2_with (fail)
    rw [hW1.out]
    refine (awake_any W1).mono ?_
    rintro e w4 ⟨rfl, hB4⟩
    have hx4 := hx.out.below hB4
    obtain ⟨q0, q1, -⟩ := hx4
    simp only [non, List.length_nil] at q0 q1
    have hB4' := Lib.hid (trans0 hB1'.out hB4)
    clear hB4
    go_wp2
    go_ret
    exact ⟨rfl, hB4'.out⟩
end Go.Proofs.Ytihaapjobkpdcaa.spnU
