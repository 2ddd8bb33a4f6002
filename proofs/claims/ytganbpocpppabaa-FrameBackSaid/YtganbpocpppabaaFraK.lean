/- The walk of the statement FrameBack. -/
import Derived.Test.YtganbpocpppabaaFraJ
namespace Go.Proofs.Ytganbpocpppabaa.fraK
open Go.ChangeShapes Go.WideShapes Go.ChangeAt Go.RowKit Go.Deep
open numM numN rowA byt numA numB numC numD fraM fraB fraC fraD fraE fraG fraH fraI fraJ

set_option maxRecDepth 100000 in
set_option maxHeartbeats 1000000 in
theorem backs (f : Fm) (A : Option Addr) (c m : Nat) (w : World) (hb : BL w A f.body.length f.body) (hm : m < 256) :
    Calls Try.prog 5 #[.agg (cf f A c), .int .u8 m] w fun e w' => e = .returned (.bool true) ∧ Below w.heap.size w w' := by
  obtain ⟨i0, hi, hz0, hz1, hz2⟩ := info_parts bytes8
  have hF := Lib.hid (FB.new w f A c)
  have hW := Lib.hid (al0 w (.cells (cf f A c) 24))
  have hb0 := Lib.hid (hb.below hW.out)
  clear hb
  go_enter Try.func5, Try.ntmps5
  go_wp2_with (fail)
  generalize w.alloc (.cells (cf f A c) 24) = W at *
  refine (pack_any f A c W hb0.out).mono ?_
  rintro e w1 ⟨A1, c1, rfl, ho1, hB1⟩
  have hl1 := Lib.hid (own_bl ho1)
  obtain ⟨_, _, e0, hcl, hc9, _, _, _⟩ := ho1.form
  cases e0
  have hF1 := Lib.hid (hF.out.below hB1)
  have hb1 := Lib.hid (hb0.out.below hB1)
  have hW1 := Lib.hid (trans0 hW.out hB1)
  clear ho1 hB1 hW hF hb0
  by_cases hE : pkE f = 0
  · have hne : ((pkE f : Int) != 0) = false := by rw [bne_eq_false_iff_eq]; omega
    have hok := pkE_ok hE
    have hbk := Lib.hid (un_back hok.1 hok.2.1 hb1.out.2.2.1)
    have hmo := Lib.hid (un_more hok.1 hok.2.1 hb1.out.2.2.1 m)
    have hln := pk_len f
    have hll : (pk f).length ≤ 1048597 := by omega
    have hpL : Hid (pkL f = pk f) := Lib.hid hok.2.2
    rw [hpL.out] at hl1 hcl ⊢
    replace hE := Lib.hid hE
    clear hln hok
    go_wp2_with (fail)
    refine (unpack_any A1 (pk f).length c1 (pk f) w1 hl1.out hcl hc9).mono ?_
    rintro e w2 ⟨A2, c2, rfl, ho2, hB2⟩
    rw [hbk.out.1, hbk.out.2]
    rw [hbk.out.2] at ho2
    have hg2 := Lib.hid (own_bl ho2)
    have hF2 := Lib.hid (hF1.out.below hB2)
    have hb2 := Lib.hid (hb1.out.below hB2)
    have hl2 := Lib.hid (hl1.out.below hB2)
    have hW2 := Lib.hid (trans0 hW1.out hB2)
    clear ho2 hB2 hF1 hb1 hl1 hW1
    have hal := Lib.hid (al0 w2 (.cells (cf f A2 c2) 24))
    have hG3 := Lib.hid (FB.new w2 f A2 c2)
    have hF3 := Lib.hid (hF2.out.alloc (.cells (cf f A2 c2) 24))
    have hb3 := Lib.hid (hb2.out.below hal.out)
    have hg3 := Lib.hid (hg2.out.below hal.out)
    have hl3 := Lib.hid (hl2.out.below hal.out)
    have hW3 := Lib.hid (trans0 hW2.out hal.out)
    clear hF2 hb2 hl2 hW2 hg2 hal
    go_wp2_with (fail)
    generalize w2.alloc (.cells (cf f A2 c2) 24) = w3 at *
    refine (pack_any f A2 c2 w3 hg3.out).mono ?_
    rintro e w4 ⟨A4, c4, rfl, ho4, hB4⟩
    rw [hpL.out, hE.out]
    rw [hpL.out] at ho4
    have hc4 := Lib.hid (own_bl ho4)
    have hF4 := Lib.hid (hF3.out.below hB4)
    have hG4 := Lib.hid (hG3.out.below hB4)
    have hb4 := Lib.hid (hb3.out.below hB4)
    have hg4 := Lib.hid (hg3.out.below hB4)
    have hl4 := Lib.hid (hl3.out.below hB4)
    have hW4 := Lib.hid (trans0 hW3.out hB4)
    clear ho4 hB4 hF3 hG3 hb3 hg3 hl3 hW3
    have hmd := Lib.hid (Own.made w4 w4.heap.size (Nat.le_refl _) [] (by simp) (by simp) #[] rfl)
    have hal4 := Lib.hid (al0 w4 (.cells #[] 5))
    have hl5 := Lib.hid (hl4.out.below hal4.out)
    go_wp2_with (at_builtin; (refine wpList_app rfl _ _ 22 rfl w4.heap.size i0 Try.underlying22 hi hz0 hz1 hz2 _ 0 [] rfl hmd.out A1 (pk f).length c1 (pk f) rfl hl5.out ?d1 ?d2 ?_))
    case d1 => omega
    case d2 => simp
    intro v6 w6 hown6 hgrow6
    have hB6 := Lib.hid (Own.grown hmd.out hal4.out hgrow6 (by simp))
    have hown6' : Hid (Own w6 w4.heap.size v6 (pk f).length (pk f)) := Lib.hid hown6
    have hone := Lib.hid (one_byte w6 m hm)
    clear hown6 hgrow6 hmd hal4 hl5
    go_wp2_with (at_builtin; (refine wpList_app rfl _ _ 22 rfl w4.heap.size i0 Try.underlying22 hi hz0 hz1 hz2 _ (pk f).length (pk f) rfl (hown6'.out.alloc _) (some ⟨w6.heap.size, 0, none⟩) 1 1 [m] rfl hone.out ?e1 ?e2 ?_))
    case e1 => omega
    case e2 => have := hB6.out.size; simp; omega
    intro v7 w7 hown7 hgrow7
    have hB7 := Lib.hid (Own.grown (hown6'.out.alloc (.cells #[.int .u8 m] 5)) (hB6.out.alloc hB6.out.size (.cells #[.int .u8 m] 5)) hgrow7 (by have := hB6.out.size; simp; omega))
    obtain ⟨A7, c7, rfl, h71, h72, _, _, hb7⟩ := hown7.form
    replace hb7 := Lib.hid hb7
    have hF7 := Lib.hid (hF4.out.below hB7.out)
    have hG7 := Lib.hid (hG4.out.below hB7.out)
    have hf7 := Lib.hid (hb4.out.below hB7.out)
    have hg7 := Lib.hid (hg4.out.below hB7.out)
    have hl7 := Lib.hid (hl4.out.below hB7.out)
    have hc7 := Lib.hid (hc4.out.below hB7.out)
    have hW7 := Lib.hid (trans0 hW4.out hB7.out)
    clear hown7 hgrow7 hB6 hown6' hone hB7 hF4 hG4 hb4 hg4 hl4 hc4 hW4
    go_wp2_with (fail)
    refine (unpack_any A7 ((pk f).length + 1) c7 (pk f ++ [m]) w7 hb7.out h71 h72).mono ?_
    rintro e w8 ⟨A8, c8, rfl, ho8, hB8⟩
    rw [hmo.out]
    have hB9 := Lib.hid (trans0 hB8 (al0 w8 (.cells (cf (unF (pk f ++ [m])) A8 c8) 24)))
    have hF9 := Lib.hid (hF7.out.below hB9.out)
    have hG9 := Lib.hid (hG7.out.below hB9.out)
    have hf9 := Lib.hid (hf7.out.below hB9.out)
    have hg9 := Lib.hid (hg7.out.below hB9.out)
    have hl9 := Lib.hid (hl7.out.below hB9.out)
    have hk9 := Lib.hid (hc7.out.below hB9.out)
    have hW9 := Lib.hid (trans0 hW7.out hB9.out)
    clear hB8 ho8 hb7 hB9 hF7 hG7 hf7 hg7 hl7 hc7 hW7 h71 h72
    go_wp2_with (fail)
    generalize w8.alloc (.cells (cf (unF (pk f ++ [m])) A8 c8) 24) = w9 at *
    refine (awake_any w9).mono ?_
    rintro e w10 ⟨rfl, hBa⟩
    have hF10 := hF9.out.below hBa
    have hG10 := hG9.out.below hBa
    have hf10 := Lib.hid (hf9.out.below hBa)
    have hg10 := Lib.hid (hg9.out.below hBa)
    have hl10 := Lib.hid (hl9.out.below hBa)
    have hk10 := Lib.hid (hk9.out.below hBa)
    have hW10 := Lib.hid (trans0 hW9.out hBa)
    obtain ⟨q0, q1, q2, q3, q4⟩ := hF10.cells
    obtain ⟨r0, r1, r2, r3, r4⟩ := hG10.cells
    clear hBa hF9 hG9 hf9 hg9 hl9 hk9 hW9 hF10 hG10
    go_wp2_with (fail)
    refine (same5 f A c A2 c2 w10 hf10.out hg10.out).mono ?_
    rintro e w11 ⟨rfl, hBs⟩
    have hl11 := Lib.hid (hl10.out.below hBs)
    have hk11 := Lib.hid (hk10.out.below hBs)
    have hW11 := Lib.hid (trans0 hW10.out hBs)
    clear hBs q0 q1 q2 q3 q4 r0 r1 r2 r3 r4
    go_wp2_with (fail)
    refine (same_any A1 (pk f).length c1 (pk f) A4 (pk f).length c4 w11 hl11.out hk11.out).mono ?_
    rintro e w12 ⟨rfl, rfl⟩
    go_wp2
    go_ret
    exact ⟨rfl, hW11.out⟩
  · have hne : ((pkE f : Int) != 0) = true := by rw [bne_iff_ne]; omega
    have hnil := pkE_no hE
    rw [hnil]
    replace hl1 := 0
    replace hcl := 0
    go_wp2_with (fail)
    refine (awake_any w1).mono ?_
    rintro e w3 ⟨rfl, hB3⟩
    have hW3 := Lib.hid (trans0 hW1.out hB3)
    clear hB3
    go_wp2
    go_ret
    exact ⟨rfl, hW3.out⟩
end Go.Proofs.Ytganbpocpppabaa.fraK
