/- WireApart: two messages with nothing wrong; any two. -/
import Derived.Test.YtkbhmeajgmecoaaWirV
namespace Go.Proofs.Ytkbhmeajgmecoaa.wirW
open Go.ChangeShapes Go.WideShapes Go.ChangeAt Go.RowKit
open numM numN rowA byt numA numB numC numD numE wirM wirA wirB wirD wirE wirF wirG wirL wirH wirI wirJ wirK wirN wirP wirQ wirR wirS wirT wirU wirV
set_option maxRecDepth 100000 in
set_option maxHeartbeats 1000000 in
theorem ap5 (a b : Ms) (t u : At) (w : World) (ha : HM w a t) (hb : HM w b u) (h1 : a.vers.length ≤ 6000 ∧ a.vec.length ≤ 6000) (h2 : b.vers.length ≤ 6000 ∧ b.vec.length ≤ 6000) (h3 : chk a = 0) (h4 : chk b = 0) :
    Calls Try.prog 8 #[.agg (cm a t), .agg (cm b u)] w (Yes w) := by
  replace h1 := Lib.hid h1
  replace h2 := Lib.hid h2
  have ka := Lib.hid (mok_of ha h3)
  have kb := Lib.hid (mok_of hb h4)
  replace h3 := Lib.hid h3
  replace h4 := Lib.hid h4
  have hS := Lib.hid (S2.new a b t u w)
  have hB := Lib.hid (trans0 (alloc_below w (.cells (cm a t) 28)) (alloc_below _ (.cells (cm b u) 28)))
  replace ha := Lib.hid (ha.below hB.out)
  replace hb := Lib.hid (hb.below hB.out)
  go_enter Try.func8, Try.ntmps8
  go_upto_region 1 with fail
  generalize ((w.alloc (.cells (cm a t) 28)).alloc (.cells (cm b u) 28)) = W at *
  obtain ⟨⟨s0, s1, s2, s3, s4, s5, s6, s7, s8, s9, s10, s11, s12, s13, s14⟩, ⟨r0, r1, r2, r3, r4, r5, r6, r7, r8, r9, r10, r11, r12, r13, r14⟩⟩ := hS.out
  go_wp2_with (fail)
  refine (great_no a t _ h1.out.1 h1.out.2).mono ?_
  rintro e w1a ⟨rfl, hB1a⟩
  replace hS := Lib.hid (hS.out.below hB1a)
  replace ha := Lib.hid (ha.out.below hB1a)
  replace hb := Lib.hid (hb.out.below hB1a)
  replace hB := Lib.hid (trans0 hB.out hB1a)
  clear s0 s1 s2 s3 s4 s5 s6 s7 s8 s9 s10 s11 s12 s13 s14 r0 r1 r2 r3 r4 r5 r6 r7 r8 r9 r10 r11 r12 r13 r14 hB1a
  obtain ⟨⟨s0, s1, s2, s3, s4, s5, s6, s7, s8, s9, s10, s11, s12, s13, s14⟩, ⟨r0, r1, r2, r3, r4, r5, r6, r7, r8, r9, r10, r11, r12, r13, r14⟩⟩ := hS.out
  go_wp2_with (fail)
  refine (great_no b u _ h2.out.1 h2.out.2).mono ?_
  rintro e w1b ⟨rfl, hB1b⟩
  replace hS := Lib.hid (hS.out.below hB1b)
  replace ha := Lib.hid (ha.out.below hB1b)
  replace hb := Lib.hid (hb.out.below hB1b)
  replace hB := Lib.hid (trans0 hB.out hB1b)
  clear s0 s1 s2 s3 s4 s5 s6 s7 s8 s9 s10 s11 s12 s13 s14 r0 r1 r2 r3 r4 r5 r6 r7 r8 r9 r10 r11 r12 r13 r14 hB1b
  obtain ⟨⟨s0, s1, s2, s3, s4, s5, s6, s7, s8, s9, s10, s11, s12, s13, s14⟩, ⟨r0, r1, r2, r3, r4, r5, r6, r7, r8, r9, r10, r11, r12, r13, r14⟩⟩ := hS.out
  go_wp2_with (fail)
  refine (chk0 a t _ ha.out h3.out).mono ?_
  rintro e w1c ⟨rfl, hB1c⟩
  replace hS := Lib.hid (hS.out.below hB1c)
  replace ha := Lib.hid (ha.out.below hB1c)
  replace hb := Lib.hid (hb.out.below hB1c)
  replace hB := Lib.hid (trans0 hB.out hB1c)
  clear s0 s1 s2 s3 s4 s5 s6 s7 s8 s9 s10 s11 s12 s13 s14 r0 r1 r2 r3 r4 r5 r6 r7 r8 r9 r10 r11 r12 r13 r14 hB1c
  obtain ⟨⟨s0, s1, s2, s3, s4, s5, s6, s7, s8, s9, s10, s11, s12, s13, s14⟩, ⟨r0, r1, r2, r3, r4, r5, r6, r7, r8, r9, r10, r11, r12, r13, r14⟩⟩ := hS.out
  go_wp2_with (fail)
  refine (chk0 b u _ hb.out h4.out).mono ?_
  rintro e w1d ⟨rfl, hB1d⟩
  replace hS := Lib.hid (hS.out.below hB1d)
  replace ha := Lib.hid (ha.out.below hB1d)
  replace hb := Lib.hid (hb.out.below hB1d)
  replace hB := Lib.hid (trans0 hB.out hB1d)
  clear s0 s1 s2 s3 s4 s5 s6 s7 s8 s9 s10 s11 s12 s13 s14 r0 r1 r2 r3 r4 r5 r6 r7 r8 r9 r10 r11 r12 r13 r14 hB1d
  obtain ⟨⟨s0, s1, s2, s3, s4, s5, s6, s7, s8, s9, s10, s11, s12, s13, s14⟩, ⟨r0, r1, r2, r3, r4, r5, r6, r7, r8, r9, r10, r11, r12, r13, r14⟩⟩ := hS.out
  go_wp2_with (fail)
  go_loopw [5] (fun i wr => ∃ v : Int, (v = 1 ∨ v = 2 ∨ v = 3) ∧ i = .int .i64 v ∧ Hid (Below w1d.heap.size w1d wr)) (fun i _ => (3 - intOf i).toNat)
  case atStart => exact ⟨1, .inl rfl, rfl, Lib.hid (Below.refl _ _)⟩
  case round =>
    obtain ⟨v, hv, rfl, hBr⟩ := hrel
    replace hS := Lib.hid (hS.out.below hBr.out)
    replace ha := Lib.hid (ha.out.below hBr.out)
    replace hb := Lib.hid (hb.out.below hBr.out)
    replace hB := Lib.hid (trans0 hB.out hBr.out)
    clear s0 s1 s2 s3 s4 s5 s6 s7 s8 s9 s10 s11 s12 s13 s14 r0 r1 r2 r3 r4 r5 r6 r7 r8 r9 r10 r11 r12 r13 r14
    by_cases h9 : v = 3
    · subst h9
      go_wp2_with (fail)
      refine (awake_any _).mono ?_
      rintro e w9 ⟨rfl, hB9⟩
      go_wp2
      go_ret
      exact ⟨rfl, trans0 hB.out hB9⟩
    · have hv2 : v = 1 ∨ v = 2 := by omega
      clear h9 hv
      have hle : decide (v ≤ 2) = true := decide_eq_true (by omega)
      have hadd : IntKind.i64.wrap (v + 1) = v + 1 := by rcases hv2 with rfl | rfl <;> rfl
      have hm9 : (3 - (v + 1)).toNat < (3 - v).toNat := by omega
      have hv3 : v + 1 = 1 ∨ v + 1 = 2 ∨ v + 1 = 3 := by omega
      replace hm9 := Lib.hid hm9
      replace hv3 := Lib.hid hv3
      have hbi : decide (body v a = body v b) = decide (a = b) := by
        rw [decide_eq_decide]
        exact ⟨fun h => body_inj ka.out kb.out hv2 h, fun h => by rw [h]⟩
      replace hbi := Lib.hid hbi
      replace hv2 := Lib.hid hv2
      obtain ⟨⟨s0, s1, s2, s3, s4, s5, s6, s7, s8, s9, s10, s11, s12, s13, s14⟩, ⟨r0, r1, r2, r3, r4, r5, r6, r7, r8, r9, r10, r11, r12, r13, r14⟩⟩ := hS.out
      go_wp2_with (fail)
      refine (enc_ok v a t _ ha.out hv2.out h3.out).mono ?_
      rintro e x1 ⟨A, c1, rfl, ho, hB1⟩
      have hl1 := Lib.hid (own_bl ho)
      replace hS := Lib.hid (hS.out.below hB1)
      replace ha := Lib.hid (ha.out.below hB1)
      replace hb := Lib.hid (hb.out.below hB1)
      replace hB := Lib.hid (trans0 hB.out hB1)
      replace hBr := Lib.hid (trans0 hBr.out hB1)
      clear s0 s1 s2 s3 s4 s5 s6 s7 s8 s9 s10 s11 s12 s13 s14 r0 r1 r2 r3 r4 r5 r6 r7 r8 r9 r10 r11 r12 r13 r14 hB1 ho
      obtain ⟨⟨s0, s1, s2, s3, s4, s5, s6, s7, s8, s9, s10, s11, s12, s13, s14⟩, ⟨r0, r1, r2, r3, r4, r5, r6, r7, r8, r9, r10, r11, r12, r13, r14⟩⟩ := hS.out
      go_wp2_with (fail)
      refine (enc_ok v b u _ hb.out hv2.out h4.out).mono ?_
      rintro e x2 ⟨B, c2, rfl, ho, hB1⟩
      have hl2 := Lib.hid (own_bl ho)
      replace hl1 := Lib.hid (hl1.out.below hB1)
      replace hS := Lib.hid (hS.out.below hB1)
      replace ha := Lib.hid (ha.out.below hB1)
      replace hb := Lib.hid (hb.out.below hB1)
      replace hB := Lib.hid (trans0 hB.out hB1)
      replace hBr := Lib.hid (trans0 hBr.out hB1)
      clear s0 s1 s2 s3 s4 s5 s6 s7 s8 s9 s10 s11 s12 s13 s14 r0 r1 r2 r3 r4 r5 r6 r7 r8 r9 r10 r11 r12 r13 r14 hB1 ho
      obtain ⟨r, hr⟩ : ∃ r, decide (a = b) = r := ⟨_, rfl⟩
      rw [hr] at hbi
      have k3 : ∀ w' : World, Below x2.heap.size x2 w' → Calls Try.prog 16 #[.slice A (body v a).length c1, .slice B (body v b).length c2] w' fun e w'' => e = .returned (.bool r) ∧ w' = w'' := by
        intro w' hw'
        rw [← hbi.out]
        exact same3 _ _ _ _ _ _ _ _ w' (hl1.out.below hw') (hl2.out.below hw')
      have k4 : ∀ w' : World, Below x2.heap.size x2 w' → Calls Try.prog 21 #[.agg (cm a t), .agg (cm b u)] w' (Tells w' r) := by
        intro w' hw'
        rw [← hr]
        exact same_any a b t u w' (ha.out.below hw') (hb.out.below hw')
      replace k3 := Lib.hid k3
      replace k4 := Lib.hid k4
      clear hbi hr
      obtain ⟨⟨s0, s1, s2, s3, s4, s5, s6, s7, s8, s9, s10, s11, s12, s13, s14⟩, ⟨r0, r1, r2, r3, r4, r5, r6, r7, r8, r9, r10, r11, r12, r13, r14⟩⟩ := hS.out
      go_wp2_with (fail)
      generalize (body v a).length = n1 at *
      generalize (body v b).length = n2 at *
      go_region_held3 (S2 w.heap.size (w.heap.size + 1) a b t u)
        (first | exact hS.out | assumption | exact S2.below (by assumption) (by assumption))
        (first
          | (go_at_call 16; ((with_reducible refine (k3.out _ (by first | exact (Below.refl _ _).drew | exact trans0 (Below.refl _ _).drew (by assumption))).mono ?_); rintro e w' ⟨rfl, rfl⟩))
          | (go_at_call 21; ((with_reducible refine (k4.out _ (by first | exact (Below.refl _ _).drew | exact trans0 (Below.refl _ _).drew (by assumption))).mono ?_); rintro e w' ⟨rfl, hB4⟩)))
      all_goals
        rename_i hB4 _
        have hBn := Lib.hid (trans0 hBr.out (trans0 (Below.refl _ _).drew hB4))
        clear s0 s1 s2 s3 s4 s5 s6 s7 s8 s9 s10 s11 s12 s13 s14 r0 r1 r2 r3 r4 r5 r6 r7 r8 r9 r10 r11 r12 r13 r14
        repeat (rename S2 _ _ _ _ _ _ _ => hq; clear hq)
        try clear hS
        clear hB4 hBr ha hb hB
        go_wp2
        go_roundw
        case rel => exact ⟨v + 1, hv3.out, by go_num, hBn⟩
        case measure => simpa [intOf, hadd] using hm9.out

theorem apart (a b : Ms) (t u : At) (w : World) (ha : HM w a t) (hb : HM w b u) :
    Calls Try.prog 8 #[.agg (cm a t), .agg (cm b u)] w fun e w' => e = .returned (.bool true) ∧ Below w.heap.size w w' := by
  by_cases h1 : 6000 < a.vers.length ∨ 6000 < a.vec.length
  · exact ap1 a b t u w ha hb h1
  by_cases h2 : 6000 < b.vers.length ∨ 6000 < b.vec.length
  · exact ap2 a b t u w ha hb (by omega) h2
  by_cases h3 : chk a = 0
  · by_cases h4 : chk b = 0
    · exact ap5 a b t u w ha hb (by omega) (by omega) h3 h4
    · exact ap4 a b t u w ha hb (by omega) (by omega) h3 h4
  · exact ap3 a b t u w ha hb (by omega) (by omega) h3
end Go.Proofs.Ytkbhmeajgmecoaa.wirW
