/- WireApart: two messages that aren't the same have bodies that aren't the same. -/
import Derived.Test.YtkbhmeajgmecoaaWirT
import Derived.Test.YtkbhmeajgmecoaaWirU
import Derived.Deep.RegionHeld
namespace Go.Proofs.Ytkbhmeajgmecoaa.wirV
open Go.ChangeShapes Go.WideShapes Go.ChangeAt Go.RowKit
open numM numN rowA byt numA numB numC numD numE wirM wirA wirB wirD wirE wirF wirG wirL wirH wirI wirJ wirK wirN wirP wirQ wirR wirS wirT wirU

theorem str_iff {l k : List Nat} (hl : ∀ c ∈ l, c < 256) (hk : ∀ c ∈ k, c < 256) : strOf l = strOf k ↔ l = k := by
  constructor
  · intro h
    have := congrArg sl h
    rwa [sl_str hl, sl_str hk] at this
  · rintro rfl; rfl
/-- Same of any bytes -/
theorem same3 (a : Option Addr) (n c : Nat) (l : List Nat) (b : Option Addr) (m d : Nat) (k : List Nat) (w : World) (h1 : BL w a n l) (h2 : BL w b m k) :
    Calls Try.prog 16 #[.slice a n c, .slice b m d] w fun e w' => e = .returned (.bool (decide (l = k))) ∧ w = w' := by
  have e1 := run_str (P := Try.prog) 31 5 9 Try.underlying31 Try.underlying5 Try.underlying9 c h1
  have e2 := run_str (P := Try.prog) 31 5 9 Try.underlying31 Try.underlying5 Try.underlying9 d h2
  have hq : decide (strOf l = strOf k) = decide (l = k) := by rw [decide_eq_decide]; exact str_iff h1.lt h2.lt
  rw [← hq]
  clear h1 h2 hq
  generalize strOf l = s at *
  generalize strOf k = s' at *
  go_enter Try.func16, Try.ntmps16
  go_wp2
  go_ret
  refine ⟨ret_eq (congrArg Value.bool ?_), rfl⟩
  rw [Bool.eq_iff_iff]
  simp [tl_inj]

theorem mok_of {w : World} {m : Ms} {t : At} (h : HM w m t) (hc : chk m = 0) : mok m := by
  obtain ⟨f, -, -⟩ := h
  obtain ⟨-, f1, f2, f3, -, -, f4, f5, -⟩ := f
  exact ⟨chk_ok.1 hc, f1, f2, f3, fun v hv => (f4 v hv).2.2.1, f5⟩

abbrev Yes (w : World) (e : Ending) (w' : World) : Prop := e = .returned (.bool true) ∧ Below w.heap.size w w'
/-- both messages' cells -/
abbrev S2 (c d : Nat) (a b : Ms) (t u : At) (w : World) : Prop := SM c a t w ∧ SM d b u w
theorem S2.below {c d : Nat} {a b : Ms} {t u : At} {w w1 : World} (h : S2 c d a b t u w) (hB : Below w.heap.size w w1) : S2 c d a b t u w1 := ⟨SM.below h.1 hB, SM.below h.2 hB⟩
theorem S2.new (a b : Ms) (t u : At) (w : World) : S2 w.heap.size (w.heap.size + 1) a b t u ((w.alloc (.cells (cm a t) 28)).alloc (.cells (cm b u) 28)) := by
  have h2 := SM.new (w.alloc (.cells (cm a t) 28)) b u
  have hs1 : (w.alloc (.cells (cm a t) 28)).heap.size = w.heap.size + 1 := by simp
  rw [hs1] at h2
  exact ⟨SM.alloc (SM.new w a t) _, h2⟩
theorem chk0 (m : Ms) (t : At) (w : World) (h : HM w m t) (hc : chk m = 0) : Calls Try.prog 17 #[.agg (cm m t)] w fun e w' => e = .returned (.int .i64 0) ∧ Below w.heap.size w w' := by
  have := check_any m t w h
  rw [hc] at this
  exact this
set_option maxRecDepth 100000 in
set_option maxHeartbeats 1000000 in
theorem ap1 (a b : Ms) (t u : At) (w : World) (ha : HM w a t) (hb : HM w b u) (h1 : 6000 < a.vers.length ∨ 6000 < a.vec.length) :
    Calls Try.prog 8 #[.agg (cm a t), .agg (cm b u)] w (Yes w) := by
  replace h1 := Lib.hid h1
  have hS := Lib.hid (S2.new a b t u w)
  have hB := Lib.hid (trans0 (alloc_below w (.cells (cm a t) 28)) (alloc_below _ (.cells (cm b u) 28)))
  replace ha := Lib.hid (ha.below hB.out)
  replace hb := Lib.hid (hb.below hB.out)
  go_enter Try.func8, Try.ntmps8
  go_upto_region 1 with fail
  generalize ((w.alloc (.cells (cm a t) 28)).alloc (.cells (cm b u) 28)) = W at *
  obtain ⟨⟨s0, s1, s2, s3, s4, s5, s6, s7, s8, s9, s10, s11, s12, s13, s14⟩, ⟨r0, r1, r2, r3, r4, r5, r6, r7, r8, r9, r10, r11, r12, r13, r14⟩⟩ := hS.out
  go_wp2_with (fail)
  refine (great_yes a t _ h1.out).mono ?_
  rintro e w1a ⟨rfl, hB1a⟩
  replace hS := Lib.hid (hS.out.below hB1a)
  replace ha := Lib.hid (ha.out.below hB1a)
  replace hb := Lib.hid (hb.out.below hB1a)
  replace hB := Lib.hid (trans0 hB.out hB1a)
  clear s0 s1 s2 s3 s4 s5 s6 s7 s8 s9 s10 s11 s12 s13 s14 r0 r1 r2 r3 r4 r5 r6 r7 r8 r9 r10 r11 r12 r13 r14 hB1a
  obtain ⟨⟨s0, s1, s2, s3, s4, s5, s6, s7, s8, s9, s10, s11, s12, s13, s14⟩, ⟨r0, r1, r2, r3, r4, r5, r6, r7, r8, r9, r10, r11, r12, r13, r14⟩⟩ := hS.out
  go_wp2_with (fail)
  refine (awake_any _).mono ?_
  rintro e w9 ⟨rfl, hB9⟩
  go_wp2
  go_ret
  exact ⟨rfl, trans0 hB.out hB9⟩
set_option maxRecDepth 100000 in
set_option maxHeartbeats 1000000 in
theorem ap2 (a b : Ms) (t u : At) (w : World) (ha : HM w a t) (hb : HM w b u) (h1 : a.vers.length ≤ 6000 ∧ a.vec.length ≤ 6000) (h2 : 6000 < b.vers.length ∨ 6000 < b.vec.length) :
    Calls Try.prog 8 #[.agg (cm a t), .agg (cm b u)] w (Yes w) := by
  replace h1 := Lib.hid h1
  replace h2 := Lib.hid h2
  have hS := Lib.hid (S2.new a b t u w)
  have hB := Lib.hid (trans0 (alloc_below w (.cells (cm a t) 28)) (alloc_below _ (.cells (cm b u) 28)))
  replace ha := Lib.hid (ha.below hB.out)
  replace hb := Lib.hid (hb.below hB.out)
  go_enter Try.func8, Try.ntmps8
  go_upto_region 1 with fail
  generalize ((w.alloc (.cells (cm a t) 28)).alloc (.cells (cm b u) 28)) = W at *
  obtain ⟨⟨s0, s1, s2, s3, s4, s5, s6, s7, s8, s9, s10, s11, s12, s13, s14⟩, ⟨r0, r1, r2, r3, r4, r5, r6, r7, r8, r9, r10, r11, r12, r13, r14⟩⟩ := hS.out
  go_wp2_with (fail)
  refine (great_no a t _ h1.out.1 h1.out.2).mono ?_
  rintro e w1a ⟨rfl, hB1a⟩
  replace hS := Lib.hid (hS.out.below hB1a)
  replace ha := Lib.hid (ha.out.below hB1a)
  replace hb := Lib.hid (hb.out.below hB1a)
  replace hB := Lib.hid (trans0 hB.out hB1a)
  clear s0 s1 s2 s3 s4 s5 s6 s7 s8 s9 s10 s11 s12 s13 s14 r0 r1 r2 r3 r4 r5 r6 r7 r8 r9 r10 r11 r12 r13 r14 hB1a
  obtain ⟨⟨s0, s1, s2, s3, s4, s5, s6, s7, s8, s9, s10, s11, s12, s13, s14⟩, ⟨r0, r1, r2, r3, r4, r5, r6, r7, r8, r9, r10, r11, r12, r13, r14⟩⟩ := hS.out
  go_wp2_with (fail)
  refine (great_yes b u _ h2.out).mono ?_
  rintro e w1b ⟨rfl, hB1b⟩
  replace hS := Lib.hid (hS.out.below hB1b)
  replace ha := Lib.hid (ha.out.below hB1b)
  replace hb := Lib.hid (hb.out.below hB1b)
  replace hB := Lib.hid (trans0 hB.out hB1b)
  clear s0 s1 s2 s3 s4 s5 s6 s7 s8 s9 s10 s11 s12 s13 s14 r0 r1 r2 r3 r4 r5 r6 r7 r8 r9 r10 r11 r12 r13 r14 hB1b
  obtain ⟨⟨s0, s1, s2, s3, s4, s5, s6, s7, s8, s9, s10, s11, s12, s13, s14⟩, ⟨r0, r1, r2, r3, r4, r5, r6, r7, r8, r9, r10, r11, r12, r13, r14⟩⟩ := hS.out
  go_wp2_with (fail)
  refine (awake_any _).mono ?_
  rintro e w9 ⟨rfl, hB9⟩
  go_wp2
  go_ret
  exact ⟨rfl, trans0 hB.out hB9⟩
set_option maxRecDepth 100000 in
set_option maxHeartbeats 1000000 in
theorem ap3 (a b : Ms) (t u : At) (w : World) (ha : HM w a t) (hb : HM w b u) (h1 : a.vers.length ≤ 6000 ∧ a.vec.length ≤ 6000) (h2 : b.vers.length ≤ 6000 ∧ b.vec.length ≤ 6000) (h3 : ¬ chk a = 0) :
    Calls Try.prog 8 #[.agg (cm a t), .agg (cm b u)] w (Yes w) := by
  have hne : ((chk a : Int) != 0) = true := by rw [bne_iff_ne]; omega
  clear h3
  replace h1 := Lib.hid h1
  replace h2 := Lib.hid h2
  have hS := Lib.hid (S2.new a b t u w)
  have hB := Lib.hid (trans0 (alloc_below w (.cells (cm a t) 28)) (alloc_below _ (.cells (cm b u) 28)))
  replace ha := Lib.hid (ha.below hB.out)
  replace hb := Lib.hid (hb.below hB.out)
  go_enter Try.func8, Try.ntmps8
  go_upto_region 1 with fail
  generalize ((w.alloc (.cells (cm a t) 28)).alloc (.cells (cm b u) 28)) = W at *
  obtain ⟨⟨s0, s1, s2, s3, s4, s5, s6, s7, s8, s9, s10, s11, s12, s13, s14⟩, ⟨r0, r1, r2, r3, r4, r5, r6, r7, r8, r9, r10, r11, r12, r13, r14⟩⟩ := hS.out
  go_wp2_with (fail)
  refine (great_no a t _ h1.out.1 h1.out.2).mono ?_
  rintro e w1a ⟨rfl, hB1a⟩
  replace hS := Lib.hid (hS.out.below hB1a)
  replace ha := Lib.hid (ha.out.below hB1a)
  replace hb := Lib.hid (hb.out.below hB1a)
  replace hB := Lib.hid (trans0 hB.out hB1a)
  clear s0 s1 s2 s3 s4 s5 s6 s7 s8 s9 s10 s11 s12 s13 s14 r0 r1 r2 r3 r4 r5 r6 r7 r8 r9 r10 r11 r12 r13 r14 hB1a
  obtain ⟨⟨s0, s1, s2, s3, s4, s5, s6, s7, s8, s9, s10, s11, s12, s13, s14⟩, ⟨r0, r1, r2, r3, r4, r5, r6, r7, r8, r9, r10, r11, r12, r13, r14⟩⟩ := hS.out
  go_wp2_with (fail)
  refine (great_no b u _ h2.out.1 h2.out.2).mono ?_
  rintro e w1b ⟨rfl, hB1b⟩
  replace hS := Lib.hid (hS.out.below hB1b)
  replace ha := Lib.hid (ha.out.below hB1b)
  replace hb := Lib.hid (hb.out.below hB1b)
  replace hB := Lib.hid (trans0 hB.out hB1b)
  clear s0 s1 s2 s3 s4 s5 s6 s7 s8 s9 s10 s11 s12 s13 s14 r0 r1 r2 r3 r4 r5 r6 r7 r8 r9 r10 r11 r12 r13 r14 hB1b
  obtain ⟨⟨s0, s1, s2, s3, s4, s5, s6, s7, s8, s9, s10, s11, s12, s13, s14⟩, ⟨r0, r1, r2, r3, r4, r5, r6, r7, r8, r9, r10, r11, r12, r13, r14⟩⟩ := hS.out
  go_wp2_with (fail)
  refine (check_any a t _ ha.out).mono ?_
  rintro e w1c ⟨rfl, hB1c⟩
  replace hS := Lib.hid (hS.out.below hB1c)
  replace ha := Lib.hid (ha.out.below hB1c)
  replace hb := Lib.hid (hb.out.below hB1c)
  replace hB := Lib.hid (trans0 hB.out hB1c)
  clear s0 s1 s2 s3 s4 s5 s6 s7 s8 s9 s10 s11 s12 s13 s14 r0 r1 r2 r3 r4 r5 r6 r7 r8 r9 r10 r11 r12 r13 r14 hB1c
  obtain ⟨⟨s0, s1, s2, s3, s4, s5, s6, s7, s8, s9, s10, s11, s12, s13, s14⟩, ⟨r0, r1, r2, r3, r4, r5, r6, r7, r8, r9, r10, r11, r12, r13, r14⟩⟩ := hS.out
  go_wp2_with (fail)
  refine (awake_any _).mono ?_
  rintro e w9 ⟨rfl, hB9⟩
  go_wp2
  go_ret
  exact ⟨rfl, trans0 hB.out hB9⟩
set_option maxRecDepth 100000 in
set_option maxHeartbeats 1000000 in
theorem ap4 (a b : Ms) (t u : At) (w : World) (ha : HM w a t) (hb : HM w b u) (h1 : a.vers.length ≤ 6000 ∧ a.vec.length ≤ 6000) (h2 : b.vers.length ≤ 6000 ∧ b.vec.length ≤ 6000) (h3 : chk a = 0) (h4 : ¬ chk b = 0) :
    Calls Try.prog 8 #[.agg (cm a t), .agg (cm b u)] w (Yes w) := by
  have hne : ((chk b : Int) != 0) = true := by rw [bne_iff_ne]; omega
  clear h4
  replace h1 := Lib.hid h1
  replace h2 := Lib.hid h2
  replace h3 := Lib.hid h3
  have hS := Lib.hid (S2.new a b t u w)
  have hB := Lib.hid (trans0 (alloc_below w (.cells (cm a t) 28)) (alloc_below _ (.cells (cm b u) 28)))
  replace ha := Lib.hid (ha.below hB.out)
  replace hb := Lib.hid (hb.below hB.out)
  go_enter Try.func8, Try.ntmps8
  go_upto_region 1 with fail
  generalize ((w.alloc (.cells (cm a t) 28)).alloc (.cells (cm b u) 28)) = W at *
  obtain ⟨⟨s0, s1, s2, s3, s4, s5, s6, s7, s8, s9, s10, s11, s12, s13, s14⟩, ⟨r0, r1, r2, r3, r4, r5, r6, r7, r8, r9, r10, r11, r12, r13, r14⟩⟩ := hS.out
  go_wp2_with (fail)
  refine (great_no a t _ h1.out.1 h1.out.2).mono ?_
  rintro e w1a ⟨rfl, hB1a⟩
  replace hS := Lib.hid (hS.out.below hB1a)
  replace ha := Lib.hid (ha.out.below hB1a)
  replace hb := Lib.hid (hb.out.below hB1a)
  replace hB := Lib.hid (trans0 hB.out hB1a)
  clear s0 s1 s2 s3 s4 s5 s6 s7 s8 s9 s10 s11 s12 s13 s14 r0 r1 r2 r3 r4 r5 r6 r7 r8 r9 r10 r11 r12 r13 r14 hB1a
  obtain ⟨⟨s0, s1, s2, s3, s4, s5, s6, s7, s8, s9, s10, s11, s12, s13, s14⟩, ⟨r0, r1, r2, r3, r4, r5, r6, r7, r8, r9, r10, r11, r12, r13, r14⟩⟩ := hS.out
  go_wp2_with (fail)
  refine (great_no b u _ h2.out.1 h2.out.2).mono ?_
  rintro e w1b ⟨rfl, hB1b⟩
  replace hS := Lib.hid (hS.out.below hB1b)
  replace ha := Lib.hid (ha.out.below hB1b)
  replace hb := Lib.hid (hb.out.below hB1b)
  replace hB := Lib.hid (trans0 hB.out hB1b)
  clear s0 s1 s2 s3 s4 s5 s6 s7 s8 s9 s10 s11 s12 s13 s14 r0 r1 r2 r3 r4 r5 r6 r7 r8 r9 r10 r11 r12 r13 r14 hB1b
  obtain ⟨⟨s0, s1, s2, s3, s4, s5, s6, s7, s8, s9, s10, s11, s12, s13, s14⟩, ⟨r0, r1, r2, r3, r4, r5, r6, r7, r8, r9, r10, r11, r12, r13, r14⟩⟩ := hS.out
  go_wp2_with (fail)
  refine (chk0 a t _ ha.out h3.out).mono ?_
  rintro e w1c ⟨rfl, hB1c⟩
  replace hS := Lib.hid (hS.out.below hB1c)
  replace ha := Lib.hid (ha.out.below hB1c)
  replace hb := Lib.hid (hb.out.below hB1c)
  replace hB := Lib.hid (trans0 hB.out hB1c)
  clear s0 s1 s2 s3 s4 s5 s6 s7 s8 s9 s10 s11 s12 s13 s14 r0 r1 r2 r3 r4 r5 r6 r7 r8 r9 r10 r11 r12 r13 r14 hB1c
  obtain ⟨⟨s0, s1, s2, s3, s4, s5, s6, s7, s8, s9, s10, s11, s12, s13, s14⟩, ⟨r0, r1, r2, r3, r4, r5, r6, r7, r8, r9, r10, r11, r12, r13, r14⟩⟩ := hS.out
  go_wp2_with (fail)
  refine (check_any b u _ hb.out).mono ?_
  rintro e w1d ⟨rfl, hB1d⟩
  replace hS := Lib.hid (hS.out.below hB1d)
  replace ha := Lib.hid (ha.out.below hB1d)
  replace hb := Lib.hid (hb.out.below hB1d)
  replace hB := Lib.hid (trans0 hB.out hB1d)
  clear s0 s1 s2 s3 s4 s5 s6 s7 s8 s9 s10 s11 s12 s13 s14 r0 r1 r2 r3 r4 r5 r6 r7 r8 r9 r10 r11 r12 r13 r14 hB1d
  obtain ⟨⟨s0, s1, s2, s3, s4, s5, s6, s7, s8, s9, s10, s11, s12, s13, s14⟩, ⟨r0, r1, r2, r3, r4, r5, r6, r7, r8, r9, r10, r11, r12, r13, r14⟩⟩ := hS.out
  go_wp2_with (fail)
  refine (awake_any _).mono ?_
  rintro e w9 ⟨rfl, hB9⟩
  go_wp2
  go_ret
  exact ⟨rfl, trans0 hB.out hB9⟩

end Go.Proofs.Ytkbhmeajgmecoaa.wirV
