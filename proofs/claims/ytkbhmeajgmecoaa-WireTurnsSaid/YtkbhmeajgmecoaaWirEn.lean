/- The contract of the document's own Encode; WireEncodes. -/
import Derived.Test.YtkbhmeajgmecoaaWirY
import Derived.Test.YtkbhmeajgmecoaaWirZ
import Derived.Test.YtkbhmeajgmecoaaWirC
import Derived.Test.YtkbhmeajgmecoaaWirV
import Derived.Deep.RegionHeld
namespace Go.Proofs.Ytkbhmeajgmecoaa.wirEn
open Go.ChangeShapes Go.WideShapes Go.ChangeAt Go.RowKit
open numM numN rowA byt numA numB numC numD numE wirM wirA wirB wirC wirD wirE wirF wirG wirL wirH wirI wirJ wirK wirN wirY wirZ

set_option maxRecDepth 100000 in
theorem renc_no (v : Int) (m : Ms) (t : At) (w : World) (h1 : ¬ v = 1) (h2 : ¬ v = 2) : Calls Try.prog 15 #[.int .i64 v, .agg (cm m t)] w (Gives w [] 15) := by
  have e1 : (v != 1) = true := bne_iff_ne.2 h1
  have e2 : (v != 2) = true := bne_iff_ne.2 h2
  clear h1 h2
  go_enter Try.func15, Try.ntmps15
  go_wp2_with (fail)
  go_ret2
  exact ⟨none, 0, 0, rfl, BL.none_ _ none, alloc_below _ _⟩
set_option maxRecDepth 100000 in
set_option maxHeartbeats 1000000 in
theorem renc_bad (v : Int) (m : Ms) (t : At) (w : World) (h : HM w m t) (hv : v = 1 ∨ v = 2) (hc : chk m ≠ 0) : Calls Try.prog 15 #[.int .i64 v, .agg (cm m t)] w (Gives w [] (chk m)) := by
  have hne : ((chk m : Int) != 0) = true := by rw [bne_iff_ne]; omega
  have hS := SM.new w m t
  have hh := Lib.hid (h.below (alloc_below w (.cells (cm m t) 28)))
  obtain ⟨s0, s1, s2, s3, s4, s5, s6, s7, s8, s9, s10, s11, s12, s13, s14⟩ := hS
  have hB0 := Lib.hid (alloc_below w (.cells (cm m t) 28))
  clear hc h
  rcases hv with rfl | rfl
  all_goals
    go_enter Try.func15, Try.ntmps15
    go_wp2_with (fail)
    refine (rcheck_any m t _ hh.out).mono ?_
    rintro e w1 ⟨rfl, hB1⟩
    go_wp2
    go_ret2
    exact ⟨none, 0, 0, rfl, BL.none_ _ none, trans0 hB0.out hB1⟩
theorem rbody1 (m : Ms) (t : At) (w : World) (h : HM w m t) (hok : m.ok) : Calls Try.prog 31 #[.agg (cm m t)] w (Makes w (body 1 m)) := by
  rw [show body 1 m = elder m from if_pos rfl]; exact relder_any m t w h hok
theorem rbody2 (m : Ms) (t : At) (w : World) (h : HM w m t) (hok : m.ok) : Calls Try.prog 32 #[.agg (cm m t)] w (Makes w (body 2 m)) := by
  rw [show body 2 m = newer m from if_neg (by decide)]; exact rnewer_any m t w h hok
set_option maxRecDepth 100000 in
set_option maxHeartbeats 1000000 in
theorem renc_ok (v : Int) (m : Ms) (t : At) (w : World) (h : HM w m t) (hv : v = 1 ∨ v = 2) (hc : chk m = 0) : Calls Try.prog 15 #[.int .i64 v, .agg (cm m t)] w (Makes2 w (body v m)) := by
  have hok := Lib.hid (chk_ok.1 hc)
  have hS := Lib.hid (SM.new w m t)
  have hh := Lib.hid (h.below (alloc_below w (.cells (cm m t) 28)))
  have hB0 := Lib.hid (alloc_below w (.cells (cm m t) 28))
  have hc0 := Lib.hid hc
  clear hc h
  rcases hv with rfl | rfl
  all_goals
    obtain ⟨s0, s1, s2, s3, s4, s5, s6, s7, s8, s9, s10, s11, s12, s13, s14⟩ := hS.out
    go_enter Try.func15, Try.ntmps15
    go_wp2_with (fail)
    generalize w.alloc (.cells (cm m t) 28) = W at *
    refine (rcheck_any m t _ hh.out).mono ?_
    rintro e w1 ⟨rfl, hB1⟩
    rw [hc0.out]
    have hS1 := hS.out.below hB1
    have hh1 := Lib.hid (hh.out.below hB1)
    have hB2 := Lib.hid (trans0 hB0.out hB1)
    clear s0 s1 s2 s3 s4 s5 s6 s7 s8 s9 s10 s11 s12 s13 s14 hB1
    obtain ⟨s0, s1, s2, s3, s4, s5, s6, s7, s8, s9, s10, s11, s12, s13, s14⟩ := hS1
    go_wp2_with (fail)
    first | refine (rbody1 m t _ hh1.out hok.out).mono ?_ | refine (rbody2 m t _ hh1.out hok.out).mono ?_
    rintro e w2 ⟨A, cap, rfl, ho, hB3⟩
    go_wp2
    go_ret2
    exact Makes2.of rfl (Own.more (base' := w.heap.size) ho hB2.out.size) (trans0 hB2.out hB3)
theorem renc_any (v : Int) (m : Ms) (t : At) (w : World) (h : HM w m t) : Calls Try.prog 15 #[.int .i64 v, .agg (cm m t)] w (Gives w (encl v m) (ence v m)) := by
  unfold encl ence
  by_cases hv : v ≠ 1 ∧ v ≠ 2
  · rw [if_pos hv, if_pos hv]
    exact renc_no v m t w hv.1 hv.2
  · rw [if_neg hv, if_neg hv]
    by_cases hc : chk m = 0
    · rw [if_neg (by simpa using hc), hc]
      refine (renc_ok v m t w h (by omega) hc).mono ?_
      intro e w' hm
      exact gives_made hm
    · rw [if_pos hc]
      exact renc_bad v m t w h (by omega) hc

abbrev Yes (w : World) (e : Ending) (w' : World) : Prop := e = .returned (.bool true) ∧ Below w.heap.size w w'
set_option maxRecDepth 100000 in
set_option maxHeartbeats 1000000 in
theorem encs_great (v : Int) (m : Ms) (t : At) (w : World) (h1 : 6000 < m.vers.length ∨ 6000 < m.vec.length) :
    Calls Try.prog 3 #[.int .i64 v, .agg (cm m t)] w (Yes w) := by
  have hS := SM.new w m t
  have hB := Lib.hid (alloc_below w (.cells (cm m t) 28))
  replace h1 := Lib.hid h1
  obtain ⟨s0, s1, s2, s3, s4, s5, s6, s7, s8, s9, s10, s11, s12, s13, s14⟩ := hS
  go_enter Try.func3, Try.ntmps3
  go_wp2_with (fail)
  refine (great_yes m t _ h1.out).mono ?_
  rintro e w1 ⟨rfl, hB1⟩
  go_wp2_with (fail)
  refine (awake_any _).mono ?_
  rintro e w2 ⟨rfl, hB2⟩
  go_wp2
  go_ret
  exact ⟨rfl, trans0 (trans0 hB.out hB1) hB2⟩
set_option maxRecDepth 100000 in
set_option maxHeartbeats 2000000 in
theorem encs_small (v : Int) (m : Ms) (t : At) (w : World) (h : HM w m t) (h1 : m.vers.length ≤ 6000 ∧ m.vec.length ≤ 6000) :
    Calls Try.prog 3 #[.int .i64 v, .agg (cm m t)] w (Yes w) := by
  have hS := Lib.hid (SM.new w m t)
  have hB := Lib.hid (alloc_below w (.cells (cm m t) 28))
  have hh := Lib.hid (h.below hB.out)
  replace h1 := Lib.hid h1
  clear h
  go_enter Try.func3, Try.ntmps3
  go_upto_region 1 with fail
  generalize w.alloc (.cells (cm m t) 28) = W at *
  obtain ⟨s0, s1, s2, s3, s4, s5, s6, s7, s8, s9, s10, s11, s12, s13, s14⟩ := hS.out
  go_wp2_with (fail)
  refine (great_no m t _ h1.out.1 h1.out.2).mono ?_
  rintro e w1 ⟨rfl, hB1⟩
  replace hS := Lib.hid (hS.out.below hB1)
  replace hh := Lib.hid (hh.out.below hB1)
  replace hB := Lib.hid (trans0 hB.out hB1)
  clear s0 s1 s2 s3 s4 s5 s6 s7 s8 s9 s10 s11 s12 s13 s14 hB1
  obtain ⟨s0, s1, s2, s3, s4, s5, s6, s7, s8, s9, s10, s11, s12, s13, s14⟩ := hS.out
  go_wp2_with (fail)
  refine (enc_any v m t _ hh.out).mono ?_
  rintro e x1 ⟨A, n1, c1, rfl, hl1, hB1⟩
  replace hl1 := Lib.hid hl1
  replace hS := Lib.hid (hS.out.below hB1)
  replace hh := Lib.hid (hh.out.below hB1)
  replace hB := Lib.hid (trans0 hB.out hB1)
  clear s0 s1 s2 s3 s4 s5 s6 s7 s8 s9 s10 s11 s12 s13 s14 hB1
  obtain ⟨s0, s1, s2, s3, s4, s5, s6, s7, s8, s9, s10, s11, s12, s13, s14⟩ := hS.out
  go_wp2_with (fail)
  refine (renc_any v m t _ hh.out).mono ?_
  rintro e x2 ⟨B, n2, c2, rfl, hl2, hB1⟩
  replace hl1 := Lib.hid (hl1.out.below hB1)
  replace hl2 := Lib.hid hl2
  replace hS := Lib.hid (hS.out.below hB1)
  replace hh := Lib.hid (hh.out.below hB1)
  replace hB := Lib.hid (trans0 hB.out hB1)
  clear s0 s1 s2 s3 s4 s5 s6 s7 s8 s9 s10 s11 s12 s13 s14 hB1
  have kA : ∀ w' : World, Below x2.heap.size x2 w' → Calls Try.prog 13 #[] w' fun e w'' => e = .returned (.bool true) ∧ Below x2.heap.size x2 w'' := fun w' hw' => (awake_any w').mono fun _ _ ⟨he, hb⟩ => ⟨he, trans0 hw' hb⟩
  have kC : ∀ w' : World, Below x2.heap.size x2 w' → Calls Try.prog 17 #[.agg (cm m t)] w' fun e w'' => e = .returned (.int .i64 (chk m : Nat)) ∧ Below x2.heap.size x2 w'' := fun w' hw' => (check_any m t w' (hh.out.below hw')).mono fun _ _ ⟨he, hb⟩ => ⟨he, trans0 hw' hb⟩
  have kR : ∀ w' : World, Below x2.heap.size x2 w' → Calls Try.prog 18 #[.agg (cm m t)] w' fun e w'' => e = .returned (.int .i64 (chk m : Nat)) ∧ Below x2.heap.size x2 w'' := fun w' hw' => (rcheck_any m t w' (hh.out.below hw')).mono fun _ _ ⟨he, hb⟩ => ⟨he, trans0 hw' hb⟩
  have kS : ∀ w' : World, Below x2.heap.size x2 w' → Calls Try.prog 16 #[.slice A n1 c1, .slice B n2 c2] w' fun e w'' => e = .returned (.bool true) ∧ w' = w'' := fun w' hw' => same_any _ _ _ _ _ _ _ w' (hl1.out.below hw') (hl2.out.below hw')
  replace kA := Lib.hid kA
  replace kC := Lib.hid kC
  replace kR := Lib.hid kR
  replace kS := Lib.hid kS
  obtain ⟨s0, s1, s2, s3, s4, s5, s6, s7, s8, s9, s10, s11, s12, s13, s14⟩ := hS.out
  go_wp2_with (fail)
  go_region_held3 (SM w.heap.size m t)
    (first | exact hS.out.drew | assumption | exact SM.below hS.out (by assumption) | (go_must (exact (0 : Nat))))
    (first
      | (go_at_call 13; ((with_reducible refine (kA.out _ (by first | assumption | exact (Below.refl _ _).drew)).mono ?_); rintro e w' ⟨rfl, hBx⟩))
      | (go_at_call 16; ((with_reducible refine (kS.out _ (by first | assumption | exact (Below.refl _ _).drew)).mono ?_); rintro e w' ⟨rfl, rfl⟩))
      | (go_at_call 17; ((with_reducible refine (kC.out _ (by first | assumption | exact (Below.refl _ _).drew)).mono ?_); rintro e w' ⟨rfl, hBx⟩))
      | (go_at_call 18; ((with_reducible refine (kR.out _ (by first | assumption | exact (Below.refl _ _).drew)).mono ?_); rintro e w' ⟨rfl, hBx⟩))
      | (go_at_call 16; go_must (exact (0 : Nat))))
  all_goals
    have hfin := (show Below x2.heap.size x2 _ by assumption)
    go_wp2
    go_ret
    exact ⟨rfl, trans0 hB.out (by assumption)⟩
theorem encodes (v : Int) (m : Ms) (t : At) (w : World) (h : HM w m t) :
    Calls Try.prog 3 #[.int .i64 v, .agg (cm m t)] w fun e w' => e = .returned (.bool true) ∧ Below w.heap.size w w' := by
  by_cases h1 : 6000 < m.vers.length ∨ 6000 < m.vec.length
  · exact encs_great v m t w h1
  · exact encs_small v m t w h (by omega)
end Go.Proofs.Ytkbhmeajgmecoaa.wirEn
