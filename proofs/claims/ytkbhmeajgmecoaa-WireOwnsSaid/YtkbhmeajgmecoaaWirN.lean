/- The contract of the program's Encode; the question whether the program is awake. -/
import Derived.Test.YtkbhmeajgmecoaaWirK
namespace Go.Proofs.Ytkbhmeajgmecoaa.wirN
open Go.ChangeShapes Go.WideShapes Go.ChangeAt Go.RowKit
open numM numN rowA byt numA numB numC numD numE wirM wirA wirB wirD wirE wirF wirG wirL wirH wirI wirJ wirK

theorem isv_yes (v : Int) (w : World) (h : v = 1 ∨ v = 2) : Calls Try.prog 28 #[.int .i64 v] w fun e w' => e = .returned (.bool true) ∧ w = w' := by
  rcases h with rfl | rfl
  all_goals
    go_enter Try.func28, Try.ntmps28
    go_wp2
    go_ret
    exact ⟨rfl, rfl⟩
theorem isv_no (v : Int) (w : World) (h1 : ¬ v = 1) (h2 : ¬ v = 2) : Calls Try.prog 28 #[.int .i64 v] w fun e w' => e = .returned (.bool false) ∧ w = w' := by
  have e1 : (v == 1) = false := beq_eq_false_iff_ne.2 h1
  have e2 : (v == 2) = false := beq_eq_false_iff_ne.2 h2
  clear h1 h2
  go_enter Try.func28, Try.ntmps28
  go_wp2
  go_ret
  exact ⟨rfl, rfl⟩
set_option maxRecDepth 100000 in
theorem enc_no (v : Int) (m : Ms) (t : At) (w : World) (h1 : ¬ v = 1) (h2 : ¬ v = 2) : Calls Try.prog 14 #[.int .i64 v, .agg (cm m t)] w (Gives w [] 15) := by
  go_enter Try.func14, Try.ntmps14
  go_wp2_with ((go_at_call 28; ((with_reducible refine (isv_no _ _ h1 h2).mono ?_); rintro e w' ⟨rfl, rfl⟩)))
  go_ret2
  exact ⟨none, 0, 0, rfl, BL.none_ _ none, alloc_below _ _⟩
set_option maxRecDepth 100000 in
set_option maxHeartbeats 1000000 in
theorem enc_bad (v : Int) (m : Ms) (t : At) (w : World) (h : HM w m t) (hv : v = 1 ∨ v = 2) (hc : chk m ≠ 0) : Calls Try.prog 14 #[.int .i64 v, .agg (cm m t)] w (Gives w [] (chk m)) := by
  have hne : ((chk m : Int) != 0) = true := by rw [bne_iff_ne]; omega
  have hS := SM.new w m t
  have hh := Lib.hid (h.below (alloc_below w (.cells (cm m t) 28)))
  obtain ⟨s0, s1, s2, s3, s4, s5, s6, s7, s8, s9, s10, s11, s12, s13, s14⟩ := hS
  have hB0 := Lib.hid (alloc_below w (.cells (cm m t) 28))
  clear hc h
  go_enter Try.func14, Try.ntmps14
  go_wp2_with (fail)
  generalize w.alloc (.cells (cm m t) 28) = W at *
  refine (isv_yes v _ hv).mono ?_
  rintro e w' ⟨rfl, rfl⟩
  go_wp2_with (fail)
  refine (check_any m t _ hh.out).mono ?_
  rintro e w1 ⟨rfl, hB1⟩
  go_wp2
  go_ret2
  exact ⟨none, 0, 0, rfl, BL.none_ _ none, trans0 hB0.out hB1⟩
theorem body1 (m : Ms) (t : At) (w : World) (h : HM w m t) (hok : m.ok) : Calls Try.prog 29 #[.agg (cm m t)] w (Makes w (body 1 m)) := by
  rw [show body 1 m = elder m from if_pos rfl]; exact welder_any m t w h hok
theorem body2 (m : Ms) (t : At) (w : World) (h : HM w m t) (hok : m.ok) : Calls Try.prog 30 #[.agg (cm m t)] w (Makes w (body 2 m)) := by
  rw [show body 2 m = newer m from if_neg (by decide)]; exact wnewer_any m t w h hok
set_option maxRecDepth 100000 in
set_option maxHeartbeats 1000000 in
theorem enc_ok (v : Int) (m : Ms) (t : At) (w : World) (h : HM w m t) (hv : v = 1 ∨ v = 2) (hc : chk m = 0) : Calls Try.prog 14 #[.int .i64 v, .agg (cm m t)] w (Makes2 w (body v m)) := by
  have hok := Lib.hid (chk_ok.1 hc)
  have hS := Lib.hid (SM.new w m t)
  have hh := Lib.hid (h.below (alloc_below w (.cells (cm m t) 28)))
  have hB0 := Lib.hid (alloc_below w (.cells (cm m t) 28))
  have hc0 := Lib.hid hc
  clear hc h
  rcases hv with rfl | rfl
  all_goals
    obtain ⟨s0, s1, s2, s3, s4, s5, s6, s7, s8, s9, s10, s11, s12, s13, s14⟩ := hS.out
    go_enter Try.func14, Try.ntmps14
    go_wp2_with (fail)
    generalize w.alloc (.cells (cm m t) 28) = W at *
    refine (isv_yes _ _ (by first | exact .inl rfl | exact .inr rfl)).mono ?_
    rintro e w' ⟨rfl, rfl⟩
    go_wp2_with (fail)
    refine (check_any m t _ hh.out).mono ?_
    rintro e w1 ⟨rfl, hB1⟩
    rw [hc0.out]
    have hS1 := hS.out.below hB1
    have hh1 := Lib.hid (hh.out.below hB1)
    have hB2 := Lib.hid (trans0 hB0.out hB1)
    clear s0 s1 s2 s3 s4 s5 s6 s7 s8 s9 s10 s11 s12 s13 s14 hB1
    obtain ⟨s0, s1, s2, s3, s4, s5, s6, s7, s8, s9, s10, s11, s12, s13, s14⟩ := hS1
    go_wp2_with (fail)
    first | refine (body1 m t _ hh1.out hok.out).mono ?_ | refine (body2 m t _ hh1.out hok.out).mono ?_
    rintro e w2 ⟨A, cap, rfl, ho, hB3⟩
    go_wp2
    go_ret2
    exact Makes2.of rfl (Own.more (base' := w.heap.size) ho hB2.out.size) (trans0 hB2.out hB3)

theorem enc_any (v : Int) (m : Ms) (t : At) (w : World) (h : HM w m t) : Calls Try.prog 14 #[.int .i64 v, .agg (cm m t)] w (Gives w (encl v m) (ence v m)) := by
  unfold encl ence
  by_cases hv : v ≠ 1 ∧ v ≠ 2
  · rw [if_pos hv, if_pos hv]
    exact enc_no v m t w hv.1 hv.2
  · rw [if_neg hv, if_neg hv]
    by_cases hc : chk m = 0
    · rw [if_neg (by simpa using hc), hc]
      refine (enc_ok v m t w h (by omega) hc).mono ?_
      intro e w' hm
      exact gives_made hm
    · rw [if_pos hc]
      exact enc_bad v m t w h (by omega) hc

/-! ### awake -/
def m0 : Ms := ⟨12, 5, 0, 0, ⟨#[]⟩, ⟨#[]⟩, [], [], Cm.nought⟩
theorem m0_ok : chk m0 = 0 := by decide
theorem m0_hm (w : World) : HM w m0 ⟨none, 0, none, 0⟩ := by
  refine ⟨?_, VL.nil_ w none, NL.nil_ w none⟩
  unfold Ms.fits Cm.fits i64 m0 Cm.nought
  simp
  exact Nat.zero_le _
theorem m0_body : body 2 m0 = [12, 1, 5] := by
  rw [show body 2 m0 = newer m0 from if_neg (by decide)]
  have e : pNum 5 = [5] := by unfold pNum; rw [if_neg (by decide), uv_small (by decide)]
  have e0 : pNum 0 = [] := rfl
  have e1 : pTxt ⟨#[]⟩ = [] := rfl
  have e2 : pVers [] = [] := rfl
  have e3 : pVec [] = [] := rfl
  have e4 : pCmd Cm.nought = [] := if_pos rfl
  unfold newer bitsOf pts m0
  simp only [e, e0, e1, e2, e3, e4]
  rfl
theorem enc_m0 (w : World) : Calls Try.prog 14 #[.int .i64 2, .agg #[.int .i64 12, .int .u64 5, .int .u64 0, .int .u64 0, .string ⟨#[]⟩, .string ⟨#[]⟩, .slice none 0 0, .slice none 0 0, .int .i64 0, .int .i64 0, .int .i64 0, .int .i64 0, .int .i64 0, .string ⟨#[]⟩]] w (Makes2 w [12, 1, 5]) := by
  rw [← m0_body]
  exact enc_ok 2 m0 ⟨none, 0, none, 0⟩ w (m0_hm w) (.inr rfl) m0_ok
set_option maxRecDepth 100000 in
theorem awake_any (w : World) : Calls Try.prog 13 #[] w fun e w' => e = .returned (.bool true) ∧ Below w.heap.size w w' := by
  have hs : byt.strOf [12, 1, 5] = ⟨#[12, 1, 5]⟩ := by rfl
  go_enter Try.func13, Try.ntmps13
  go_wp2_with (fail)
  refine (enc_m0 _).mono ?_
  rintro e w1 ⟨A, cap, rfl, ho, hB⟩
  have ec := run_str (P := Try.prog) 31 5 9 Try.underlying31 Try.underlying5 Try.underlying9 cap (show BL w1 A 3 [12, 1, 5] from own_bl ho)
  rw [hs] at ec
  clear ho hs
  go_wp2
  go_ret
  exact ⟨rfl, hB⟩
end Go.Proofs.Ytkbhmeajgmecoaa.wirN
