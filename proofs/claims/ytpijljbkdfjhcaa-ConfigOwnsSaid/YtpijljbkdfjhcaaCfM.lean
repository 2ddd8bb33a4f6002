/- awake; ConfigStarts. -/
import Derived.Test.YtpijljbkdfjhcaaCfL
set_option linter.unusedVariables false
set_option maxRecDepth 100000
namespace Go.Proofs.Ytpijljbkdfjhcaa.cfM
open Go.ChangeShapes Go.WideShapes Go.ChangeAt Go.RowKit Go.Deep
open spnM spnA spnB spnD spnI spnJ spnK spnS cfA cfB cfC cfD cfE cfF cfG cfH cfI cfJ cfK cfR cfL
attribute [local go_sem ↓ high] op_ldS op_ldR op_ldM ex_ldS ex_ldR ex_ldM

theorem st212 : cfJ.stM 2 1 2 = stC 2 1 2 := if_pos (by decide)
theorem st212e : stE 2 1 2 = 0 := if_pos (by decide)
set_option maxHeartbeats 1000000 in
theorem awake_any (w : World) : Calls Try.prog 11 #[] w fun e w' => e = .returned (.bool true) ∧ Below w.heap.size w w' := by
  have hst := start_any 2 1 2 w
  rw [st212, st212e] at hst
  replace hst := Lib.hid hst
  go_enter Try.func11, Try.ntmps11
  go_wp2_with (first
    | (go_at_call 9; ((with_reducible refine hst.out.mono ?_); rintro e w1 ⟨a, rfl, hG, hB⟩; have hn := Lib.hid (show SB TS w1.heap.size zC zA (w1.alloc (.cells #[.int .i64 0, .int .i64 0, .bool false, .bool false, .bool false, .bool false, .slice none 0 0, .slice none 0 0, .slice none 0 0, .slice none 0 0, .slice none 0 0, .slice none 0 0, .slice none 0 0, .slice none 0 0, .int .i64 0, .int .i64 0, .int .i64 0, .int .i64 0, .int .i64 0, .int .i64 0, .int .i64 0, .int .i64 0, .int .i64 0, .int .i64 0, .int .i64 0, .int .i64 0, .int .i64 0, .int .i64 0, .int .i64 0, .int .i64 0, .int .i64 0, .int .i64 0, .int .i64 0, .int .i64 0, .int .i64 0] TS)) from SB.new TS zC zA w1); have hb := Lib.hid (hB.trans ((al0 w1 (.cells #[.int .i64 0, .int .i64 0, .bool false, .bool false, .bool false, .bool false, .slice none 0 0, .slice none 0 0, .slice none 0 0, .slice none 0 0, .slice none 0 0, .slice none 0 0, .slice none 0 0, .slice none 0 0, .int .i64 0, .int .i64 0, .int .i64 0, .int .i64 0, .int .i64 0, .int .i64 0, .int .i64 0, .int .i64 0, .int .i64 0, .int .i64 0, .int .i64 0, .int .i64 0, .int .i64 0, .int .i64 0, .int .i64 0, .int .i64 0, .int .i64 0, .int .i64 0, .int .i64 0, .int .i64 0, .int .i64 0] TS)).mono hB.size)); have hs := Lib.hid hB.size; clear hG hB))
    | (refine st_put rfl TS _ _ rfl w1.heap.size (stC 2 1 2) a rfl rfl hn.out (.inl rfl) ?_; intro W5 hS5 hB5 hG5 hz5; have hb5 := Lib.hid (hb.out.trans (hB5 w.heap.size hs.out)); have c0 := hS5.c0; have c1 := hS5.me (j := 0) (by omega); have c2 := hS5.me (j := 1) (by omega); rw [show (stC 2 1 2).pool = 2 from rfl] at c0; rw [show (stC 2 1 2).me 0 = true from rfl] at c1; rw [show (stC 2 1 2).me 1 = false from rfl] at c2; clear hS5 hB5 hG5 hz5)
    | fail)
  go_ret
  exact ⟨rfl, hb5.out⟩
theorem HS.box {w : World} {s : Cf} {a : Wh} (h : HS w s a) (o : Obj) : HS (w.alloc o) s a := h.below (al0 w o)
set_option maxHeartbeats 2000000 in
theorem starts_any (p m n : Int) (w : World) : Calls Try.prog 3 #[.int .i64 p, .int .i64 m, .int .i64 n] w fun e w' => e = .returned (.bool true) ∧ Below w.heap.size w w' := by
  have hst := Lib.hid (start_any p m n w)
  have hrs := Lib.hid (fun w => rstart_any p m n w)
  have hsz := Lib.hid (sz_st p m n)
  generalize stE p m n = E at *
  generalize cfJ.stM p m n = s at *
  go_enter Try.func3, Try.ntmps3
  go_wp2_with (first
    | (go_at_call 9; ((with_reducible refine hst.out.mono ?_); rintro e w1 ⟨a, rfl, hG, hB⟩; have hn := Lib.hid (show SB TS w1.heap.size zC zA (w1.alloc (.cells #[.int .i64 0, .int .i64 0, .bool false, .bool false, .bool false, .bool false, .slice none 0 0, .slice none 0 0, .slice none 0 0, .slice none 0 0, .slice none 0 0, .slice none 0 0, .slice none 0 0, .slice none 0 0, .int .i64 0, .int .i64 0, .int .i64 0, .int .i64 0, .int .i64 0, .int .i64 0, .int .i64 0, .int .i64 0, .int .i64 0, .int .i64 0, .int .i64 0, .int .i64 0, .int .i64 0, .int .i64 0, .int .i64 0, .int .i64 0, .int .i64 0, .int .i64 0, .int .i64 0, .int .i64 0, .int .i64 0] TS)) from SB.new TS zC zA w1); have hb1 := Lib.hid hB; have hg1 := Lib.hid hG; clear hG hB))
    | (refine st_put rfl TS _ _ rfl w1.heap.size s a rfl rfl hn.out (.inl rfl) ?_; intro W2 hS2 hB2 hG2 hz2; have hb2 := Lib.hid (hb1.out.trans (((al0 w1 (.cells #[.int .i64 0, .int .i64 0, .bool false, .bool false, .bool false, .bool false, .slice none 0 0, .slice none 0 0, .slice none 0 0, .slice none 0 0, .slice none 0 0, .slice none 0 0, .slice none 0 0, .slice none 0 0, .int .i64 0, .int .i64 0, .int .i64 0, .int .i64 0, .int .i64 0, .int .i64 0, .int .i64 0, .int .i64 0, .int .i64 0, .int .i64 0, .int .i64 0, .int .i64 0, .int .i64 0, .int .i64 0, .int .i64 0, .int .i64 0, .int .i64 0, .int .i64 0, .int .i64 0, .int .i64 0, .int .i64 0] TS)).mono hb1.out.size).trans (hB2 w.heap.size hb1.out.size))); have hg2 := Lib.hid ((hG2 _ _ _ (hg1.out.below (al0 w1 (.cells #[.int .i64 0, .int .i64 0, .bool false, .bool false, .bool false, .bool false, .slice none 0 0, .slice none 0 0, .slice none 0 0, .slice none 0 0, .slice none 0 0, .slice none 0 0, .slice none 0 0, .slice none 0 0, .int .i64 0, .int .i64 0, .int .i64 0, .int .i64 0, .int .i64 0, .int .i64 0, .int .i64 0, .int .i64 0, .int .i64 0, .int .i64 0, .int .i64 0, .int .i64 0, .int .i64 0, .int .i64 0, .int .i64 0, .int .i64 0, .int .i64 0, .int .i64 0, .int .i64 0, .int .i64 0, .int .i64 0] TS)))).hs hsz.out); have hs2 := Lib.hid hS2; clear hS2 hB2 hG2 hz2 hn hb1 hg1)
    | (go_at_call 10; ((with_reducible refine (hrs.out _).mono ?_); rintro e w3 ⟨a', rfl, hG, hB⟩; have hn := Lib.hid (show SB TR w3.heap.size zC zA (w3.alloc (.cells #[.int .i64 0, .int .i64 0, .bool false, .bool false, .bool false, .bool false, .slice none 0 0, .slice none 0 0, .slice none 0 0, .slice none 0 0, .slice none 0 0, .slice none 0 0, .slice none 0 0, .slice none 0 0, .int .i64 0, .int .i64 0, .int .i64 0, .int .i64 0, .int .i64 0, .int .i64 0, .int .i64 0, .int .i64 0, .int .i64 0, .int .i64 0, .int .i64 0, .int .i64 0, .int .i64 0, .int .i64 0, .int .i64 0, .int .i64 0, .int .i64 0, .int .i64 0, .int .i64 0, .int .i64 0, .int .i64 0] TR)) from SB.new TR zC zA w3); have hb3 := Lib.hid hB; have hg3 := Lib.hid (hG.hs hsz.out); clear hG hB))
    | (refine st_put rfl TR _ _ rfl w3.heap.size s a' rfl rfl hn.out (.inr rfl) ?_; intro W4 hS4 hB4 hG4 hz4; have hb34 := Lib.hid ((al0 w3 (.cells #[.int .i64 0, .int .i64 0, .bool false, .bool false, .bool false, .bool false, .slice none 0 0, .slice none 0 0, .slice none 0 0, .slice none 0 0, .slice none 0 0, .slice none 0 0, .slice none 0 0, .slice none 0 0, .int .i64 0, .int .i64 0, .int .i64 0, .int .i64 0, .int .i64 0, .int .i64 0, .int .i64 0, .int .i64 0, .int .i64 0, .int .i64 0, .int .i64 0, .int .i64 0, .int .i64 0, .int .i64 0, .int .i64 0, .int .i64 0, .int .i64 0, .int .i64 0, .int .i64 0, .int .i64 0, .int .i64 0] TR)).trans (hB4 w3.heap.size (Nat.le_refl _))); have hb4 := Lib.hid (trans0 hb2.out (trans0 hb3.out hb34.out)); have hh := Lib.hid (hg3.out.below hb34.out); have hh2 := Lib.hid ((hg2.out.below hb3.out).below hb34.out); have hs4 := Lib.hid hS4; have hs3 := Lib.hid ((hs2.out.below hb3.out).below hb34.out); clear hS4 hB4 hG4 hz4 hn hb3 hg3 hg2 hs2 hb2 hb34)
    | fail)
  have hl := Lib.hid (fun (w' : World) (hB : Below W4.drew.heap.size W4.drew w') => ld2_of (hs3.out.drew.below hB) (hs4.out.drew.below hB))
  have hl0 := Lib.hid (ld2_of hs3.out.drew hs4.out.drew)
  have hB0 := Lib.hid hb4.out.drew
  have hH1 := Lib.hid (hh2.out.below (below_drew W4))
  have hH2 := Lib.hid (hh.out.below (below_drew W4))
  clear hs3 hs4 hb4 hh hh2 hst hrs hsz
  generalize w1.heap.size = b1 at *
  generalize w3.heap.size = b2 at *
  go_region_held3 (LD2 b1 b2 s a a')
    (first | with_reducible exact hl0.out | with_reducible exact l1.out | with_reducible exact l2.out | with_reducible exact l3.out | with_reducible exact l4.out | go_must (exact (0 : Nat)))
    (first
      | (go_at_call 11; ((with_reducible refine (awake_any _).mono ?_); rintro e w5 ⟨rfl, hB5⟩; have x1 := Lib.hid hB5; have l1 := Lib.hid (hl.out _ hB5); clear hB5))
      | (go_at_call 12; ((with_reducible refine (same_any s a a' _ (hH1.out.below x1.out) (hH2.out.below x1.out)).mono ?_); rintro e w6 ⟨rfl, hB6⟩; have x2 := Lib.hid (trans0 x1.out hB6); have l2 := Lib.hid (hl.out _ x2.out); clear hB6))
      | (go_at_call 13; ((with_reducible refine (count_any s a _).mono ?_); rintro e w7 ⟨rfl, hB7⟩; have x3 := Lib.hid (trans0 x2.out hB7); have l3 := Lib.hid (hl.out _ x3.out); clear hB7))
      | (go_at_call 14; ((with_reducible refine (rcount_any s a' _).mono ?_); rintro e w8 ⟨rfl, hB8⟩; have x4 := Lib.hid (trans0 x3.out hB8); have l4 := Lib.hid (hl.out _ x4.out); clear hB8))
      | fail)
  all_goals
    go_wp2
    go_ret
    exact ⟨rfl, trans0 hB0.out x4.out⟩
end Go.Proofs.Ytpijljbkdfjhcaa.cfM
