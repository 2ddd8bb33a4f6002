/- Are two configurations the same; what is told of one; is one too great. -/
import Derived.Test.YtpijljbkdfjhcaaCfK
import Derived.Test.YtpijljbkdfjhcaaSpnT
import Derived.Test.YtpijljbkdfjhcaaCfR
import Derived.Test.YtpijljbkdfjhcaaSpnX
set_option linter.unusedVariables false
set_option linter.unusedSimpArgs false
set_option maxRecDepth 100000
namespace Go.Proofs.Ytpijljbkdfjhcaa.cfL
open Go.ChangeShapes Go.WideShapes Go.ChangeAt Go.RowKit Go.Deep
open spnM spnA spnB spnD spnI spnJ spnK spnS cfA cfB cfC cfD cfE cfF cfG cfH cfI cfJ cfK cfR
attribute [local go_sem ↓ high] op_ldS op_ldR op_ldM ex_ldS ex_ldR ex_ldM

@[go_sem] theorem eqB4 (a b c d : Bool) (w : World) : (Op.equalIn 10000 22 (.agg #[.bool a, .bool b, .bool c, .bool d]) (.agg #[.bool a, .bool b, .bool c, .bool d])).run Try.prog w = .ok true w := by
  rw [show (10000 : Nat) = 9999 + 1 from rfl, Op.equalIn]
  have u3 := Try.underlying4
  have a3 := Try.isAgg4
  have z3 := Try.sizeOf4
  simp only [Sem.run_bind, run_underlying Try.underlying22, Result.andThen_ok]
  simp only [Std.Legacy.Range.forIn_eq_forIn_range', Std.Legacy.Range.size, Nat.sub_zero, Nat.add_sub_cancel, Nat.div_one, List.range'_succ, List.range'_zero, List.forIn_cons, List.forIn_nil]
  go_simp
set_option maxHeartbeats 4000000 in
@[go_sem] theorem eqI21 (f : Nat → Int) (w : World) : (Op.equalIn 10000 28 (.agg #[.int .i64 (f 0), .int .i64 (f 1), .int .i64 (f 2), .int .i64 (f 3), .int .i64 (f 4), .int .i64 (f 5), .int .i64 (f 6), .int .i64 (f 7), .int .i64 (f 8), .int .i64 (f 9), .int .i64 (f 10), .int .i64 (f 11), .int .i64 (f 12), .int .i64 (f 13), .int .i64 (f 14), .int .i64 (f 15), .int .i64 (f 16), .int .i64 (f 17), .int .i64 (f 18), .int .i64 (f 19), .int .i64 (f 20)]) (.agg #[.int .i64 (f 0), .int .i64 (f 1), .int .i64 (f 2), .int .i64 (f 3), .int .i64 (f 4), .int .i64 (f 5), .int .i64 (f 6), .int .i64 (f 7), .int .i64 (f 8), .int .i64 (f 9), .int .i64 (f 10), .int .i64 (f 11), .int .i64 (f 12), .int .i64 (f 13), .int .i64 (f 14), .int .i64 (f 15), .int .i64 (f 16), .int .i64 (f 17), .int .i64 (f 18), .int .i64 (f 19), .int .i64 (f 20)])).run Try.prog w = .ok true w := by
  rw [show (10000 : Nat) = 9999 + 1 from rfl, Op.equalIn]
  have u3 := Try.underlying3
  have a3 := Try.isAgg3
  have z3 := Try.sizeOf3
  simp only [Sem.run_bind, run_underlying Try.underlying28, Result.andThen_ok]
  simp only [Std.Legacy.Range.forIn_eq_forIn_range', Std.Legacy.Range.size, Nat.sub_zero, Nat.add_sub_cancel, Nat.div_one, List.range'_succ, List.range'_zero, List.forIn_cons, List.forIn_nil]
  go_simp

/-- what a round of Same loads -/
abbrev S4 (b b' j : Nat) (s s' : Cf) (a a' : Wh) (w : World) : Prop :=
  w.cell? ⟨b, 6 + j * 2, none⟩ = some (.slice (a j).A1 (s.ms j).cs.length (a j).c1) ∧ w.cell? ⟨b, 6 + j * 2 + 1, none⟩ = some (.slice (a j).A2 (s.ms j).ns.length (a j).c2) ∧
  w.cell? ⟨b', 6 + j * 2, none⟩ = some (.slice (a' j).A1 (s'.ms j).cs.length (a' j).c1) ∧ w.cell? ⟨b', 6 + j * 2 + 1, none⟩ = some (.slice (a' j).A2 (s'.ms j).ns.length (a' j).c2)
theorem S4.to {b b' j : Nat} {s s' : Cf} {a a' : Wh} {w w1 : World} (h : S4 b b' j s s' a a' w) (hB : Below w.heap.size w w1) : S4 b b' j s s' a a' w1 :=
  ⟨keep_cell hB h.1, keep_cell hB h.2.1, keep_cell hB h.2.2.1, keep_cell hB h.2.2.2⟩
set_option maxHeartbeats 4000000 in
theorem rsame_any (s : Cf) (a a' : Wh) (w : World) (h : HS w s a) (h' : HS w s a') : Calls Try.prog 30 #[.agg (cS s a), .agg (cS s a')] w fun e w' => e = .returned (.bool true) ∧ Below w.heap.size w w' := by
  have hB1 := al0 w (.cells (cS s a) TR)
  have hS1 := SB.new TR s a w
  obtain ⟨W1, hW1⟩ : ∃ W1, w.alloc (.cells (cS s a) TR) = W1 := ⟨_, rfl⟩
  have hz1 : W1.heap.size = w.heap.size + 1 := by rw [← hW1]; simp
  rw [hW1] at hB1 hS1
  have hB2 := al0 W1 (.cells (cS s a') TR)
  have hS2 := SB.new TR s a' W1
  obtain ⟨W, hW2⟩ : ∃ W, W1.alloc (.cells (cS s a') TR) = W := ⟨_, rfl⟩
  rw [hW2] at hB2 hS2
  have hS3 := hS1.below hB2
  have hBW := trans0 hB1 hB2
  rw [hz1] at hS2
  have hWf : Hid (((w.alloc (.cells (cS s a) TR)).alloc (.cells (cS s a') TR)) = W) := Lib.hid (by rw [hW1, hW2])
  have hH := Lib.hid (h.below hBW)
  have hH' := Lib.hid (h'.below hBW)
  replace hBW := Lib.hid hBW
  have c0 := hS3.c0
  have c1 := hS3.c1
  have e0 := hS2.c0
  have e1 := hS2.c1
  obtain ⟨r1, r2⟩ := rd_modes hS3
  have h0 := hS3.me (j := 0) (by omega)
  have h1 := hS3.me (j := 1) (by omega)
  have h2 := hS3.me (j := 2) (by omega)
  have h3 := hS3.me (j := 3) (by omega)
  obtain ⟨r3, r4⟩ := rd_modes hS2
  have g0 := hS2.me (j := 0) (by omega)
  have g1 := hS2.me (j := 1) (by omega)
  have g2 := hS2.me (j := 2) (by omega)
  have g3 := hS2.me (j := 3) (by omega)
  replace hS3 := Lib.hid hS3
  replace hS2 := Lib.hid hS2
  clear h h' hB1 hS1 hW1 hz1 hB2 hW2
  go_enter Try.func30, Try.ntmps30
  go_upto_region 1 with (fail)
  rw [hWf.out]
  clear hWf
  go_wp2
  clear c0 c1 e0 e1 r1 r2 r3 r4 h0 g0 h1 g1 h2 g2 h3 g3
  go_loopw [5] (fun i wr => ∃ k : Nat, k ≤ 4 ∧ i = .int .i64 k ∧ Hid (Below W.heap.size W wr)) (fun i _ => 4 - (intOf i).toNat)
  case atStart => exact ⟨0, by omega, rfl, Lib.hid (Below.refl _ _)⟩
  case round =>
    obtain ⟨k, hk, rfl, hB⟩ := hrel
    by_cases hlt : k < 4
    · have hBd := Lib.hid hB.out.drew
      have hs4 : Hid (S4 w.heap.size (w.heap.size + 1) k s s a a' wr.drew) := Lib.hid ⟨(hS3.out.below hBd.out).m1 hlt, (hS3.out.below hBd.out).m2 hlt, (hS2.out.below hBd.out).m1 hlt, (hS2.out.below hBd.out).m2 hlt⟩
      have hsa := Lib.hid (spnT.same_any _ _ _ _ _ _ _ _ (s.ms k) wr.drew ((hH.out k hlt).below hBd.out) ((hH'.out k hlt).below hBd.out))
      have hj0 : (0 : Int) ≤ (k : Int) := by omega
      have hj1 : (k : Int) < 4 := by omega
      clear hB
      go_wp2_with (fail)
      go_region_held3 (S4 w.heap.size (w.heap.size + 1) k s s a a')
        (first | with_reducible exact hs4.out | with_reducible exact s5.out | go_must (exact (0 : Nat)))
        (first | (go_at_call 23; ((with_reducible refine hsa.out.mono ?_); rintro e w5 ⟨rfl, hB5⟩; have s5 := Lib.hid (S4.to hs4.out hB5); have hb5 := Lib.hid (trans0 hBd.out hB5); clear hB5)) | fail)
      all_goals
        go_wp2
        go_roundw
        case rel => exact ⟨k + 1, by omega, by go_num, hb5⟩
        case measure => simp [intOf]; omega
    · obtain rfl : k = 4 := by omega
      go_wp2
      go_ret
      exact ⟨rfl, trans0 hBW.out hB.out⟩
theorem told_any (s : Cf) (a : Wh) (w : World) : Calls Try.prog 18 #[.agg (cS s a)] w fun e w' => e = .returned (.agg (cS s a)) ∧ Below w.heap.size w w' := by
  have hB1 := al0 w (.cells (cS s a) TS)
  have hS1 := SB.new TS s a w
  obtain ⟨W1, hW1⟩ : ∃ W1, w.alloc (.cells (cS s a) TS) = W1 := ⟨_, rfl⟩
  have hz1 : W1.heap.size = w.heap.size + 1 := by rw [← hW1]; simp
  rw [hW1] at hB1 hS1
  have hB2 := al0 W1 (.cells #[.int .i64 0, .int .i64 0, .bool false, .bool false, .bool false, .bool false, .slice none 0 0, .slice none 0 0, .slice none 0 0, .slice none 0 0, .slice none 0 0, .slice none 0 0, .slice none 0 0, .slice none 0 0, .int .i64 0, .int .i64 0, .int .i64 0, .int .i64 0, .int .i64 0, .int .i64 0, .int .i64 0, .int .i64 0, .int .i64 0, .int .i64 0, .int .i64 0, .int .i64 0, .int .i64 0, .int .i64 0, .int .i64 0, .int .i64 0, .int .i64 0, .int .i64 0, .int .i64 0, .int .i64 0, .int .i64 0] TR)
  have hS2 : SB TR W1.heap.size zC zA (W1.alloc (.cells #[.int .i64 0, .int .i64 0, .bool false, .bool false, .bool false, .bool false, .slice none 0 0, .slice none 0 0, .slice none 0 0, .slice none 0 0, .slice none 0 0, .slice none 0 0, .slice none 0 0, .slice none 0 0, .int .i64 0, .int .i64 0, .int .i64 0, .int .i64 0, .int .i64 0, .int .i64 0, .int .i64 0, .int .i64 0, .int .i64 0, .int .i64 0, .int .i64 0, .int .i64 0, .int .i64 0, .int .i64 0, .int .i64 0, .int .i64 0, .int .i64 0, .int .i64 0, .int .i64 0, .int .i64 0, .int .i64 0] TR)) := SB.new TR zC zA W1
  obtain ⟨W, hW2⟩ : ∃ W, W1.alloc (.cells #[.int .i64 0, .int .i64 0, .bool false, .bool false, .bool false, .bool false, .slice none 0 0, .slice none 0 0, .slice none 0 0, .slice none 0 0, .slice none 0 0, .slice none 0 0, .slice none 0 0, .slice none 0 0, .int .i64 0, .int .i64 0, .int .i64 0, .int .i64 0, .int .i64 0, .int .i64 0, .int .i64 0, .int .i64 0, .int .i64 0, .int .i64 0, .int .i64 0, .int .i64 0, .int .i64 0, .int .i64 0, .int .i64 0, .int .i64 0, .int .i64 0, .int .i64 0, .int .i64 0, .int .i64 0, .int .i64 0] TR) = W := ⟨_, rfl⟩
  rw [hW2] at hB2 hS2
  have hS3 := hS1.below hB2
  have hBW := Lib.hid (trans0 hB1 hB2)
  have hzW : w.heap.size ≤ w.heap.size + 1 := by omega
  rw [hz1] at hS2
  have hWf : Hid (((w.alloc (.cells (cS s a) TS)).alloc (.cells #[.int .i64 0, .int .i64 0, .bool false, .bool false, .bool false, .bool false, .slice none 0 0, .slice none 0 0, .slice none 0 0, .slice none 0 0, .slice none 0 0, .slice none 0 0, .slice none 0 0, .slice none 0 0, .int .i64 0, .int .i64 0, .int .i64 0, .int .i64 0, .int .i64 0, .int .i64 0, .int .i64 0, .int .i64 0, .int .i64 0, .int .i64 0, .int .i64 0, .int .i64 0, .int .i64 0, .int .i64 0, .int .i64 0, .int .i64 0, .int .i64 0, .int .i64 0, .int .i64 0, .int .i64 0, .int .i64 0] TR)) = W) := Lib.hid (by rw [hW1, hW2])
  have c0 := hS3.c0
  have c1 := hS3.c1
  obtain ⟨r1, r2⟩ := rd_modes hS3
  have h0 := hS3.me (j := 0) (by omega)
  have h1 := hS3.me (j := 1) (by omega)
  have h2 := hS3.me (j := 2) (by omega)
  have h3 := hS3.me (j := 3) (by omega)
  have p0 := hS3.m1 (j := 0) (by omega)
  have q0 := hS3.m2 (j := 0) (by omega)
  have p1 := hS3.m1 (j := 1) (by omega)
  have q1 := hS3.m2 (j := 1) (by omega)
  have p2 := hS3.m1 (j := 2) (by omega)
  have q2 := hS3.m2 (j := 2) (by omega)
  have p3 := hS3.m1 (j := 3) (by omega)
  have q3 := hS3.m2 (j := 3) (by omega)
  replace hS2 := Lib.hid hS2
  clear hS3 hB1 hS1 hW1 hz1 hB2 hW2
  go_enter Try.func18, Try.ntmps18
  go_upto_region 1 with (fail)
  rw [hWf.out]
  clear hWf
  go_wp2_with (first | (refine st_put rfl TR _ _ rfl (w.heap.size + 1) s a rfl rfl hS2.out (.inr rfl) ?_; intro W9 hS9 hB9 hG9 hz9; have hs9 := Lib.hid hS9; have hb9 := Lib.hid (hB9 w.heap.size hzW); clear hS9 hB9 hG9 hz9) | fail)
  exact bodyPost_ret (v := .agg (cS s a)) (st_res rfl _ _ (w.heap.size + 1) rfl hs9.out (.inr rfl)) rfl ⟨rfl, hBW.out.trans hb9.out⟩
/-- a configuration of the program's and one of the document's may be loaded -/
abbrev LD2 (b b' : Nat) (s : Cf) (a a' : Wh) (w : World) : Prop :=
  RdT TS w (.pointer (some ⟨b, 0, none⟩)) ∧ rdV TS w (.pointer (some ⟨b, 0, none⟩)) = .agg (cS s a) ∧ RdT TR w (.pointer (some ⟨b', 0, none⟩)) ∧ rdV TR w (.pointer (some ⟨b', 0, none⟩)) = .agg (cS s a')
theorem ld2_of {b b' : Nat} {s : Cf} {a a' : Wh} {w : World} (h : SB TS b s a w) (h' : SB TR b' s a' w) : LD2 b b' s a a' w :=
  ⟨(rd_row h (.inl rfl)).1, (rd_row h (.inl rfl)).2, (rd_row h' (.inr rfl)).1, (rd_row h' (.inr rfl)).2⟩
set_option maxHeartbeats 1000000 in
theorem same_any (s : Cf) (a a' : Wh) (w : World) (h : HS w s a) (h' : HS w s a') : Calls Try.prog 12 #[.agg (cS s a), .agg (cS s a')] w fun e w' => e = .returned (.bool true) ∧ Below w.heap.size w w' := by
  have hB1 := al0 w (.cells (cS s a) TS)
  have hS1 := SB.new TS s a w
  obtain ⟨W1, hW1⟩ : ∃ W1, w.alloc (.cells (cS s a) TS) = W1 := ⟨_, rfl⟩
  have hz1 : W1.heap.size = w.heap.size + 1 := by rw [← hW1]; simp
  rw [hW1] at hB1 hS1
  have hB2 := al0 W1 (.cells (cS s a') TR)
  have hS2 := SB.new TR s a' W1
  obtain ⟨W, hW2⟩ : ∃ W, W1.alloc (.cells (cS s a') TR) = W := ⟨_, rfl⟩
  rw [hW2] at hB2 hS2
  have hS3 := hS1.below hB2
  have hBW := trans0 hB1 hB2
  rw [hz1] at hS2
  have hWf : Hid (((w.alloc (.cells (cS s a) TS)).alloc (.cells (cS s a') TR)) = W) := Lib.hid (by rw [hW1, hW2])
  have hH := Lib.hid ((h.below hBW).below (below_drew W))
  have hH' := Lib.hid ((h'.below hBW).below (below_drew W))
  have hBd := Lib.hid hBW.drew
  have hS2' := Lib.hid hS2.drew
  have hS3' := Lib.hid hS3.drew
  have hl4 := Lib.hid (ld2_of hS3.drew hS2.drew)
  clear h h' hB1 hS1 hW1 hz1 hB2 hW2 hBW hS2 hS3
  go_enter Try.func12, Try.ntmps12
  go_wp2_with (fail)
  rw [hWf.out]
  clear hWf
  go_region_held3 (LD2 w.heap.size (w.heap.size + 1) s a a')
    (first | with_reducible exact hl4.out | with_reducible exact l5.out | with_reducible exact l6.out | go_must (exact (0 : Nat)))
    (first
      | (go_at_call 18; ((with_reducible refine (told_any s a _).mono ?_); rintro e w5 ⟨rfl, hB5⟩; have hb5 := Lib.hid hB5; have l5 := Lib.hid (ld2_of (hS3'.out.below hB5) (hS2'.out.below hB5)); clear hB5))
      | (go_at_call 30; ((with_reducible refine (rsame_any s a a' _ (hH.out.below hb5.out) (hH'.out.below hb5.out)).mono ?_); rintro e w6 ⟨rfl, hB6⟩; have hb6 := Lib.hid (trans0 hBd.out (trans0 hb5.out hB6)); have l6 := Lib.hid (ld2_of (hS3'.out.below (trans0 hb5.out hB6)) (hS2'.out.below (trans0 hb5.out hB6))); clear hB6))
      | fail)
  all_goals
    go_wp2
    go_ret
    exact ⟨rfl, hb6.out⟩
def grt (s : Cf) : Bool := (List.range 4).any fun i => decide (60 < (s.ms i).cs.length) || decide (60 < (s.ms i).ns.length)
def gr1 (s : Cf) (i : Nat) : Bool := decide (60 < (s.ms i).cs.length) || decide (60 < (s.ms i).ns.length)
theorem great_any (s : Cf) (a : Wh) (w : World) (hz : Sz s) : Calls Try.prog 15 #[.agg (cS s a)] w fun e w' => e = .returned (.bool (grt s)) ∧ Below w.heap.size w w' := by
  have hB := Lib.hid (al0 w (.cells (cS s a) TS))
  have hi := Lib.hid (fun (j : Nat) (h : j < 4) (wx : World) => ix_ma s a h wx)
  have hS := SB.new TS s a w
  have k0 := hS.m1 (j := 0) (by omega)
  have k1 := hS.m2 (j := 0) (by omega)
  have k2 := hS.m1 (j := 1) (by omega)
  have k3 := hS.m2 (j := 1) (by omega)
  have k4 := hS.m1 (j := 2) (by omega)
  have k5 := hS.m2 (j := 2) (by omega)
  have k6 := hS.m1 (j := 3) (by omega)
  have k7 := hS.m2 (j := 3) (by omega)
  have hG := Lib.hid (show ∀ j, j < 4 → gr1 s j = true → grt s = true from fun j hj hg => List.any_eq_true.2 ⟨j, List.mem_range.2 hj, hg⟩)
  have hN := Lib.hid (show (∀ j, j < 4 → gr1 s j = false) → grt s = false from fun h => List.any_eq_false.2 fun j hj => by rw [show (decide (60 < (s.ms j).cs.length) || decide (60 < (s.ms j).ns.length)) = gr1 s j from rfl, h j (List.mem_range.1 hj)]; simp)
  replace hz := Lib.hid hz
  generalize grt s = g at *
  go_enter Try.func15, Try.ntmps15
  go_wp2
  clear k0 k1 k2 k3 k4 k5 k6 k7 hS
  generalize w.alloc (Obj.cells (cS s a) TS) = W at *
  go_loopw [7] (fun i wr => ∃ j : Nat, j ≤ 4 ∧ i = .int .i64 j ∧ Hid ((∀ k, k < j → gr1 s k = false) ∧ Below w.heap.size w wr)) (fun i _ => 4 - (intOf i).toNat)
  case atStart => exact ⟨0, by omega, rfl, Lib.hid ⟨fun k hk => absurd hk (by omega), hB.out⟩⟩
  case round =>
    clear hB
    obtain ⟨j, hj, rfl, hX⟩ := hrel
    by_cases hlt : j < 4
    · have hx := hi.out j hlt
      have hB2 := Lib.hid (hX.out.2.alloc hX.out.2.size (.cells #[.slice (a j).A1 (s.ms j).cs.length (a j).c1, .slice (a j).A2 (s.ms j).ns.length (a j).c2] 26))
      have hg1 := Lib.hid (hG.out j hlt)
      have hg2 : Hid (gr1 s j = (decide (60 < (s.ms j).cs.length) || decide (60 < (s.ms j).ns.length))) := Lib.hid rfl
      have z1 := (hz.out j hlt).1
      have z2 := (hz.out j hlt).2
      generalize (s.ms j).cs.length = n1 at *
      generalize (s.ms j).ns.length = n2 at *
      by_cases h1 : 60 < n1
      · have hgt : g = true := hg1.out (by rw [hg2.out]; simp [h1])
        have hgt' := Lib.hid hgt
        clear hgt hg1 hg2 hX
        go_wp2
        go_ret
        exact ⟨by rw [hgt'.out]; rfl, hB2.out⟩
      · by_cases h2 : 60 < n2
        · have hgt : g = true := hg1.out (by rw [hg2.out]; simp [h2])
          have hgt' := Lib.hid hgt
          clear hgt hg1 hg2 hX
          go_wp2
          go_ret
          exact ⟨by rw [hgt'.out]; rfl, hB2.out⟩
        · have hnx := Lib.hid (show ∀ k, k < j + 1 → gr1 s k = false from fun k hk => by
            by_cases e : k = j
            · subst e; rw [hg2.out]; simp; omega
            · exact hX.out.1 k (by omega))
          clear hg1 hg2 hX
          go_wp2
          go_roundw
          case rel => exact ⟨j + 1, by omega, by go_num, Lib.hid ⟨hnx.out, hB2.out⟩⟩
          case measure => simp [intOf]; omega
    · obtain rfl : j = 4 := by omega
      have hgf := Lib.hid (hN.out hX.out.1)
      clear hi hG hN
      go_wp2
      go_ret
      exact ⟨by rw [hgf.out]; rfl, hX.out.2⟩
end Go.Proofs.Ytpijljbkdfjhcaa.cfL
