/- The contract of the document's own Unpack, and the walk of the statement FrameUnpacks. -/
import Derived.Test.YtganbpocpppabaaFraF
import Derived.Test.YtganbpocpppabaaFraJ
namespace Go.Proofs.Ytganbpocpppabaa.fraO
open Go.ChangeShapes Go.WideShapes Go.ChangeAt Go.RowKit Go.Deep
open numM numN rowA byt numA numB numC numD fraM fraB fraC fraD fraE fraF fraG fraH fraI fraJ

set_option maxRecDepth 100000 in
theorem runpack_any (a : Option Addr) (n cap : Nat) (l : List Nat) (w : World) (hb : BL w a n l) (hcap : n ≤ cap) (hc9 : cap ≤ 9223372036854775807) :
    Calls Try.prog 15 #[.slice a n cap] w (GivesU w (unF l) (unE l)) := by
  have hln := Lib.hid hb.1
  have hBa := Lib.hid ((Below.refl w.heap.size w).alloc (Nat.le_refl _) (.cells #[.int .i64 0, .int .i64 0, .int .i64 0, .int .i64 0, .slice none 0 0] 24))
  have r0 := five w 24
  replace r0 := Lib.hid r0
  have hb' := Lib.hid (hb.below hBa.out)
  have hn9 := hb.2.1
  clear hb
  go_enter Try.func15, Try.ntmps15
  go_wp2_with (fail)
  generalize w.alloc (.cells #[.int .i64 0, .int .i64 0, .int .i64 0, .int .i64 0, .slice none 0 0] 24) = W at *
  refine (rfirst_any a n cap l W hb'.out hcap hc9).mono ?_
  rintro e w1 ⟨A, c, rfl, ho, hB⟩
  have hB1 := Lib.hid (hBa.out.trans (hB.mono hBa.out.size))
  have r1 := Lib.hid (r0.out.of_block (hB.block w.heap.size r0.out.lt))
  replace ho := Lib.hid ho
  have hlt1 : w.heap.size < w1.heap.size := r1.out.lt
  have hWs := Lib.hid r0.out.lt
  have b0 : w1.cell? ⟨w.heap.size, 0, none⟩ = some (.int .i64 0) := r1.out.cell (i := 0) (by omega)
  have b1 : w1.cell? ⟨w.heap.size, 1, none⟩ = some (.int .i64 0) := r1.out.cell (i := 1) (by omega)
  have b2 : w1.cell? ⟨w.heap.size, 2, none⟩ = some (.int .i64 0) := r1.out.cell (i := 2) (by omega)
  have b3 : w1.cell? ⟨w.heap.size, 3, none⟩ = some (.int .i64 0) := r1.out.cell (i := 3) (by omega)
  have b4 : w1.cell? ⟨w.heap.size, 4, none⟩ = some (.slice none 0 0) := r1.out.cell (i := 4) (by omega)
  have g0 := r1.out.frozen 0
  have g1 := r1.out.frozen 1
  have g2 := r1.out.frozen 2
  have g3 := r1.out.frozen 3
  have g4 := r1.out.frozen 4
  clear hB
  have hfin := Lib.hid (fin5 w)
  by_cases h0 : fsE l = 0
  · have hne : ((fsE l : Int) == 0) = true := by rw [beq_iff_eq]; omega
    by_cases h1 : fsN l < n
    · have e1 : unE l = 3 := by unfold unE; rw [if_pos h0, if_pos (by rw [hln.out]; exact h1)]
      have e2 := un_no (l := l) (by omega)
      have hgf : Hid (∀ e w', GivesU w Fm.zero 3 e w' → GivesU w (unF l) (unE l) e w') := Lib.hid (by rw [e1, e2]; exact fun _ _ h => h)
      clear e1 e2 h0
      go_wp2
      clear b0 b1 b2 b3 b4 g0 g1 g2 g3 g4
      have rF := (((((r1.out.set 0 (.int .i64 0)).set 1 (.int .i64 0)).set 2 (.int .i64 0)).set 3 (.int .i64 0)).set 4 (.slice none 0 0)).alloc (.cells (cf (fsF l) A c) 24)
      have BF := (hfin.out (.int .i64 0) (.int .i64 0) (.int .i64 0) (.int .i64 0) (.slice none 0 0) w1 hB1.out).alloc (Nat.le_trans hB1.out.size (by simp)) (.cells (cf (fsF l) A c) 24)
      generalize ((((((w1.setCell ⟨w.heap.size, 0, none⟩ (.int .i64 0)).setCell ⟨w.heap.size, 1, none⟩ (.int .i64 0)).setCell ⟨w.heap.size, 2, none⟩ (.int .i64 0)).setCell ⟨w.heap.size, 3, none⟩ (.int .i64 0)).setCell ⟨w.heap.size, 4, none⟩ (.slice none 0 0)).alloc (.cells (cf (fsF l) A c) 24)) = WF at rF BF ⊢
      have q0 : WF.cell? ⟨w.heap.size, 0, none⟩ = some (.int .i64 0) := rF.cell (i := 0) (by omega)
      have q1 : WF.cell? ⟨w.heap.size, 1, none⟩ = some (.int .i64 0) := rF.cell (i := 1) (by omega)
      have q2 : WF.cell? ⟨w.heap.size, 2, none⟩ = some (.int .i64 0) := rF.cell (i := 2) (by omega)
      have q3 : WF.cell? ⟨w.heap.size, 3, none⟩ = some (.int .i64 0) := rF.cell (i := 3) (by omega)
      have q4 : WF.cell? ⟨w.heap.size, 4, none⟩ = some (.slice none 0 0) := rF.cell (i := 4) (by omega)
      refine bodyPost_ret (v := .tuple #[.agg #[.int .i64 0, .int .i64 0, .int .i64 0, .int .i64 0, .slice none 0 0], .int .i64 3]) (by simp [results, Try.results15, go_sem, q0, q1, q2, q3, q4]) rfl (hgf.out _ _ ?_)
      exact givesU_none BF
    · have e1 : unE l = 0 := by unfold unE; rw [if_pos h0, if_neg (by rw [hln.out]; exact h1)]
      have e2 : unF l = fsF l := by unfold unF; rw [if_pos e1]
      have hgf : Hid (∀ e w', GivesU w (fsF l) (fsE l) e w' → GivesU w (unF l) (unE l) e w') := Lib.hid (by rw [e1, e2, h0]; exact fun _ _ h => h)
      clear e1 e2 h0
      go_wp2
      clear b0 b1 b2 b3 b4 g0 g1 g2 g3 g4
      have rF := (((((r1.out.set 0 (.int .i64 (fsF l).v)).set 1 (.int .i64 (fsF l).e)).set 2 (.int .i64 (fsF l).s)).set 3 (.int .i64 (fsF l).a)).set 4 (.slice A (fsF l).body.length c)).alloc (.cells (cf (fsF l) A c) 24)
      have BF := (hfin.out (.int .i64 (fsF l).v) (.int .i64 (fsF l).e) (.int .i64 (fsF l).s) (.int .i64 (fsF l).a) (.slice A (fsF l).body.length c) w1 hB1.out).alloc (Nat.le_trans hB1.out.size (by simp)) (.cells (cf (fsF l) A c) 24)
      have oF := ((own_set (j := 4) (own_set (j := 3) (own_set (j := 2) (own_set (j := 1) (own_set (j := 0) ho.out hWs.out (.int .i64 (fsF l).v)) hWs.out (.int .i64 (fsF l).e)) hWs.out (.int .i64 (fsF l).s)) hWs.out (.int .i64 (fsF l).a)) hWs.out (.slice A (fsF l).body.length c)).alloc (.cells (cf (fsF l) A c) 24)).more (Nat.le_of_lt hWs.out)
      generalize ((((((w1.setCell ⟨w.heap.size, 0, none⟩ (.int .i64 (fsF l).v)).setCell ⟨w.heap.size, 1, none⟩ (.int .i64 (fsF l).e)).setCell ⟨w.heap.size, 2, none⟩ (.int .i64 (fsF l).s)).setCell ⟨w.heap.size, 3, none⟩ (.int .i64 (fsF l).a)).setCell ⟨w.heap.size, 4, none⟩ (.slice A (fsF l).body.length c)).alloc (.cells (cf (fsF l) A c) 24)) = WF at rF BF oF ⊢
      have q0 : WF.cell? ⟨w.heap.size, 0, none⟩ = some (.int .i64 (fsF l).v) := rF.cell (i := 0) (by omega)
      have q1 : WF.cell? ⟨w.heap.size, 1, none⟩ = some (.int .i64 (fsF l).e) := rF.cell (i := 1) (by omega)
      have q2 : WF.cell? ⟨w.heap.size, 2, none⟩ = some (.int .i64 (fsF l).s) := rF.cell (i := 2) (by omega)
      have q3 : WF.cell? ⟨w.heap.size, 3, none⟩ = some (.int .i64 (fsF l).a) := rF.cell (i := 3) (by omega)
      have q4 : WF.cell? ⟨w.heap.size, 4, none⟩ = some (.slice A (fsF l).body.length c) := rF.cell (i := 4) (by omega)
      refine bodyPost_ret (v := .tuple #[.agg (cf (fsF l) A c), .int .i64 (fsE l)]) (by simp [results, Try.results15, go_sem, q0, q1, q2, q3, q4]) rfl (hgf.out _ _ ?_)
      exact ⟨A, c, rfl, oF, BF⟩
  · have hne : ((fsE l : Int) == 0) = false := by rw [beq_eq_false_iff_ne]; omega
    have e1 : unE l = fsE l := by unfold unE; rw [if_neg h0]
    have e2 : unF l = fsF l := by rw [un_no (by omega), (fs_no h0).1]
    have hgf : Hid (∀ e w', GivesU w (fsF l) (fsE l) e w' → GivesU w (unF l) (unE l) e w') := Lib.hid (by rw [e1, e2]; exact fun _ _ h => h)
    clear e1 e2 h0
    go_wp2
    clear b0 b1 b2 b3 b4 g0 g1 g2 g3 g4
    have rF := (((((r1.out.set 0 (.int .i64 (fsF l).v)).set 1 (.int .i64 (fsF l).e)).set 2 (.int .i64 (fsF l).s)).set 3 (.int .i64 (fsF l).a)).set 4 (.slice A (fsF l).body.length c)).alloc (.cells (cf (fsF l) A c) 24)
    have BF := (hfin.out (.int .i64 (fsF l).v) (.int .i64 (fsF l).e) (.int .i64 (fsF l).s) (.int .i64 (fsF l).a) (.slice A (fsF l).body.length c) w1 hB1.out).alloc (Nat.le_trans hB1.out.size (by simp)) (.cells (cf (fsF l) A c) 24)
    have oF := ((own_set (j := 4) (own_set (j := 3) (own_set (j := 2) (own_set (j := 1) (own_set (j := 0) ho.out hWs.out (.int .i64 (fsF l).v)) hWs.out (.int .i64 (fsF l).e)) hWs.out (.int .i64 (fsF l).s)) hWs.out (.int .i64 (fsF l).a)) hWs.out (.slice A (fsF l).body.length c)).alloc (.cells (cf (fsF l) A c) 24)).more (Nat.le_of_lt hWs.out)
    generalize ((((((w1.setCell ⟨w.heap.size, 0, none⟩ (.int .i64 (fsF l).v)).setCell ⟨w.heap.size, 1, none⟩ (.int .i64 (fsF l).e)).setCell ⟨w.heap.size, 2, none⟩ (.int .i64 (fsF l).s)).setCell ⟨w.heap.size, 3, none⟩ (.int .i64 (fsF l).a)).setCell ⟨w.heap.size, 4, none⟩ (.slice A (fsF l).body.length c)).alloc (.cells (cf (fsF l) A c) 24)) = WF at rF BF oF ⊢
    have q0 : WF.cell? ⟨w.heap.size, 0, none⟩ = some (.int .i64 (fsF l).v) := rF.cell (i := 0) (by omega)
    have q1 : WF.cell? ⟨w.heap.size, 1, none⟩ = some (.int .i64 (fsF l).e) := rF.cell (i := 1) (by omega)
    have q2 : WF.cell? ⟨w.heap.size, 2, none⟩ = some (.int .i64 (fsF l).s) := rF.cell (i := 2) (by omega)
    have q3 : WF.cell? ⟨w.heap.size, 3, none⟩ = some (.int .i64 (fsF l).a) := rF.cell (i := 3) (by omega)
    have q4 : WF.cell? ⟨w.heap.size, 4, none⟩ = some (.slice A (fsF l).body.length c) := rF.cell (i := 4) (by omega)
    refine bodyPost_ret (v := .tuple #[.agg (cf (fsF l) A c), .int .i64 (fsE l)]) (by simp [results, Try.results15, go_sem, q0, q1, q2, q3, q4]) rfl (hgf.out _ _ ?_)
    exact ⟨A, c, rfl, oF, BF⟩

set_option maxRecDepth 100000 in
theorem unpacks (a : Option Addr) (n cap : Nat) (l : List Nat) (w : World) (hb : BL w a n l) (hcap : n ≤ cap) (hc9 : cap ≤ 9223372036854775807) :
    Calls Try.prog 4 #[.slice a n cap] w fun e w' => e = .returned (.bool true) ∧ Below w.heap.size w w' := by
  replace hb := Lib.hid hb
  replace hcap := Lib.hid hcap
  replace hc9 := Lib.hid hc9
  go_enter Try.func4, Try.ntmps4
  go_wp2_with (fail)
  refine (unpack_any a n cap l w hb.out hcap.out hc9.out).mono ?_
  rintro e w1 ⟨A1, c1, rfl, ho1, hB1⟩
  have hal := al0 w1 (.cells (cf (unF l) A1 c1) 24)
  have hF2 := Lib.hid (FB.new w1 (unF l) A1 c1)
  have hg2 := Lib.hid ((own_bl ho1).below hal)
  have hb2 := Lib.hid (hb.out.below (trans0 hB1 hal))
  have hW2 := Lib.hid (trans0 hB1 hal)
  clear ho1 hB1 hal hb
  go_wp2_with (fail)
  generalize w1.alloc (.cells (cf (unF l) A1 c1) 24) = w2 at *
  refine (runpack_any a n cap l w2 hb2.out hcap.out hc9.out).mono ?_
  rintro e w3 ⟨A3, c3, rfl, ho3, hB3⟩
  have hal := al0 w3 (.cells (cf (unF l) A3 c3) 24)
  have hF4 := Lib.hid (hF2.out.below (trans0 hB3 hal))
  have hG4 := Lib.hid (FB.new w3 (unF l) A3 c3)
  have hf4 := Lib.hid (hg2.out.below (trans0 hB3 hal))
  have hg4 := Lib.hid ((own_bl ho3).below hal)
  have hW4 := Lib.hid (trans0 hW2.out (trans0 hB3 hal))
  clear ho3 hB3 hal hF2 hg2 hb2 hW2
  generalize unF l = f at *
  generalize unE l = E at *
  go_wp2_with (fail)
  generalize w3.alloc (.cells (cf f A3 c3) 24) = w4 at *
  refine (awake_any w4).mono ?_
  rintro e w5 ⟨rfl, hB5⟩
  have hF5 := hF4.out.below hB5
  have hG5 := hG4.out.below hB5
  obtain ⟨q0, q1, q2, q3, q4⟩ := hF5.cells
  obtain ⟨r0, r1, r2, r3, r4⟩ := hG5.cells
  have hf5 := Lib.hid (hf4.out.below hB5)
  have hg5 := Lib.hid (hg4.out.below hB5)
  have hW5 := Lib.hid (trans0 hW4.out hB5)
  clear hB5 hF5 hG5 hF4 hG4 hf4 hg4 hW4
  go_wp2_with (fail)
  refine (same5 f A1 c1 A3 c3 w5 hf5.out hg5.out).mono ?_
  rintro e w6 ⟨rfl, hB6⟩
  have hW6 := Lib.hid (trans0 hW5.out hB6)
  clear hB6 q0 q1 q2 q3 q4 r0 r1 r2 r3 r4
  go_wp2
  go_ret
  exact ⟨rfl, hW6.out⟩
theorem unpacks_row (a : Option Addr) (n cap : Nat) (zs : List Int) (w : World) (h : IsRow .u8 w a n cap zs) :
    Calls Try.prog 4 #[.slice a n cap] w fun e w' => e = .returned (.bool true) ∧ Below w.heap.size w w' :=
  unpacks a n cap _ w (row_bl h) (row_len h).1 (row_len h).2
end Go.Proofs.Ytganbpocpppabaa.fraO
