/- The contracts of Unpack in the program, of two frames the same, and of Pack. -/
import Derived.Test.YtganbpocpppabaaFraD
namespace Go.Proofs.Ytganbpocpppabaa.fraE
open Go.ChangeShapes Go.WideShapes Go.ChangeAt Go.RowKit Go.Deep
open numM numN rowA byt numA numB numC numD fraM fraB fraC fraD

theorem first_any (a : Option Addr) (n cap : Nat) (l : List Nat) (w : World) (hb : BL w a n l) (hcap : n ≤ cap) (hc9 : cap ≤ 9223372036854775807) :
    Calls Try.prog 26 #[.slice a n cap] w (GivesF w (fsF l) (fsN l) (fsE l)) := by
  by_cases h : szE l = 0
  · have h1 := (sz_fit h).2
    obtain ⟨b, off, rfl, _⟩ := hb.at (show 0 < n by have := hb.1; omega)
    exact first_sum b off n cap l w hb hcap hc9 h
  · have e : fsE l = szE l := by unfold fsE; rw [if_neg h]
    have e1 := fs_no (l := l) (by omega)
    rw [e, e1.1, e1.2]
    exact first_no a n cap l w hb hcap hc9 h

/-- What Unpack answers. -/
def GivesU (w : World) (f : Fm) (err : Nat) (e : Ending) (w' : World) : Prop :=
  ∃ A c, e = .returned (.tuple #[.agg (cf f A c), .int .i64 err]) ∧ Own w' w.heap.size (.slice A f.body.length c) f.body.length f.body ∧ Below w.heap.size w w'
theorem givesU_none {w w' : World} {err : Nat} (hB : Below w.heap.size w w') : GivesU w Fm.zero err (.returned (.tuple #[.agg #[.int .i64 0, .int .i64 0, .int .i64 0, .int .i64 0, .slice none 0 0], .int .i64 err])) w' := ⟨none, 0, rfl, Own.nil_ w' _, hB⟩

theorem cfrow (w : World) (f : Fm) (A : Option Addr) (c : Nat) : (w.alloc (.cells (cf f A c) 24)).rowIs w.heap.size 24 5 (fun i => (cf f A c).getD i undef) := by
  have h := World.rowIs_alloc w (cf f A c) 24 (fun i => (cf f A c).getD i undef) (fun i hi => ?_)
  · exact h
  · have : i = 0 ∨ i = 1 ∨ i = 2 ∨ i = 3 ∨ i = 4 := by simp at hi; omega
    rcases this with rfl | rfl | rfl | rfl | rfl <;> rfl

theorem fin5 (w : World) (x0 x1 x2 x3 x4 : Value) (w2 : World) (h : Below w.heap.size w w2) :
    Below w.heap.size w (((((w2.setCell ⟨w.heap.size, 0, none⟩ x0).setCell ⟨w.heap.size, 1, none⟩ x1).setCell ⟨w.heap.size, 2, none⟩ x2).setCell ⟨w.heap.size, 3, none⟩ x3).setCell ⟨w.heap.size, 4, none⟩ x4) :=
  ((((h.setCell (by simp) _).setCell (by simp) _).setCell (by simp) _).setCell (by simp) _).setCell (by simp) _
set_option maxRecDepth 100000 in
theorem unpack_any (a : Option Addr) (n cap : Nat) (l : List Nat) (w : World) (hb : BL w a n l) (hcap : n ≤ cap) (hc9 : cap ≤ 9223372036854775807) :
    Calls Try.prog 14 #[.slice a n cap] w (GivesU w (unF l) (unE l)) := by
  have hln := Lib.hid hb.1
  have hBa := Lib.hid ((Below.refl w.heap.size w).alloc (Nat.le_refl _) (.cells #[.int .i64 0, .int .i64 0, .int .i64 0, .int .i64 0, .slice none 0 0] 24))
  have r0 := five w 24
  replace r0 := Lib.hid r0
  have hb' := Lib.hid (hb.below hBa.out)
  have hn9 := hb.2.1
  clear hb
  go_enter Try.func14, Try.ntmps14
  go_wp2_with (fail)
  generalize w.alloc (.cells #[.int .i64 0, .int .i64 0, .int .i64 0, .int .i64 0, .slice none 0 0] 24) = W at *
  refine (first_any a n cap l W hb'.out hcap hc9).mono ?_
  rintro e w1 ⟨A, c, rfl, ho, hB⟩
  have hB1 := Lib.hid (hBa.out.trans (hB.mono hBa.out.size))
  have r1 := Lib.hid (r0.out.of_block (hB.block w.heap.size r0.out.lt))
  replace ho := Lib.hid ho
  have hlt1 : w.heap.size < w1.heap.size := r1.out.lt
  have hWs := Lib.hid r0.out.lt
  have b0 : w1.cell? ⟨w.heap.size, 0, none⟩ = some (.int .i64 0) := r1.out.cell (i := 0) (by omega)
  have b1 : w1.cell? ⟨w.heap.size, 1, none⟩ = some (.int .i64 0) := r1.out.cell (i := 1) (by omega)
  have b2 : w1.cell? ⟨w.heap.size, 2, none⟩ = some (.int .i64 0) := r1.out.cell (i := 2) (by omega)
  have b3 : w1.cell? ⟨w.heap.size, 3, none⟩ = some (.int .i64 0) := r1.out.cell (i := 3) (by omega)
  have b4 : w1.cell? ⟨w.heap.size, 4, none⟩ = some (.slice none 0 0) := r1.out.cell (i := 4) (by omega)
  have g0 := r1.out.frozen 0
  have g1 := r1.out.frozen 1
  have g2 := r1.out.frozen 2
  have g3 := r1.out.frozen 3
  have g4 := r1.out.frozen 4
  clear hB
  have hfin := Lib.hid (fin5 w)
  by_cases h0 : fsE l = 0
  · have hne : ((fsE l : Int) != 0) = false := by rw [bne_eq_false_iff_eq]; omega
    by_cases h1 : fsN l < n
    · have e1 : unE l = 3 := by unfold unE; rw [if_pos h0, if_pos (by rw [hln.out]; exact h1)]
      have e2 := un_no (l := l) (by omega)
      have hgf : Hid (∀ e w', GivesU w Fm.zero 3 e w' → GivesU w (unF l) (unE l) e w') := Lib.hid (by rw [e1, e2]; exact fun _ _ h => h)
      clear e1 e2 h0
      go_wp2
      clear b0 b1 b2 b3 b4 g0 g1 g2 g3 g4
      have rF := (((((r1.out.set 0 (.int .i64 0)).set 1 (.int .i64 0)).set 2 (.int .i64 0)).set 3 (.int .i64 0)).set 4 (.slice none 0 0)).alloc (.cells (cf (fsF l) A c) 24)
      have BF := (hfin.out (.int .i64 0) (.int .i64 0) (.int .i64 0) (.int .i64 0) (.slice none 0 0) w1 hB1.out).alloc (Nat.le_trans hB1.out.size (by simp)) (.cells (cf (fsF l) A c) 24)
      generalize ((((((w1.setCell ⟨w.heap.size, 0, none⟩ (.int .i64 0)).setCell ⟨w.heap.size, 1, none⟩ (.int .i64 0)).setCell ⟨w.heap.size, 2, none⟩ (.int .i64 0)).setCell ⟨w.heap.size, 3, none⟩ (.int .i64 0)).setCell ⟨w.heap.size, 4, none⟩ (.slice none 0 0)).alloc (.cells (cf (fsF l) A c) 24)) = WF at rF BF ⊢
      have q0 : WF.cell? ⟨w.heap.size, 0, none⟩ = some (.int .i64 0) := rF.cell (i := 0) (by omega)
      have q1 : WF.cell? ⟨w.heap.size, 1, none⟩ = some (.int .i64 0) := rF.cell (i := 1) (by omega)
      have q2 : WF.cell? ⟨w.heap.size, 2, none⟩ = some (.int .i64 0) := rF.cell (i := 2) (by omega)
      have q3 : WF.cell? ⟨w.heap.size, 3, none⟩ = some (.int .i64 0) := rF.cell (i := 3) (by omega)
      have q4 : WF.cell? ⟨w.heap.size, 4, none⟩ = some (.slice none 0 0) := rF.cell (i := 4) (by omega)
      refine bodyPost_ret (v := .tuple #[.agg #[.int .i64 0, .int .i64 0, .int .i64 0, .int .i64 0, .slice none 0 0], .int .i64 3]) (by simp [results, Try.results14, go_sem, q0, q1, q2, q3, q4]) rfl (hgf.out _ _ ?_)
      exact givesU_none BF
    · have e1 : unE l = 0 := by unfold unE; rw [if_pos h0, if_neg (by rw [hln.out]; exact h1)]
      have e2 : unF l = fsF l := by unfold unF; rw [if_pos e1]
      have hgf : Hid (∀ e w', GivesU w (fsF l) 0 e w' → GivesU w (unF l) (unE l) e w') := Lib.hid (by rw [e1, e2]; exact fun _ _ h => h)
      clear e1 e2 h0
      go_wp2
      clear b0 b1 b2 b3 b4 g0 g1 g2 g3 g4
      have rF := (((((r1.out.set 0 (.int .i64 (fsF l).v)).set 1 (.int .i64 (fsF l).e)).set 2 (.int .i64 (fsF l).s)).set 3 (.int .i64 (fsF l).a)).set 4 (.slice A (fsF l).body.length c)).alloc (.cells (cf (fsF l) A c) 24)
      have BF := (hfin.out (.int .i64 (fsF l).v) (.int .i64 (fsF l).e) (.int .i64 (fsF l).s) (.int .i64 (fsF l).a) (.slice A (fsF l).body.length c) w1 hB1.out).alloc (Nat.le_trans hB1.out.size (by simp)) (.cells (cf (fsF l) A c) 24)
      have oF := ((own_set (j := 4) (own_set (j := 3) (own_set (j := 2) (own_set (j := 1) (own_set (j := 0) ho.out hWs.out (.int .i64 (fsF l).v)) hWs.out (.int .i64 (fsF l).e)) hWs.out (.int .i64 (fsF l).s)) hWs.out (.int .i64 (fsF l).a)) hWs.out (.slice A (fsF l).body.length c)).alloc (.cells (cf (fsF l) A c) 24)).more (Nat.le_of_lt hWs.out)
      generalize ((((((w1.setCell ⟨w.heap.size, 0, none⟩ (.int .i64 (fsF l).v)).setCell ⟨w.heap.size, 1, none⟩ (.int .i64 (fsF l).e)).setCell ⟨w.heap.size, 2, none⟩ (.int .i64 (fsF l).s)).setCell ⟨w.heap.size, 3, none⟩ (.int .i64 (fsF l).a)).setCell ⟨w.heap.size, 4, none⟩ (.slice A (fsF l).body.length c)).alloc (.cells (cf (fsF l) A c) 24)) = WF at rF BF oF ⊢
      have q0 : WF.cell? ⟨w.heap.size, 0, none⟩ = some (.int .i64 (fsF l).v) := rF.cell (i := 0) (by omega)
      have q1 : WF.cell? ⟨w.heap.size, 1, none⟩ = some (.int .i64 (fsF l).e) := rF.cell (i := 1) (by omega)
      have q2 : WF.cell? ⟨w.heap.size, 2, none⟩ = some (.int .i64 (fsF l).s) := rF.cell (i := 2) (by omega)
      have q3 : WF.cell? ⟨w.heap.size, 3, none⟩ = some (.int .i64 (fsF l).a) := rF.cell (i := 3) (by omega)
      have q4 : WF.cell? ⟨w.heap.size, 4, none⟩ = some (.slice A (fsF l).body.length c) := rF.cell (i := 4) (by omega)
      refine bodyPost_ret (v := .tuple #[.agg (cf (fsF l) A c), .int .i64 0]) (by simp [results, Try.results14, go_sem, q0, q1, q2, q3, q4]) rfl (hgf.out _ _ ?_)
      exact ⟨A, c, rfl, oF, BF⟩
  · have hne : ((fsE l : Int) != 0) = true := by rw [bne_iff_ne]; omega
    have e1 : unE l = fsE l := by unfold unE; rw [if_neg h0]
    have e2 := un_no (l := l) (by omega)
    have hgf : Hid (∀ e w', GivesU w Fm.zero (fsE l) e w' → GivesU w (unF l) (unE l) e w') := Lib.hid (by rw [e1, e2]; exact fun _ _ h => h)
    clear e1 e2 h0
    go_wp2
    clear b0 b1 b2 b3 b4 g0 g1 g2 g3 g4
    have rF := (((((r1.out.set 0 (.int .i64 0)).set 1 (.int .i64 0)).set 2 (.int .i64 0)).set 3 (.int .i64 0)).set 4 (.slice none 0 0)).alloc (.cells (cf (fsF l) A c) 24)
    have BF := (hfin.out (.int .i64 0) (.int .i64 0) (.int .i64 0) (.int .i64 0) (.slice none 0 0) w1 hB1.out).alloc (Nat.le_trans hB1.out.size (by simp)) (.cells (cf (fsF l) A c) 24)
    generalize ((((((w1.setCell ⟨w.heap.size, 0, none⟩ (.int .i64 0)).setCell ⟨w.heap.size, 1, none⟩ (.int .i64 0)).setCell ⟨w.heap.size, 2, none⟩ (.int .i64 0)).setCell ⟨w.heap.size, 3, none⟩ (.int .i64 0)).setCell ⟨w.heap.size, 4, none⟩ (.slice none 0 0)).alloc (.cells (cf (fsF l) A c) 24)) = WF at rF BF ⊢
    have q0 : WF.cell? ⟨w.heap.size, 0, none⟩ = some (.int .i64 0) := rF.cell (i := 0) (by omega)
    have q1 : WF.cell? ⟨w.heap.size, 1, none⟩ = some (.int .i64 0) := rF.cell (i := 1) (by omega)
    have q2 : WF.cell? ⟨w.heap.size, 2, none⟩ = some (.int .i64 0) := rF.cell (i := 2) (by omega)
    have q3 : WF.cell? ⟨w.heap.size, 3, none⟩ = some (.int .i64 0) := rF.cell (i := 3) (by omega)
    have q4 : WF.cell? ⟨w.heap.size, 4, none⟩ = some (.slice none 0 0) := rF.cell (i := 4) (by omega)
    refine bodyPost_ret (v := .tuple #[.agg #[.int .i64 0, .int .i64 0, .int .i64 0, .int .i64 0, .slice none 0 0], .int .i64 (fsE l)]) (by simp [results, Try.results14, go_sem, q0, q1, q2, q3, q4]) rfl (hgf.out _ _ ?_)
    exact givesU_none BF
end Go.Proofs.Ytganbpocpppabaa.fraE
