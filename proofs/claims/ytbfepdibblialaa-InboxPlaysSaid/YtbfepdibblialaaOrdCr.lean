/- The contract of the document's Copy of a commit. -/
import Derived.Test.YtbfepdibblialaaOrdC
set_option linter.unusedVariables false
set_option linter.unusedSimpArgs false
set_option maxRecDepth 100000
namespace Go.Proofs.Ytbfepdibblialaa.ordCr
open Go.ChangeShapes Go.WideShapes Go.ChangeAt Go.RowKit Go.Deep
open opV chnM gen chnA chnR chnE ordA ordB ordC

theorem emp_own (w : World) (base : Nat) (h : base ≤ w.heap.size) : (w.alloc (.cells #[] 54)).ownsRow base 54 6 (.slice (some ⟨w.heap.size, 0, none⟩) 0 0) 0 [] :=
  ⟨rfl, .inr ⟨w.heap.size, 0, #[], rfl, h, heap_alloc_new w _, by omega, by unfold maxLen; omega, rfl, rfl⟩⟩
/-- the boxes behind the copying -/
theorem rcopied {w W w3 : World} {m : MR} {A3 : Option Addr} {c3 : Nat} (hB : Below w.heap.size w W) (hz : W.heap.size = w.heap.size + 1 + 1) (hb : P4 w.heap.size m W) (hr : P4 (w.heap.size + 1) default W)
    (ho : w3.ownsRow w.heap.size 54 6 (.slice A3 (0 + m.vs.length) c3) (0 + m.vs.length) ([] ++ fl m.vs)) (hg : (W.alloc (.cells #[] 54)).drew.grownBy w3 (Value.slice (some ⟨W.heap.size, 0, none⟩) 0 0).ownBlock) (hat : (Value.slice A3 (0 + m.vs.length) c3).ownBlock = (Value.slice (some ⟨W.heap.size, 0, none⟩) 0 0).ownBlock ∨ (Value.slice A3 (0 + m.vs.length) c3).ownBlock = some (W.alloc (.cells #[] 54)).drew.heap.size) :
    P4 w.heap.size m w3 ∧ P4 (w.heap.size + 1) default w3 ∧ P4 (w.heap.size + 1) { m with A := A3, c := c3 } (put4 w3 (w.heap.size + 1) { m with A := A3, c := c3 }) ∧ GV (put4 w3 (w.heap.size + 1) { m with A := A3, c := c3 }) w.heap.size A3 c3 m.vs ∧ Below w.heap.size w (put4 w3 (w.heap.size + 1) { m with A := A3, c := c3 }) ∧ R4 w.heap.size 0 m (put4 w3 (w.heap.size + 1) { m with A := A3, c := c3 }) := by
  have hal : Below W.heap.size W (W.alloc (.cells #[] 54)).drew := (al0 W _).drew
  have hne : ∀ k, k < W.heap.size → some k ≠ (Value.slice (some ⟨W.heap.size, 0, none⟩) 0 0).ownBlock := fun k hk e => by
    change some k = some W.heap.size at e
    simp only [Option.some.injEq] at e
    omega
  have h0 : P4 w.heap.size m w3 := (P4.below hb hal).of_block (hg.block _ (by have := hal.size; have := hb.lt; omega) (fun e => hne _ hb.lt e))
  have h1 : P4 (w.heap.size + 1) default w3 := (P4.below hr hal).of_block (hg.block _ (by have := hal.size; have := hr.lt; omega) (fun e => hne _ hr.lt e))
  have hB3 : Below w.heap.size w w3 := (trans0 hB hal).grown hg (by have := hal.size; omega) (fun k e => by
    change some W.heap.size = some k at e
    simp only [Option.some.injEq] at e
    omega)
  rw [Nat.zero_add] at ho hat
  rw [List.nil_append] at ho
  refine ⟨h0, h1, h1.put _, ?_, put4_below hB3 (by omega) _, R4.of_block h0.r4 (put4_other (by omega) _ _)⟩
  have hG : GV w3 w.heap.size A3 c3 m.vs := ho
  refine hG.block fun k e => put4_other ?_ _ _
  rcases hat with h | h
  · rw [h] at e
    change some W.heap.size = some k at e
    simp only [Option.some.injEq] at e
    omega
  · rw [h] at e
    have h9 := hal.size
    simp only [Option.some.injEq] at e
    omega
set_option maxHeartbeats 2000000 in
theorem rcopy_any (m : MR) (w : World) (h : HV w m.A m.c m.vs) : Calls Try.prog 26 #[rv m] w fun e w' => ∃ A c, e = .returned (rv { m with A := A, c := c }) ∧ GV w' w.heap.size A c m.vs ∧ Below w.heap.size w w' := by
  obtain ⟨iV, hiV, hzV0, hzV1, hzV2⟩ := info_parts infoV
  obtain ⟨W, hW⟩ : ∃ W, (w.alloc (.cells #[.int .u64 m.ts, .int .i64 m.dc, .int .i64 m.tx, .slice m.A m.vs.length m.c] 30)).alloc (.cells #[.int .u64 0, .int .i64 0, .int .i64 0, .slice none 0 0] 30) = W := ⟨_, rfl⟩
  have hB : Below w.heap.size w W := by rw [← hW]; exact trans0 (al0 _ _) (al0 _ _)
  have hz : W.heap.size = w.heap.size + 1 + 1 := by rw [← hW]; simp
  have hb : P4 w.heap.size m W := by rw [← hW]; exact P4.below (P4.new w m) (al0 _ _)
  have hr : P4 (w.heap.size + 1) default W := by
    rw [← hW]
    have h2 : P4 _ default _ := P4.new (w.alloc (.cells #[.int .u64 m.ts, .int .i64 m.dc, .int .i64 m.tx, .slice m.A m.vs.length m.c] 30)) default
    rw [World.size_alloc] at h2
    exact h2
  have hv := Lib.hid (HV.stand (HV.below h (hB.trans ((al0 W (.cells #[] 54)).drew.mono hB.size))))
  have hemp := Lib.hid (emp_own W w.heap.size hB.size)
  have hfl := Lib.hid (fl_len m.vs)
  have hone := Lib.hid (fl_all m.vs)
  have hls : Hid (0 + m.vs.length ≤ maxLen ∧ (0 + m.vs.length) * 64 ≤ 140737488355328 ∧ w.heap.size ≤ (W.alloc (.cells #[] 54)).drew.heap.size) := Lib.hid ⟨by have := h.sm; unfold maxLen; omega, by have := h.sm; omega, by have := hB.size; have := (al0 W (.cells #[] 54)).size; exact Nat.le_trans ‹_› ‹_›⟩
  have hend := Lib.hid (fun A3 c3 w3 => rcopied (w3 := w3) (A3 := A3) (c3 := c3) (m := m) hB hz hb hr)
  have hs0 := Lib.hid (P4.below hb (below_drew W)).r4
  have hs1 := Lib.hid (P4.below hb (al0 W (.cells #[] 54)).drew).r4
  replace hW := Lib.hid hW
  replace hz := Lib.hid hz
  clear h hB hb hr
  obtain ⟨ts, dc, tx, vs, A, c⟩ := m
  simp only at hend hs0 hs1 hv hls ⊢
  go_enter Try.func26, Try.ntmps26
  go_upto_region 1 with (fail)
  rw [hW.out]
  go_region_held3 (fun w' => R4 w.heap.size 0 ⟨ts, dc, tx, vs, A, c⟩ w')
    (first | with_reducible exact hs0.out | with_reducible exact hs1.out | with_reducible exact hs2.out | with_reducible exact hs3.out | fail)
    ((refine step_gen rfl (.tmp 9) (.tmp 11) 28 rfl w.heap.size 54 iV _ 6 64 Try.underlying28 hiV hzV0 hzV1 hzV2 rfl (by decide) (.slice (some ⟨W.heap.size, 0, none⟩) 0 0) 0 [] (by rfl) hemp.out A vs.length c (fl vs) (by rfl) hfl.out hv.out hone.out hls.out.1 hls.out.2.1 hls.out.2.2 ?_; intro A3 c3 w3 hr3 hg3 hat3; obtain ⟨hq0, hq1, hq2, hq3, hq4, hq5⟩ := hend.out A3 c3 w3 hr3 hg3 hat3; have hs2 := Lib.hid hq0.r4; have hs3 := Lib.hid hq5; obtain ⟨p0, p1, p2, p3⟩ := P4.r4 hq1; obtain ⟨t0, t1, t2, t3⟩ := P4.fz hq1; replace hq2 := Lib.hid hq2; replace hq3 := Lib.hid hq3; replace hq4 := Lib.hid hq4; clear hr3 hg3 hat3 hq0 hq1 hq5))
  all_goals
    have hRq := hq2.out
    have hGq := hq3.out
    have hfq := hq4.out
    change Exit.then _ _ _ _ (put4 w3 (w.heap.size + 1) ⟨ts, dc, tx, vs, A3, c3⟩)
    clear hs2 hs3 hq2 hq3 hq4 p0 p1 p2 p3 t0 t1 t2 t3
    generalize put4 w3 (w.heap.size + 1) ⟨ts, dc, tx, vs, A3, c3⟩ = w9 at *
    obtain ⟨y0, y1, y2, y3⟩ := P4.r4 hRq
    replace hRq := Lib.hid hRq
    replace hGq := Lib.hid hGq
    replace hfq := Lib.hid hfq
    go_wp2
    refine bodyPost_ret (v := rv ⟨ts, dc, tx, vs, A3, c3⟩) ?_ rfl ⟨_, _, rfl, hGq.out, hfq.out⟩
    clear hRq hfq hGq
    simp [results, Try.results26, go_sem, y0, y1, y2, y3]
end Go.Proofs.Ytbfepdibblialaa.ordCr
