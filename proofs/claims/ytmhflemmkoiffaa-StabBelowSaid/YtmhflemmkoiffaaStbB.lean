/- The contract of New. -/
import Derived.Test.YtmhflemmkoiffaaStbA
set_option linter.unusedVariables false
set_option linter.unusedSimpArgs false
namespace Go.Proofs.Ytmhflemmkoiffaa.stbB
open Go.ChangeShapes Go.WideShapes Go.ChangeAt Go.RowKit Go.Deep
open stVA stVB stVC stVD stVF stVH stVP stbA

def newT (dc : Int) (n : Nat) (g : V) : Tb := ⟨dc, List.replicate n 0, newV 0 g, newV 0 g, 0, 0⟩
theorem ok_new {dc : Int} {n : Nat} (g : V) (hd : 0 ≤ dc ∧ dc < 4) (hn : 1 ≤ n ∧ n ≤ 4) : (newT dc n g).ok := ⟨hd, by show 1 ≤ (List.replicate n _).length ∧ (List.replicate n _).length ≤ 4; rw [List.length_replicate]; exact hn⟩
theorem eq_new (dc : Int) (n : Nat) (g : V) : (newT dc n g).eq := ⟨rfl, rfl, rfl, rfl, rfl⟩
set_option maxRecDepth 100000 in
set_option maxHeartbeats 1000000 in
theorem new_arg (dc n : Int) (g : V) (w : World) (h : dc < 0 ∨ 4 ≤ dc ∨ n < 1 ∨ 4 < n) : Calls Try.prog 6 #[.int .i64 dc, .int .i64 n, hV g] w fun r w' => r = .returned (.tuple #[.pointer none, .int .i64 1]) ∧ Below w.heap.size w w' := by
  have hB := Lib.hid (al0 w (.cells (aH g) 22))
  go_enter Try.func6, Try.ntmps6
  go_wp2_with (fail)
  refine (isdc_any dc _).mono ?_
  rintro e w1 ⟨rfl, rfl⟩
  by_cases h1 : dc < 0 ∨ 4 ≤ dc
  · rw [show isD dc = false from if_pos h1]
    go_wp2
    go_ret2
    exact ⟨rfl, hB.out⟩
  · rw [show isD dc = true from if_neg h1]
    have h2 : n < 1 ∨ 4 < n := by omega
    rcases h2 with h2 | h2
    · go_wp2
      go_ret2
      exact ⟨rfl, hB.out⟩
    · have h3 : ¬ n < 1 := by omega
      go_wp2
      go_ret2
      exact ⟨rfl, hB.out⟩
abbrev cN (dc : Int) (q n : Nat) (v : V) : Array Value := #[.int .i64 dc, .slice (some ⟨q, 0, none⟩) n n,
  .int .i64 v.e, .bool v.h0, .bool v.h1, .bool v.h2, .bool v.h3, .int .u64 v.t0, .int .u64 v.t1, .int .u64 v.t2, .int .u64 v.t3,
  .int .i64 v.e, .bool v.h0, .bool v.h1, .bool v.h2, .bool v.h3, .int .u64 v.t0, .int .u64 v.t1, .int .u64 v.t2, .int .u64 v.t3, .int .i64 0, .int .u64 0]
theorem T.new (X : World) {dc : Int} {n : Nat} (g : V) (hd : 0 ≤ dc ∧ dc < 4) (hn : 1 ≤ n ∧ n ≤ 4) : T (X.heap.size + 1) X.heap.size (newT dc n g) ((X.alloc (.cells (madeCells #[.int .u64 0] n) 29)).alloc (.cells (cN dc X.heap.size n (newV 0 g)) TT)) := by
  have hl : (newT dc n g).bs.length = n := List.length_replicate
  have hq := (World.rowIs_made X (.int .u64 0) n 29).alloc (.cells (cN dc X.heap.size n (newV 0 g)) TT)
  have hp := World.rowIs_alloc (X.alloc (.cells (madeCells #[.int .u64 0] n) 29)) (cN dc X.heap.size n (newV 0 g)) TT (fun i => (cT X.heap.size (newT dc n g)).getD i undef) (fun i hi => by
    show (cN dc X.heap.size n (newV 0 g))[i]? = some ((cT X.heap.size (newT dc n g)).getD i undef)
    unfold cT
    rw [hl]
    rcases tw2 (i := i) (by simpa using hi) with rfl | rfl | rfl | rfl | rfl | rfl | rfl | rfl | rfl | rfl | rfl | rfl | rfl | rfl | rfl | rfl | rfl | rfl | rfl | rfl | rfl | rfl <;> rfl)
  rw [World.size_alloc] at hp
  refine ⟨hp, ?_, by omega, ok_new g hd hn⟩
  rw [hl]
  refine hq.congr fun i hi => ?_
  show _ = Value.int .u64 ((List.replicate n (0 : Int)).getD i 0)
  simp [List.getD, hi]
theorem infoU : (Try.prog.info? 29).map (fun i => (i.zero, i.size, i.bytes)) = some (some (.int .u64 0), 1, 8) := by kernel_rfl
set_option maxRecDepth 100000 in
set_option maxHeartbeats 1000000 in
theorem new_ok (dc : Int) (n : Nat) (g : V) (w : World) (hd : 0 ≤ dc ∧ dc < 4) (hn : 1 ≤ n ∧ n ≤ 4) : Calls Try.prog 6 #[.int .i64 dc, .int .i64 n, hV g] w fun r w' => ∃ p q, r = .returned (.tuple #[.pointer (some ⟨p, 0, none⟩), .int .i64 0]) ∧ w.heap.size ≤ p ∧ w.heap.size ≤ q ∧ T p q (newT dc n g) w' ∧ Below w.heap.size w w' := by
  have hG := R4.cells (R4.new w g)
  have hmk := run_make_row' (P := Try.prog) 44 29 (.int .u64 0) 8 Try.underlying44 infoU rfl .i64 .i64 n (by omega) (by omega)
  have hB := Lib.hid (al0 w (.cells (aH g) 22))
  have h1 : ¬ dc < 0 := by omega
  have h2 : ¬ 4 ≤ dc := by omega
  have h3 : ¬ (n : Int) < 1 := by omega
  have h4 : ¬ 4 < (n : Int) := by omega
  obtain ⟨g0, g1, g2, g3⟩ := hG
  go_enter Try.func6, Try.ntmps6
  go_wp2_with (fail)
  refine (isdc_any dc _).mono ?_
  rintro e w1 ⟨rfl, rfl⟩
  rw [show isD dc = true from if_neg (by omega)]
  go_wp2_with (fail)
  refine (new_any 0 g _).mono ?_
  rintro e w2 ⟨rfl, hB2⟩
  have hBx := Lib.hid (trans0 hB.out hB2)
  have hR := Lib.hid (R9.new w2 (newV 0 g) 42)
  go_upto_region 4 with (fail)
  obtain ⟨c0, c1, c2, c3, c4, c5, c6, c7, c8⟩ := R9.v9 hR.out
  obtain ⟨d0, d1, d2, d3, d4, d5, d6, d7, d8⟩ := R9.v9 (hR.out.alloc (.cells (madeCells #[.int .u64 0] n) 29))
  go_region
  obtain ⟨W, hW⟩ : ∃ W, w2.alloc (.cells #[.int .i64 (newV 0 g).e, .bool (newV 0 g).h0, .bool (newV 0 g).h1, .bool (newV 0 g).h2, .bool (newV 0 g).h3, .int .u64 (newV 0 g).t0, .int .u64 (newV 0 g).t1, .int .u64 (newV 0 g).t2, .int .u64 (newV 0 g).t3] 42) = W := ⟨_, rfl⟩
  have hT := Lib.hid (T.new W g hd hn)
  have hz : W.heap.size = w2.heap.size + 1 := by rw [← hW, World.size_alloc]
  have hBz := Lib.hid (bal hBx.out (.cells #[.int .i64 (newV 0 g).e, .bool (newV 0 g).h0, .bool (newV 0 g).h1, .bool (newV 0 g).h2, .bool (newV 0 g).h3, .int .u64 (newV 0 g).t0, .int .u64 (newV 0 g).t1, .int .u64 (newV 0 g).t2, .int .u64 (newV 0 g).t3] 42))
  rw [hW] at hBz ⊢
  rw [← hz]
  clear hW hR c0 c1 c2 c3 c4 c5 c6 c7 c8 d0 d1 d2 d3 d4 d5 d6 d7 d8 g0 g1 g2 g3 hmk
  generalize decide ((n : Int) < 1) = x1
  generalize decide (4 < (n : Int)) = x2
  go_wp2
  go_ret2
  have hs := hBz.out.size
  exact ⟨W.heap.size + 1, W.heap.size, rfl, by omega, by omega, hT.out.drew, bdr (bal (bal hBz.out _) _)⟩
end Go.Proofs.Ytmhflemmkoiffaa.stbB
