/- The contracts of the calls on marks and on two commits: markOf, Mark, compare, few. -/
import Derived.Test.YtipnmgihbpbonaaOrdA
set_option linter.unusedVariables false
set_option maxRecDepth 100000
namespace Go.Proofs.Ytipnmgihbpbonaa.ordB
open Go.ChangeShapes Go.WideShapes Go.ChangeAt Go.RowKit Go.Deep
open opV chnM gen chnA chnR chnE ordA

theorem mark_any (m : MR) (w : World) : Calls Try.prog 34 #[rv m] w fun e w' => e = .returned (mk m.k) ∧ Below w.heap.size w w' := by
  obtain ⟨ts, dc, tx, vs, A, c⟩ := m
  go_enter Try.func34, Try.ntmps34
  go_wp2
  exact bodyPost_ret (v := mk (ts, dc, tx)) (by simp [results, Try.results34, go_sem]) rfl ⟨rfl, ((Below.refl _ _).alloc (Nat.le_refl _) _).alloc (by simp) _⟩
theorem rmark_any (m : MR) (w : World) : Calls Try.prog 21 #[rv m] w fun e w' => e = .returned (mk m.k) ∧ Below w.heap.size w w' := by
  obtain ⟨ts, dc, tx, vs, A, c⟩ := m
  go_enter Try.func21, Try.ntmps21
  go_wp2
  exact bodyPost_ret (v := mk (ts, dc, tx)) (by simp [results, Try.results21, go_sem]) rfl ⟨rfl, ((Below.refl _ _).alloc (Nat.le_refl _) _).alloc (by simp) _⟩
/-- two of them -/
abbrev D2 (b1 o1 b2 o2 : Nat) (x y : MR) (w : World) : Prop := R4 b1 o1 x w ∧ R4 b2 o2 y w
theorem D2.below {b1 o1 b2 o2 : Nat} {x y : MR} {w w1 : World} (h : D2 b1 o1 b2 o2 x y w) (hb : Below w.heap.size w w1) : D2 b1 o1 b2 o2 x y w1 := ⟨h.1.below hb, h.2.below hb⟩
set_option maxHeartbeats 1000000 in
theorem compare_any (x y : MR) (w : World) : Calls Try.prog 25 #[rv x, rv y] w fun e w' => e = .returned (.int .i64 (cm x.k y.k)) ∧ Below w.heap.size w w' := by
  have h1 := (R4.new w x 32).below (al0 _ (.cells #[.int .u64 y.ts, .int .i64 y.dc, .int .i64 y.tx, .slice y.A y.vs.length y.c] 32))
  have h2 := R4.new (w.alloc (.cells #[.int .u64 x.ts, .int .i64 x.dc, .int .i64 x.tx, .slice x.A x.vs.length x.c] 32)) y 32
  have hB := trans0 (al0 w (.cells #[.int .u64 x.ts, .int .i64 x.dc, .int .i64 x.tx, .slice x.A x.vs.length x.c] 32)) (al0 _ (.cells #[.int .u64 y.ts, .int .i64 y.dc, .int .i64 y.tx, .slice y.A y.vs.length y.c] 32))
  rw [World.size_alloc] at h2
  obtain ⟨W, hW⟩ : ∃ W, (w.alloc (.cells #[.int .u64 x.ts, .int .i64 x.dc, .int .i64 x.tx, .slice x.A x.vs.length x.c] 32)).alloc (.cells #[.int .u64 y.ts, .int .i64 y.dc, .int .i64 y.tx, .slice y.A y.vs.length y.c] 32) = W := ⟨_, rfl⟩
  rw [hW] at h1 h2 hB
  have hS : Hid (D2 w.heap.size 0 (w.heap.size + 1) 0 x y W.drew ∧ Below w.heap.size w W.drew) := Lib.hid ⟨⟨h1, h2⟩, hB.drew⟩
  obtain ⟨kx, hkx⟩ : ∃ k, x.k = k := ⟨_, rfl⟩
  obtain ⟨ky, hky⟩ : ∃ k, y.k = k := ⟨_, rfl⟩
  have hmx := Lib.hid (mark_any x)
  have hmy := Lib.hid (mark_any y)
  rw [hkx] at hmx
  rw [hky] at hmy
  rw [hkx, hky]
  clear hkx hky
  replace hW := Lib.hid hW
  clear h1 h2 hB
  go_enter Try.func25, Try.ntmps25
  go_wp2
  rw [hW.out]
  go_region_held3 (fun w' => D2 w.heap.size 0 (w.heap.size + 1) 0 x y w' ∧ Below w.heap.size w w')
    (first | with_reducible exact hS.out | with_reducible assumption | with_reducible exact ⟨D2.below (And.left (by assumption)) (by assumption), trans0 (And.right (by assumption)) (by assumption)⟩ | fail)
    (first
      | (go_at_call 34; ((with_reducible refine (hmx.out _).mono ?_); rintro e w' ⟨rfl, hB⟩))
      | (go_at_call 34; ((with_reducible refine (hmy.out _).mono ?_); rintro e w' ⟨rfl, hB⟩))
      | (go_at_call 33; ((with_reducible refine (cmp_any kx ky _).mono ?_); rintro e w' ⟨rfl, hB⟩)) | fail)
  all_goals
    rename_i hHeld
    go_wp2
    go_ret
    exact ⟨rfl, hHeld.2⟩
/-- a commit of at most twelve versions -/
def fw (m : MR) : MR := { m with vs := m.vs.take 12 }
theorem HV.few {w : World} {A : Option Addr} {c : Nat} {l : List Ver} (h : HV w A c l) : HV w A c (l.take 12) := by
  have hl : (l.take 12).length ≤ l.length := by simp; omega
  refine ⟨?_, h.nil_, Nat.le_trans hl h.le, h.top, by have := h.sm; omega⟩
  rcases h.row with h0 | ⟨b, off, e, h1, h2⟩
  · exact .inl (by omega)
  · refine .inr ⟨b, off, e, h1, fun i hi => ?_⟩
    have e9 : nt (l.take 12) i = nt l i := by rw [nt_at hi, nt_at (by omega), List.getElem_take]
    rw [e9]
    exact h2 i (by omega)
theorem few_any (m : MR) (w : World) (h : m.vs.length ≤ m.c) (h9 : m.c ≤ 9223372036854775807) : Calls Try.prog 10 #[rv m] w fun e w' => e = .returned (rv (fw m)) ∧ Below w.heap.size w w' := by
  obtain ⟨ts, dc, tx, vs, A, c⟩ := m
  have hB := Lib.hid (fun u v : Obj => (((Below.refl w.heap.size w).alloc (Nat.le_refl _) u).alloc (by simp) v : Below w.heap.size w ((w.alloc u).alloc v)))
  unfold fw
  simp only at h h9
  simp only [rv, List.length_take]
  obtain ⟨n, hn⟩ : ∃ n, vs.length = n := ⟨_, rfl⟩
  rw [hn] at h ⊢
  clear hn
  rcases (by omega : n ≤ 12 ∨ 12 < n) with h1 | h1
  · rw [show min 12 n = n by omega]
    have hI : (n : Int) ≤ 12 := by omega
    have hI2 : ¬ (12 : Int) < (n : Int) := by omega
    go_enter Try.func10, Try.ntmps10
    go_wp2
    all_goals exact bodyPost_ret (v := .agg #[.int .u64 ts, .int .i64 dc, .int .i64 tx, .slice A n c]) (by simp [results, Try.results10, go_sem]) rfl ⟨rfl, hB.out _ _⟩
  · rw [show min 12 n = 12 by omega]
    have hI : (12 : Int) < (n : Int) := by omega
    go_enter Try.func10, Try.ntmps10
    go_wp2
    all_goals exact bodyPost_ret (v := .agg #[.int .u64 ts, .int .i64 dc, .int .i64 tx, .slice A 12 c]) (by simp [results, Try.results10, go_sem]) rfl ⟨rfl, hB.out _ _⟩
end Go.Proofs.Ytipnmgihbpbonaa.ordB
