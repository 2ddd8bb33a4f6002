/- The contracts of the calls on marks and on two commits: markOf, Mark, compare, few. -/
import Derived.Test.YtbfepdibblialaaOrdA
set_option linter.unusedVariables false
set_option maxRecDepth 100000
namespace Go.Proofs.Ytbfepdibblialaa.ordB
open Go.ChangeShapes Go.WideShapes Go.ChangeAt Go.RowKit Go.Deep
open opV chnM gen chnA chnR chnE ordA

theorem rmark_any (m : MR) (w : World) : Calls Try.prog 29 #[rv m] w fun e w' => e = .returned (mk m.k) ∧ Below w.heap.size w w' := by
  obtain ⟨ts, dc, tx, vs, A, c⟩ := m
  go_enter Try.func29, Try.ntmps29
  go_wp2
  exact bodyPost_ret (v := mk (ts, dc, tx)) (by simp [results, Try.results29, go_sem]) rfl ⟨rfl, ((Below.refl _ _).alloc (Nat.le_refl _) _).alloc (by simp) _⟩
/-- two of them -/
abbrev D2 (b1 o1 b2 o2 : Nat) (x y : MR) (w : World) : Prop := R4 b1 o1 x w ∧ R4 b2 o2 y w
theorem D2.below {b1 o1 b2 o2 : Nat} {x y : MR} {w w1 : World} (h : D2 b1 o1 b2 o2 x y w) (hb : Below w.heap.size w w1) : D2 b1 o1 b2 o2 x y w1 := ⟨h.1.below hb, h.2.below hb⟩
/-- a commit of at most twelve versions -/
def fw (m : MR) : MR := { m with vs := m.vs.take 12 }
theorem HV.few {w : World} {A : Option Addr} {c : Nat} {l : List Ver} (h : HV w A c l) : HV w A c (l.take 12) := by
  have hl : (l.take 12).length ≤ l.length := by simp; omega
  refine ⟨?_, h.nil_, Nat.le_trans hl h.le, h.top, by have := h.sm; omega⟩
  rcases h.row with h0 | ⟨b, off, e, h1, h2⟩
  · exact .inl (by omega)
  · refine .inr ⟨b, off, e, h1, fun i hi => ?_⟩
    have e9 : nt (l.take 12) i = nt l i := by rw [nt_at hi, nt_at (by omega), List.getElem_take]
    rw [e9]
    exact h2 i (by omega)
theorem few_any (m : MR) (w : World) (h : m.vs.length ≤ m.c) (h9 : m.c ≤ 9223372036854775807) : Calls Try.prog 11 #[rv m] w fun e w' => e = .returned (rv (fw m)) ∧ Below w.heap.size w w' := by
  obtain ⟨ts, dc, tx, vs, A, c⟩ := m
  have hB := Lib.hid (fun u v : Obj => (((Below.refl w.heap.size w).alloc (Nat.le_refl _) u).alloc (by simp) v : Below w.heap.size w ((w.alloc u).alloc v)))
  unfold fw
  simp only at h h9
  simp only [rv, List.length_take]
  obtain ⟨n, hn⟩ : ∃ n, vs.length = n := ⟨_, rfl⟩
  rw [hn] at h ⊢
  clear hn
  rcases (by omega : n ≤ 12 ∨ 12 < n) with h1 | h1
  · rw [show min 12 n = n by omega]
    have hI : (n : Int) ≤ 12 := by omega
    have hI2 : ¬ (12 : Int) < (n : Int) := by omega
    go_enter Try.func11, Try.ntmps11
    go_wp2
    all_goals exact bodyPost_ret (v := .agg #[.int .u64 ts, .int .i64 dc, .int .i64 tx, .slice A n c]) (by simp [results, Try.results11, go_sem]) rfl ⟨rfl, hB.out _ _⟩
  · rw [show min 12 n = 12 by omega]
    have hI : (12 : Int) < (n : Int) := by omega
    go_enter Try.func11, Try.ntmps11
    go_wp2
    all_goals exact bodyPost_ret (v := .agg #[.int .u64 ts, .int .i64 dc, .int .i64 tx, .slice A 12 c]) (by simp [results, Try.results11, go_sem]) rfl ⟨rfl, hB.out _ _⟩
end Go.Proofs.Ytbfepdibblialaa.ordB
