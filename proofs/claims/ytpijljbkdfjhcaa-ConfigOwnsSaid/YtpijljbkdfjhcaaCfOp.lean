/- A configuration that came in by value is opened. -/
import Derived.Test.YtpijljbkdfjhcaaOpM
import Derived.Test.YtpijljbkdfjhcaaCfC
import Derived.Test.YtpijljbkdfjhcaaCfE
import Derived.Laws.IdiomArrays
import Derived.Test.YtpijljbkdfjhcaaOpC
set_option linter.unusedVariables false
set_option maxRecDepth 100000
namespace Go.Proofs.Ytpijljbkdfjhcaa.cfOp
open Go.ChangeShapes Go.WideShapes Go.ChangeAt Go.RowKit Go.Deep Go.Joins
open spnM spnA opM cfA cfC cfE

theorem cellsS : Try.prog.cellsOf 30 = 35 := by kernel_rfl
theorem cellsB4 : Try.prog.cellsOf 22 = 4 := by kernel_rfl
theorem cellsM4 : Try.prog.cellsOf 27 = 8 := by kernel_rfl
theorem cellsI21 : Try.prog.cellsOf 28 = 21 := by kernel_rfl
theorem cellsB : Try.prog.cellsOf 4 = 1 := by kernel_rfl
theorem cellsI : Try.prog.cellsOf 3 = 1 := by kernel_rfl
section
variable {H : Type} {enc : TypeId × Value → H} {W : World} {base : Nat}
theorem all_mem {e : TypeId} : ∀ {ds : List (DataW H)} {j : Nat} {d : DataW H}, ds[j]? = some d → ∀ n ∈ d.weights Try.prog e, n ∈ DataW.weightsAll Try.prog e ds
  | [], j, d, h, _, _ => by simp at h
  | x :: r, 0, d, h, n, hn => by
    simp at h; subst h
    simp only [DataW.weightsAll, List.mem_append]; exact .inl hn
  | x :: r, j + 1, d, h, n, hn => by
    simp at h
    simp only [DataW.weightsAll, List.mem_append]; exact .inr (all_mem h n hn)
theorem one_cell {l : List Value} {v : Value} {i : Nat} (h : (l.drop i).take 1 = [v]) : l[i]? = some v := by
  have h2 : ((l.drop i).take 1)[0]? = some v := by rw [h]; rfl
  rw [List.getElem?_take_of_lt (by omega), List.getElem?_drop] at h2
  simpa using h2
theorem int_at {n : Nat} {l : List Value} {y : DataW H × List MemPlace} (h : DataW.trod enc Try.prog W base (fun _ => true) true n 28 l = some y) : ∀ i, i < 21 → ∃ z : Int, l[i]? = some (.int .i64 z) := by
  obtain ⟨xs, m, _, _, _, hlen, hg⟩ := DataW.trod_array Try.underlying28 h
  intro i hi
  have g := hg i hi
  rw [cellsI, Nat.mul_one, List.getElem?_eq_getElem (by omega)] at g
  obtain ⟨x0, e, _⟩ := DataW.trod_int Try.underlying3 g
  exact ⟨x0, one_cell e⟩
theorem bool_at {n : Nat} {l : List Value} {y : DataW H × List MemPlace} (h : DataW.trod enc Try.prog W base (fun _ => true) true n 22 l = some y) : ∀ i, i < 4 → ∃ z : Bool, l[i]? = some (.bool z) := by
  obtain ⟨xs, m, _, _, _, hlen, hg⟩ := DataW.trod_array Try.underlying22 h
  intro i hi
  have g := hg i hi
  rw [cellsB, Nat.mul_one, List.getElem?_eq_getElem (by omega)] at g
  obtain ⟨x0, e, _⟩ := DataW.trod_bool Try.underlying4 g
  exact ⟨x0, one_cell e⟩
theorem map_cells {n : Nat} {d0 d1 : Value} {y : DataW H × List MemPlace} (h : DataW.trod enc Try.prog W base (fun _ => true) true n 26 [d0, d1] = some y) (hw : Kept (y.1.weights Try.prog 26)) :
    ∃ (m : M) (A1 : Option Addr) (c1 : Nat) (A2 : Option Addr) (c2 : Nat), d0 = .slice A1 m.cs.length c1 ∧ d1 = .slice A2 m.ns.length c2 ∧ HM W A1 c1 A2 c2 m := by
  obtain ⟨xs, n, _, hx, hcl, hlen, hg⟩ := DataW.trod_struct Try.underlying26 h
  have hone := hone_of one_map
  simp only [Try.underlying26] at hone
  match xs, hlen with
  | [y0, y1], _ =>
    have hx1 : y.1 = _ := congrArg Prod.fst hx
    obtain ⟨o0, k0⟩ := hone 0 _ rfl
    obtain ⟨o1, k1⟩ := hone 1 _ rfl
    have g0 := hg 0 _ rfl
    rw [o0, k0] at g0
    change DataW.trod enc Try.prog W base _ _ n 23 [d0] = some y0 at g0
    have g1 := hg 1 _ rfl
    rw [o1, k1] at g1
    change DataW.trod enc Try.prog W base _ _ n 24 [d1] = some y1 at g1
    obtain ⟨A1, n1, c1, l1, rfl, r1, q1, t1, u1, w1⟩ := fld_one (f := Value.string) Try.underlying23 (by kernel_rfl) (show _ = 16 by kernel_rfl) (fun n v y h => by
      obtain ⟨s, e, _⟩ := DataW.trod_string Try.underlying9 h
      simp only [List.cons.injEq, and_true] at e
      exact ⟨s, e⟩) g0 (fun z hz => hw z (by
      rw [hx1]
      simp only [DataW.weights, Try.underlying26]
      exact DataW.weights_mem_each (j := 0) (t := 23) (d := y0.1) rfl rfl z hz))
    obtain ⟨A2, n2, c2, l2, rfl, r2, q2, t2, u2, w2⟩ := fld_one (f := Value.int .i64) Try.underlying24 (by kernel_rfl) (show _ = 8 by kernel_rfl) (fun n v y h => by
      obtain ⟨x, e, _⟩ := DataW.trod_int Try.underlying3 h
      simp only [List.cons.injEq, and_true] at e
      exact ⟨x, e⟩) g1 (fun z hz => hw z (by
      rw [hx1]
      simp only [DataW.weights, Try.underlying26]
      exact DataW.weights_mem_each (j := 1) (t := 24) (d := y1.1) rfl rfl z hz))
    have e1 := r1.1
    have e2 := r2.1
    subst e1 e2
    exact ⟨⟨l1, l2⟩, A1, c1, A2, c2, rfl, rfl, ⟨r1, r2, q1, q2, t1, t2, u1, u2, by show l1.length * 16 ≤ _; omega, by show l2.length * 8 ≤ _; omega⟩⟩
theorem map_at {n : Nat} {q0 q1 q2 q3 q4 q5 q6 q7 : Value} {y : DataW H × List MemPlace} (h : DataW.trod enc Try.prog W base (fun _ => true) true n 27 [q0, q1, q2, q3, q4, q5, q6, q7] = some y) (hw : Kept (y.1.weights Try.prog 27)) :
    ∃ (m : Nat → M) (a : Wh), [q0, q1, q2, q3, q4, q5, q6, q7] = [.slice (a 0).A1 (m 0).cs.length (a 0).c1, .slice (a 0).A2 (m 0).ns.length (a 0).c2, .slice (a 1).A1 (m 1).cs.length (a 1).c1, .slice (a 1).A2 (m 1).ns.length (a 1).c2, .slice (a 2).A1 (m 2).cs.length (a 2).c1, .slice (a 2).A2 (m 2).ns.length (a 2).c2, .slice (a 3).A1 (m 3).cs.length (a 3).c1, .slice (a 3).A2 (m 3).ns.length (a 3).c2] ∧ ∀ i, i < 4 → HM W (a i).A1 (a i).c1 (a i).A2 (a i).c2 (m i) := by
  obtain ⟨xs, k, _, hx, _, hlen, hg⟩ := DataW.trod_array Try.underlying27 h
  have hx1 : y.1 = _ := congrArg Prod.fst hx
  have key : ∀ i, (hi : i < 4) → Kept ((xs[i]'(by omega)).1.weights Try.prog 26) := fun i hi z hz => hw z (by
    rw [hx1]
    simp only [DataW.weights, Try.underlying27]
    exact all_mem (j := i) (d := (xs[i]'(by omega)).1) (by rw [List.getElem?_map, List.getElem?_eq_getElem (by omega)]; rfl) z hz)
  have ex : ∀ i, (hi : i < 4) → DataW.trod enc Try.prog W base (fun _ => true) true k 26 (([q0, q1, q2, q3, q4, q5, q6, q7].drop (i * 2)).take 2) = some (xs[i]'(by omega)) := fun i hi => by
    have g := hg i hi
    rw [cells_map, List.getElem?_eq_getElem (by omega)] at g
    exact g
  obtain ⟨m0, A0, c0, B0, e0, rfl, rfl, h0⟩ := map_cells (d0 := q0) (d1 := q1) (ex 0 (by omega)) (key 0 (by omega))
  obtain ⟨m1, A1, c1, B1, e1, rfl, rfl, h1⟩ := map_cells (d0 := q2) (d1 := q3) (ex 1 (by omega)) (key 1 (by omega))
  obtain ⟨m2, A2, c2, B2, e2, rfl, rfl, h2⟩ := map_cells (d0 := q4) (d1 := q5) (ex 2 (by omega)) (key 2 (by omega))
  obtain ⟨m3, A3, c3, B3, e3, rfl, rfl, h3⟩ := map_cells (d0 := q6) (d1 := q7) (ex 3 (by omega)) (key 3 (by omega))
  refine ⟨fun i => if i = 0 then m0 else if i = 1 then m1 else if i = 2 then m2 else m3, fun i => if i = 0 then ⟨A0, c0, B0, e0⟩ else if i = 1 then ⟨A1, c1, B1, e1⟩ else if i = 2 then ⟨A2, c2, B2, e2⟩ else ⟨A3, c3, B3, e3⟩, rfl, fun i hi => ?_⟩
  rcases four hi with rfl | rfl | rfl | rfl
  · exact h0
  · exact h1
  · exact h2
  · exact h3
/-- A configuration that came in by value. -/
theorem open_state {r : Reach} {b0 : Nat} {v : Value} {d : DataW H} {p : List MemPlace} {ts : List TypeId} {ds : List (DataW H)} (j : Nat)
    (hv : Value.okWide Try.prog W r b0 30 v) (h : DataW.Trod enc Try.prog W base (fun _ => true) true 30 v d p)
    (hsz : (DataW.weightsEach Try.prog ts ds).all (· ≤ reachBytes) = true) (hj : ts[j]? = some 30) (hd : ds[j]? = some d) :
    ∃ (s : Cf) (a : Wh), v = .agg (cS s a) ∧ HS W s a := by
  obtain ⟨cs, rfl, hs⟩ := okWide_struct Try.underlying30 hv
  obtain ⟨fuel, hf⟩ := h
  have hw := kept_of hsz hj hd
  obtain ⟨xs, n, _, hx, hcl, hlen, hg⟩ := DataW.trod_struct Try.underlying30 hf
  have hx1 : d = _ := congrArg Prod.fst hx
  rw [cellsS] at hcl
  obtain ⟨l, hl⟩ : ∃ l, cs.toList = l := ⟨_, rfl⟩
  have hcs : cs = l.toArray := by rw [← hl]
  subst hcs
  simp only [Value.cells] at hg hcl
  match l, hcl with
  | d0 :: d1 :: d2 :: d3 :: d4 :: d5 :: d6 :: d7 :: d8 :: d9 :: d10 :: d11 :: d12 :: d13 :: d14 :: d15 :: d16 :: d17 :: d18 :: d19 :: d20 :: d21 :: d22 :: d23 :: d24 :: d25 :: d26 :: d27 :: d28 :: d29 :: d30 :: d31 :: d32 :: d33 :: d34 :: [], _ =>
    match xs, hlen with
    | [y0, y1, y2, y3, y4], _ =>
      have g0 := hg 0 _ rfl
      have g1 := hg 1 _ rfl
      have g2 := hg 2 _ rfl
      have g3 := hg 3 _ rfl
      have g4 := hg 4 _ rfl
      change DataW.trod enc Try.prog W base _ _ n 3 (List.take (Try.prog.cellsOf 3) (d0 :: d1 :: d2 :: d3 :: d4 :: d5 :: d6 :: d7 :: d8 :: d9 :: d10 :: d11 :: d12 :: d13 :: d14 :: d15 :: d16 :: d17 :: d18 :: d19 :: d20 :: d21 :: d22 :: d23 :: d24 :: d25 :: d26 :: d27 :: d28 :: d29 :: d30 :: d31 :: d32 :: d33 :: d34 :: [])) = some y0 at g0
      change DataW.trod enc Try.prog W base _ _ n 3 (List.take (Try.prog.cellsOf 3) (d1 :: d2 :: d3 :: d4 :: d5 :: d6 :: d7 :: d8 :: d9 :: d10 :: d11 :: d12 :: d13 :: d14 :: d15 :: d16 :: d17 :: d18 :: d19 :: d20 :: d21 :: d22 :: d23 :: d24 :: d25 :: d26 :: d27 :: d28 :: d29 :: d30 :: d31 :: d32 :: d33 :: d34 :: [])) = some y1 at g1
      change DataW.trod enc Try.prog W base _ _ n 22 (List.take (Try.prog.cellsOf 22) (d2 :: d3 :: d4 :: d5 :: d6 :: d7 :: d8 :: d9 :: d10 :: d11 :: d12 :: d13 :: d14 :: d15 :: d16 :: d17 :: d18 :: d19 :: d20 :: d21 :: d22 :: d23 :: d24 :: d25 :: d26 :: d27 :: d28 :: d29 :: d30 :: d31 :: d32 :: d33 :: d34 :: [])) = some y2 at g2
      change DataW.trod enc Try.prog W base _ _ n 27 (List.take (Try.prog.cellsOf 27) (d6 :: d7 :: d8 :: d9 :: d10 :: d11 :: d12 :: d13 :: d14 :: d15 :: d16 :: d17 :: d18 :: d19 :: d20 :: d21 :: d22 :: d23 :: d24 :: d25 :: d26 :: d27 :: d28 :: d29 :: d30 :: d31 :: d32 :: d33 :: d34 :: [])) = some y3 at g3
      change DataW.trod enc Try.prog W base _ _ n 28 (List.take (Try.prog.cellsOf 28) (d14 :: d15 :: d16 :: d17 :: d18 :: d19 :: d20 :: d21 :: d22 :: d23 :: d24 :: d25 :: d26 :: d27 :: d28 :: d29 :: d30 :: d31 :: d32 :: d33 :: d34 :: [])) = some y4 at g4
      rw [cellsI] at g0 g1
      rw [cellsB4] at g2
      rw [cellsM4] at g3
      rw [cellsI21] at g4
      change DataW.trod enc Try.prog W base _ _ n 3 [d0] = some y0 at g0
      change DataW.trod enc Try.prog W base _ _ n 3 [d1] = some y1 at g1
      change DataW.trod enc Try.prog W base _ _ n 22 [d2, d3, d4, d5] = some y2 at g2
      change DataW.trod enc Try.prog W base _ _ n 27 [d6, d7, d8, d9, d10, d11, d12, d13] = some y3 at g3
      change DataW.trod enc Try.prog W base _ _ n 28 (d14 :: d15 :: d16 :: d17 :: d18 :: d19 :: d20 :: d21 :: d22 :: d23 :: d24 :: d25 :: d26 :: d27 :: d28 :: d29 :: d30 :: d31 :: d32 :: d33 :: d34 :: []) = some y4 at g4
      obtain ⟨x0, e0, _, w0⟩ := DataW.trod_int Try.underlying3 g0
      obtain ⟨x1, e1, _, w1⟩ := DataW.trod_int Try.underlying3 g1
      simp only [List.cons.injEq, and_true] at e0 e1
      subst e0 e1
      have hb := bool_at g2
      have hm := int_at g4
      obtain ⟨m, a, hma, hmh⟩ := map_at g3 (fun z hz => hw z (by
        rw [hx1]
        simp only [DataW.weights, Try.underlying30]
        exact DataW.weights_mem_each (j := 3) (t := 27) (d := y3.1) rfl rfl z hz))
      simp only [List.cons.injEq, and_true] at hma
      obtain ⟨rfl, rfl, rfl, rfl, rfl, rfl, rfl, rfl⟩ := hma
      obtain ⟨z0, f0⟩ := hb 0 (by omega)
      obtain rfl : d2 = .bool z0 := by injection f0
      obtain ⟨z1, f1⟩ := hb 1 (by omega)
      obtain rfl : d3 = .bool z1 := by injection f1
      obtain ⟨z2, f2⟩ := hb 2 (by omega)
      obtain rfl : d4 = .bool z2 := by injection f2
      obtain ⟨z3, f3⟩ := hb 3 (by omega)
      obtain rfl : d5 = .bool z3 := by injection f3
      obtain ⟨o0, r0⟩ := hm 0 (by omega)
      obtain rfl : d14 = .int .i64 o0 := by injection r0
      obtain ⟨o1, r1⟩ := hm 1 (by omega)
      obtain rfl : d15 = .int .i64 o1 := by injection r1
      obtain ⟨o2, r2⟩ := hm 2 (by omega)
      obtain rfl : d16 = .int .i64 o2 := by injection r2
      obtain ⟨o3, r3⟩ := hm 3 (by omega)
      obtain rfl : d17 = .int .i64 o3 := by injection r3
      obtain ⟨o4, r4⟩ := hm 4 (by omega)
      obtain rfl : d18 = .int .i64 o4 := by injection r4
      obtain ⟨o5, r5⟩ := hm 5 (by omega)
      obtain rfl : d19 = .int .i64 o5 := by injection r5
      obtain ⟨o6, r6⟩ := hm 6 (by omega)
      obtain rfl : d20 = .int .i64 o6 := by injection r6
      obtain ⟨o7, r7⟩ := hm 7 (by omega)
      obtain rfl : d21 = .int .i64 o7 := by injection r7
      obtain ⟨o8, r8⟩ := hm 8 (by omega)
      obtain rfl : d22 = .int .i64 o8 := by injection r8
      obtain ⟨o9, r9⟩ := hm 9 (by omega)
      obtain rfl : d23 = .int .i64 o9 := by injection r9
      obtain ⟨o10, r10⟩ := hm 10 (by omega)
      obtain rfl : d24 = .int .i64 o10 := by injection r10
      obtain ⟨o11, r11⟩ := hm 11 (by omega)
      obtain rfl : d25 = .int .i64 o11 := by injection r11
      obtain ⟨o12, r12⟩ := hm 12 (by omega)
      obtain rfl : d26 = .int .i64 o12 := by injection r12
      obtain ⟨o13, r13⟩ := hm 13 (by omega)
      obtain rfl : d27 = .int .i64 o13 := by injection r13
      obtain ⟨o14, r14⟩ := hm 14 (by omega)
      obtain rfl : d28 = .int .i64 o14 := by injection r14
      obtain ⟨o15, r15⟩ := hm 15 (by omega)
      obtain rfl : d29 = .int .i64 o15 := by injection r15
      obtain ⟨o16, r16⟩ := hm 16 (by omega)
      obtain rfl : d30 = .int .i64 o16 := by injection r16
      obtain ⟨o17, r17⟩ := hm 17 (by omega)
      obtain rfl : d31 = .int .i64 o17 := by injection r17
      obtain ⟨o18, r18⟩ := hm 18 (by omega)
      obtain rfl : d32 = .int .i64 o18 := by injection r18
      obtain ⟨o19, r19⟩ := hm 19 (by omega)
      obtain rfl : d33 = .int .i64 o19 := by injection r19
      obtain ⟨o20, r20⟩ := hm 20 (by omega)
      obtain rfl : d34 = .int .i64 o20 := by injection r20
      exact ⟨⟨x0, x1, fun i => [z0, z1, z2, z3].getD i false, m, fun i => [o0, o1, o2, o3, o4, o5, o6, o7, o8, o9, o10, o11, o12, o13, o14, o15, o16, o17, o18, o19, o20].getD i 0⟩, a, rfl, hmh⟩
end
end Go.Proofs.Ytpijljbkdfjhcaa.cfOp
