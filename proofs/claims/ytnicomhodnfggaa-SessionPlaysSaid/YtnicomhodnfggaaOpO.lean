/- How a call of a session, and a slice of those, that come in are opened. -/
import Derived.Test.YtnicomhodnfggaaOpV
set_option linter.unusedVariables false
set_option maxRecDepth 100000
namespace Go.Proofs.Ytnicomhodnfggaa.opO
open Go.ChangeShapes Go.WideShapes Go.ChangeAt Go.RowKit Go.Deep Go.Joins
open opG opV

structure Oq where
  kind : Int
  key : ByteArray
  val : ByteArray
  gone : Bool
  t : Int
  ts : Int
  dc : Int
  tx : Int
instance : Inhabited Oq := ⟨⟨0, ⟨#[]⟩, ⟨#[]⟩, false, 0, 0, 0, 0⟩⟩
def kOp (o : Oq) : Prop := (-9223372036854775808 ≤ o.kind ∧ o.kind ≤ 9223372036854775807) ∧ o.key.size ≤ 140737488351232 ∧ o.val.size ≤ 140737488351232 ∧ (0 ≤ o.t ∧ o.t < 18446744073709551616) ∧ (0 ≤ o.ts ∧ o.ts < 18446744073709551616) ∧ (-9223372036854775808 ≤ o.dc ∧ o.dc ≤ 9223372036854775807) ∧ (-9223372036854775808 ≤ o.tx ∧ o.tx ≤ 9223372036854775807)
/-- the cells of one -/
abbrev cO (o : Oq) : Array Value := #[.int .i64 o.kind, .string o.key, .string o.val, .bool o.gone, .int .u64 o.t, .int .u64 o.ts, .int .i64 o.dc, .int .i64 o.tx]
abbrev O8 (b o : Nat) (q : Oq) (W : World) : Prop :=
  W.cell? ⟨b, o, none⟩ = some (.int .i64 q.kind) ∧ W.cell? ⟨b, o + 1, none⟩ = some (.string q.key) ∧ W.cell? ⟨b, o + 2, none⟩ = some (.string q.val) ∧ W.cell? ⟨b, o + 3, none⟩ = some (.bool q.gone) ∧
  W.cell? ⟨b, o + 4, none⟩ = some (.int .u64 q.t) ∧ W.cell? ⟨b, o + 5, none⟩ = some (.int .u64 q.ts) ∧ W.cell? ⟨b, o + 6, none⟩ = some (.int .i64 q.dc) ∧ W.cell? ⟨b, o + 7, none⟩ = some (.int .i64 q.tx)
def QOp (W : World) (b o : Nat) (q : Oq) : Prop := O8 b o q W ∧ kOp q
theorem cellsOp : Try.prog.cellsOf 33 = 8 := by kernel_rfl
theorem cellsMark : Try.prog.cellsOf 31 = 3 := by kernel_rfl
theorem one_int : Try.prog.cellsOf 3 = 1 := by kernel_rfl
theorem one_uint64 : Try.prog.cellsOf 26 = 1 := by kernel_rfl
theorem one_string : Try.prog.cellsOf 9 = 1 := by kernel_rfl
theorem one_bool : Try.prog.cellsOf 4 = 1 := by kernel_rfl
theorem oneMark : oneCellFields Try.prog (match Try.prog.underlying 31 with | some (.struct fs) => fs | _ => #[]) = true := by kernel_rfl
section
variable {H : Type} {enc : TypeId × Value → H} {W : World} {base : Nat}
theorem elemMark {n : Nat} {cs : List Value} {x : DataW H × List MemPlace} (h : DataW.trod enc Try.prog W base (fun _ => true) true n 31 cs = some x) :
    ∃ a b c : Int, cs = [.int .u64 a, .int .i64 b, .int .i64 c] ∧ (0 ≤ a ∧ a < 18446744073709551616) ∧ (-9223372036854775808 ≤ b ∧ b ≤ 9223372036854775807) ∧ (-9223372036854775808 ≤ c ∧ c ≤ 9223372036854775807) := by
  obtain ⟨xs, m, _, hx, hcl, hlen, hg⟩ := DataW.trod_struct Try.underlying31 h
  have hone := hone_of oneMark
  simp only [Try.underlying31] at hone
  rw [cellsMark] at hcl
  match cs, hcl with
  | [d0, d1, d2], _ =>
    match xs, hlen with
    | [y0, y1, y2], _ =>
      obtain ⟨o0, k0⟩ := hone 0 _ rfl
      obtain ⟨o1, k1⟩ := hone 1 _ rfl
      obtain ⟨o2, k2⟩ := hone 2 _ rfl
      have g0 := hg 0 _ rfl
      rw [o0, k0] at g0
      change DataW.trod enc Try.prog W base _ _ m 26 [d0] = some y0 at g0
      have g1 := hg 1 _ rfl
      rw [o1, k1] at g1
      change DataW.trod enc Try.prog W base _ _ m 3 [d1] = some y1 at g1
      have g2 := hg 2 _ rfl
      rw [o2, k2] at g2
      change DataW.trod enc Try.prog W base _ _ m 3 [d2] = some y2 at g2
      obtain ⟨x0, e0, _, w0⟩ := DataW.trod_int Try.underlying26 g0
      obtain ⟨x1, e1, _, w1⟩ := DataW.trod_int Try.underlying3 g1
      obtain ⟨x2, e2, _, w2⟩ := DataW.trod_int Try.underlying3 g2
      simp only [List.cons.injEq, and_true] at e0 e1 e2
      subst e0 e1 e2
      exact ⟨x0, x1, x2, rfl, (show 0 ≤ x0 ∧ x0 < 18446744073709551616 by have := bounds_u64 w0; omega), bounds_i64 w1, bounds_i64 w2⟩
theorem elemOp {n : Nat} {cs : List Value} {x : DataW H × List MemPlace} (h : DataW.trod enc Try.prog W base (fun _ => true) true n 33 cs = some x) (hw : Kept (x.1.weights Try.prog 33)) :
    ∃ (q : Oq), cs = (cO q).toList ∧ kOp q := by
  obtain ⟨xs, m, _, hx, hcl, hlen, hg⟩ := DataW.trod_struct Try.underlying33 h
  rw [cellsOp] at hcl
  match cs, hcl with
  | [d0, d1, d2, d3, d4, d5, d6, d7], _ =>
    match xs, hlen with
    | [y0, y1, y2, y3, y4, y5], _ =>
      have g0 := hg 0 _ rfl
      have g1 := hg 1 _ rfl
      have g2 := hg 2 _ rfl
      have g3 := hg 3 _ rfl
      have g4 := hg 4 _ rfl
      have g5 := hg 5 _ rfl
      change DataW.trod enc Try.prog W base _ _ m 3 (([d0, d1, d2, d3, d4, d5, d6, d7].drop 0).take (Try.prog.cellsOf 3)) = some y0 at g0
      rw [one_int] at g0
      change DataW.trod enc Try.prog W base _ _ m 3 [d0] = some y0 at g0
      change DataW.trod enc Try.prog W base _ _ m 9 (([d0, d1, d2, d3, d4, d5, d6, d7].drop 1).take (Try.prog.cellsOf 9)) = some y1 at g1
      rw [one_string] at g1
      change DataW.trod enc Try.prog W base _ _ m 9 [d1] = some y1 at g1
      change DataW.trod enc Try.prog W base _ _ m 9 (([d0, d1, d2, d3, d4, d5, d6, d7].drop 2).take (Try.prog.cellsOf 9)) = some y2 at g2
      rw [one_string] at g2
      change DataW.trod enc Try.prog W base _ _ m 9 [d2] = some y2 at g2
      change DataW.trod enc Try.prog W base _ _ m 4 (([d0, d1, d2, d3, d4, d5, d6, d7].drop 3).take (Try.prog.cellsOf 4)) = some y3 at g3
      rw [one_bool] at g3
      change DataW.trod enc Try.prog W base _ _ m 4 [d3] = some y3 at g3
      change DataW.trod enc Try.prog W base _ _ m 26 (([d0, d1, d2, d3, d4, d5, d6, d7].drop 4).take (Try.prog.cellsOf 26)) = some y4 at g4
      rw [one_uint64] at g4
      change DataW.trod enc Try.prog W base _ _ m 26 [d4] = some y4 at g4
      change DataW.trod enc Try.prog W base _ _ m 31 (([d0, d1, d2, d3, d4, d5, d6, d7].drop 5).take (Try.prog.cellsOf 31)) = some y5 at g5
      rw [cellsMark] at g5
      change DataW.trod enc Try.prog W base _ _ m 31 [d5, d6, d7] = some y5 at g5
      obtain ⟨x0, e0, _, w0⟩ := DataW.trod_int Try.underlying3 g0
      obtain ⟨x1, e1, s1⟩ := fld_string g1 (fun z hz => hw z (by
        rw [hx]
        simp only [DataW.weights, Try.underlying33]
        exact DataW.weights_mem_each (j := 1) (t := 9) (d := y1.1) rfl rfl z hz))
      obtain ⟨x2, e2, s2⟩ := fld_string g2 (fun z hz => hw z (by
        rw [hx]
        simp only [DataW.weights, Try.underlying33]
        exact DataW.weights_mem_each (j := 2) (t := 9) (d := y2.1) rfl rfl z hz))
      obtain ⟨x3, e3, _⟩ := DataW.trod_bool Try.underlying4 g3
      obtain ⟨x4, e4, _, w4⟩ := DataW.trod_int Try.underlying26 g4
      obtain ⟨a, b, c, e5, hk⟩ := elemMark g5
      simp only [List.cons.injEq, and_true] at e0 e3 e4 e5
      obtain ⟨q1, q2, q3⟩ := e5
      subst e0 e1 e2 e3 e4 q1 q2 q3
      exact ⟨⟨x0, x1, x2, x3, x4, a, b, c⟩, rfl, bounds_i64 w0, s1, s2, (show 0 ≤ x4 ∧ x4 < 18446744073709551616 by have := bounds_u64 w4; omega), hk⟩
theorem atOp (b o : Nat) (cs : List Value) (n : Nat) (x : DataW H × List MemPlace) (hc : ∀ j, j < 8 → W.cell? ⟨b, o + j, none⟩ = cs[j]?) (_ : cs.length = 8) (h : DataW.trod enc Try.prog W base (fun _ => true) true n 33 cs = some x) (hw : Kept (x.1.weights Try.prog 33)) :
    ∃ m, QOp W b o m := by
  obtain ⟨m, rfl, hk⟩ := elemOp h hw
  exact ⟨m, ⟨hc 0 (by omega), hc 1 (by omega), hc 2 (by omega), hc 3 (by omega), hc 4 (by omega), hc 5 (by omega), hc 6 (by omega), hc 7 (by omega)⟩, hk⟩
/-- One that came in by value. -/
theorem open1Op {r : Reach} {b0 : Nat} {v : Value} {d : DataW H} {p : List MemPlace} {ts : List TypeId} {ds : List (DataW H)} (j : Nat)
    (hv : Value.okWide Try.prog W r b0 33 v) (h : DataW.Trod enc Try.prog W base (fun _ => true) true 33 v d p)
    (hsz : (DataW.weightsEach Try.prog ts ds).all (· ≤ reachBytes) = true) (hj : ts[j]? = some 33) (hd : ds[j]? = some d) :
    ∃ m , v = .agg (cO m) ∧ kOp m := by
  obtain ⟨cs, rfl, hs⟩ := okWide_struct Try.underlying33 hv
  obtain ⟨fuel, hf⟩ := h
  obtain ⟨m, hc, hk⟩ := elemOp hf (kept_of hsz hj hd)
  exact ⟨m, congrArg Value.agg (Array.toList_inj.1 hc), hk⟩
def Rs (w : World) (a : Option Addr) (n : Nat) (l : List Oq) : Prop :=
  l.length = n ∧ (n = 0 ∨ ∃ b off, a = some ⟨b, off, none⟩ ∧ b < w.heap.size ∧ ∀ i, i < n → QOp w b (off + i * 8) (l.getD i default))
/-- A slice of calls, and its room. -/
theorem openOp {r : Reach} {b0 : Nat} {v : Value} {d : DataW H} {p : List MemPlace} {ts : List TypeId} {ds : List (DataW H)} (j : Nat)
    (hv : Value.okWide Try.prog W r b0 22 v) (h : DataW.Trod enc Try.prog W base (fun _ => true) true 22 v d p)
    (hsz : (DataW.weightsEach Try.prog ts ds).all (· ≤ reachBytes) = true) (hj : ts[j]? = some 22) (hd : ds[j]? = some d) :
    ∃ a len cap l, v = .slice a len cap ∧ Rs W a len l ∧ len ≤ cap ∧ cap ≤ 9223372036854775807 := by
  obtain ⟨a, len, cap, rfl⟩ := okWide_slice Try.underlying22 hv
  obtain ⟨fuel, hf⟩ := h
  obtain ⟨a', len', cap', l, e, h1, h2, h3⟩ := open_rows Try.underlying22 cellsOp (by omega) (QOp W) atOp (by simpa [Value.cells] using hf) (kept_of hsz hj hd)
  cases e
  have hq : Rs W a len l := ⟨h1, h3⟩
  have hf' : DataW.trod enc Try.prog W base (fun _ => true) true fuel 22 [Value.slice a len cap] = some (d, p) := by simpa [Value.cells] using hf
  rcases open_slice (cs := [Value.slice a len cap]) Try.underlying22 hf' with ⟨hcs, _⟩ | ⟨y, len1, cap1, m, n1, D, Pl, hcs, _, hl, hm, hmm, hx, _⟩
  · simp only [List.cons.injEq, and_true, Value.slice.injEq] at hcs
    obtain ⟨rfl, rfl, rfl⟩ := hcs
    exact ⟨none, 0, 0, l, rfl, hq, by omega, by omega⟩
  · simp only [List.cons.injEq, and_true, Value.slice.injEq] at hcs
    obtain ⟨rfl, rfl, rfl⟩ := hcs
    simp only [if_true] at hmm
    subst hmm
    unfold maxLen at hm
    exact ⟨some y, _, _, l, rfl, hq, hl, by omega⟩
end
end Go.Proofs.Ytnicomhodnfggaa.opO
