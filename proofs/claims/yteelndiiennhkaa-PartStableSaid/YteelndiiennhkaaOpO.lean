/- How a call of a side, and a slice of those, that come in are opened. -/
import Derived.Test.YteelndiiennhkaaOpG
set_option linter.unusedVariables false
set_option maxRecDepth 100000
namespace Go.Proofs.Yteelndiiennhkaa.opO
open Go.ChangeShapes Go.WideShapes Go.ChangeAt Go.RowKit Go.Deep Go.Joins
open opG

structure Oq where
  kind : Int
  tx : Int
  t : Int
  ms : Int
instance : Inhabited Oq := ⟨⟨0, 0, 0, 0⟩⟩
structure kOp (o : Oq) : Prop where
  x0 : 0 ≤ o.tx
  x1 : o.tx < 18446744073709551616
  t0 : 0 ≤ o.t
  t1 : o.t < 18446744073709551616
/-- the cells of one -/
abbrev cO (o : Oq) : Array Value := #[.int .i64 o.kind, .int .u64 o.tx, .int .u64 o.t, .int .i64 o.ms]
abbrev O4 (b o : Nat) (q : Oq) (W : World) : Prop :=
  W.cell? ⟨b, o, none⟩ = some (.int .i64 q.kind) ∧ W.cell? ⟨b, o + 1, none⟩ = some (.int .u64 q.tx) ∧ W.cell? ⟨b, o + 2, none⟩ = some (.int .u64 q.t) ∧ W.cell? ⟨b, o + 3, none⟩ = some (.int .i64 q.ms)
def QOp (W : World) (b o : Nat) (q : Oq) : Prop := O4 b o q W ∧ kOp q
theorem oneOp : oneCellFields Try.prog (match Try.prog.underlying 31 with | some (.struct fs) => fs | _ => #[]) = true := by kernel_rfl
theorem cellsOp : Try.prog.cellsOf 31 = 4 := by kernel_rfl
section
variable {H : Type} {enc : TypeId × Value → H} {W : World} {base : Nat}
theorem elemOp {n : Nat} {cs : List Value} {x : DataW H × List MemPlace} (h : DataW.trod enc Try.prog W base (fun _ => true) true n 31 cs = some x) (hw : Kept (x.1.weights Try.prog 31)) :
    ∃ (q : Oq), cs = (cO q).toList ∧ kOp q := by
  obtain ⟨xs, m, _, hx, hcl, hlen, hg⟩ := DataW.trod_struct Try.underlying31 h
  have hone := hone_of oneOp
  simp only [Try.underlying31] at hone
  rw [cellsOp] at hcl
  match cs, hcl with
  | [d0, d1, d2, d3], _ =>
    match xs, hlen with
    | [y0, y1, y2, y3], _ =>
      obtain ⟨o0, k0⟩ := hone 0 _ rfl
      obtain ⟨o1, k1⟩ := hone 1 _ rfl
      obtain ⟨o2, k2⟩ := hone 2 _ rfl
      obtain ⟨o3, k3⟩ := hone 3 _ rfl
      have g0 := hg 0 _ rfl
      rw [o0, k0] at g0
      change DataW.trod enc Try.prog W base _ _ m 3 [d0] = some y0 at g0
      have g1 := hg 1 _ rfl
      rw [o1, k1] at g1
      change DataW.trod enc Try.prog W base _ _ m 26 [d1] = some y1 at g1
      have g2 := hg 2 _ rfl
      rw [o2, k2] at g2
      change DataW.trod enc Try.prog W base _ _ m 26 [d2] = some y2 at g2
      have g3 := hg 3 _ rfl
      rw [o3, k3] at g3
      change DataW.trod enc Try.prog W base _ _ m 3 [d3] = some y3 at g3
      obtain ⟨x0, e0, _, w0⟩ := DataW.trod_int Try.underlying3 g0
      obtain ⟨x1, e1, _, w1⟩ := DataW.trod_int Try.underlying26 g1
      obtain ⟨x2, e2, _, w2⟩ := DataW.trod_int Try.underlying26 g2
      obtain ⟨x3, e3, _, w3⟩ := DataW.trod_int Try.underlying3 g3
      simp only [List.cons.injEq, and_true] at e0 e1 e2 e3
      subst e0 e1 e2 e3
      have b1 := bounds_u64 w1
      have b2 := bounds_u64 w2
      exact ⟨⟨x0, x1, x2, x3⟩, rfl, ⟨by show 0 ≤ x1; omega, by show x1 < 18446744073709551616; omega, by show 0 ≤ x2; omega, by show x2 < 18446744073709551616; omega⟩⟩
theorem atOp (b o : Nat) (cs : List Value) (n : Nat) (x : DataW H × List MemPlace) (hc : ∀ j, j < 4 → W.cell? ⟨b, o + j, none⟩ = cs[j]?) (_ : cs.length = 4) (h : DataW.trod enc Try.prog W base (fun _ => true) true n 31 cs = some x) (hw : Kept (x.1.weights Try.prog 31)) :
    ∃ m, QOp W b o m := by
  obtain ⟨m, rfl, hk⟩ := elemOp h hw
  exact ⟨m, ⟨hc 0 (by omega), hc 1 (by omega), hc 2 (by omega), hc 3 (by omega)⟩, hk⟩
/-- One that came in by value. -/
theorem open1Op {r : Reach} {b0 : Nat} {v : Value} {d : DataW H} {p : List MemPlace} {ts : List TypeId} {ds : List (DataW H)} (j : Nat)
    (hv : Value.okWide Try.prog W r b0 31 v) (h : DataW.Trod enc Try.prog W base (fun _ => true) true 31 v d p)
    (hsz : (DataW.weightsEach Try.prog ts ds).all (· ≤ reachBytes) = true) (hj : ts[j]? = some 31) (hd : ds[j]? = some d) :
    ∃ m , v = .agg (cO m) ∧ kOp m := by
  obtain ⟨cs, rfl, hs⟩ := okWide_struct Try.underlying31 hv
  obtain ⟨fuel, hf⟩ := h
  obtain ⟨m, hc, hk⟩ := elemOp hf (kept_of hsz hj hd)
  exact ⟨m, congrArg Value.agg (Array.toList_inj.1 hc), hk⟩
def Rs (w : World) (a : Option Addr) (n : Nat) (l : List Oq) : Prop :=
  l.length = n ∧ (n = 0 ∨ ∃ b off, a = some ⟨b, off, none⟩ ∧ b < w.heap.size ∧ ∀ i, i < n → QOp w b (off + i * 4) (l.getD i default))
/-- A slice of calls, and its room. -/
theorem openOp {r : Reach} {b0 : Nat} {v : Value} {d : DataW H} {p : List MemPlace} {ts : List TypeId} {ds : List (DataW H)} (j : Nat)
    (hv : Value.okWide Try.prog W r b0 22 v) (h : DataW.Trod enc Try.prog W base (fun _ => true) true 22 v d p)
    (hsz : (DataW.weightsEach Try.prog ts ds).all (· ≤ reachBytes) = true) (hj : ts[j]? = some 22) (hd : ds[j]? = some d) :
    ∃ a len cap l, v = .slice a len cap ∧ Rs W a len l ∧ len ≤ cap ∧ cap ≤ 9223372036854775807 := by
  obtain ⟨a, len, cap, rfl⟩ := okWide_slice Try.underlying22 hv
  obtain ⟨fuel, hf⟩ := h
  obtain ⟨a', len', cap', l, e, h1, h2, h3⟩ := open_rows Try.underlying22 cellsOp (by omega) (QOp W) atOp (by simpa [Value.cells] using hf) (kept_of hsz hj hd)
  cases e
  have hq : Rs W a len l := ⟨h1, h3⟩
  have hf' : DataW.trod enc Try.prog W base (fun _ => true) true fuel 22 [Value.slice a len cap] = some (d, p) := by simpa [Value.cells] using hf
  rcases open_slice (cs := [Value.slice a len cap]) Try.underlying22 hf' with ⟨hcs, _⟩ | ⟨y, len1, cap1, m, n1, D, Pl, hcs, _, hl, hm, hmm, hx, _⟩
  · simp only [List.cons.injEq, and_true, Value.slice.injEq] at hcs
    obtain ⟨rfl, rfl, rfl⟩ := hcs
    exact ⟨none, 0, 0, l, rfl, hq, by omega, by omega⟩
  · simp only [List.cons.injEq, and_true, Value.slice.injEq] at hcs
    obtain ⟨rfl, rfl, rfl⟩ := hcs
    simp only [if_true] at hmm
    subst hmm
    unfold maxLen at hm
    exact ⟨some y, _, _, l, rfl, hq, hl, by omega⟩
end
end Go.Proofs.Yteelndiiennhkaa.opO
