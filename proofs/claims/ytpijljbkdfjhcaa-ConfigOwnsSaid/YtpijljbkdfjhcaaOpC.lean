/- How a Cmd, and a slice of them, that come in are opened. -/
import Derived.Test.YtpijljbkdfjhcaaOpG
import Derived.ChangeArms
import Derived.ChangeSame
import Derived.Deep.Fields
import Derived.Deep.Slices
import Derived.Lib.SmallJoins
set_option linter.unusedVariables false
set_option maxRecDepth 100000
namespace Go.Proofs.Ytpijljbkdfjhcaa.opC
open Go.ChangeShapes Go.WideShapes Go.ChangeAt Go.RowKit Go.Deep Go.Joins
open opG

structure Cmd where
  kind : Int
  dc : Int
  shard : Int
  node : Int
  mode : Int
  key : ByteArray
instance : Inhabited Cmd := ⟨⟨0, 0, 0, 0, 0, .empty⟩⟩
/-- the cells of one -/
def cCmd (m : Cmd) : Array Value := #[.int .i64 m.kind, .int .i64 m.dc, .int .i64 m.shard, .int .i64 m.node, .int .i64 m.mode, .string m.key]
/-- what is known of one that came in -/
def kCmd (W : World) (m : Cmd) : Prop := (-9223372036854775808 ≤ m.kind ∧ m.kind ≤ 9223372036854775807) ∧ (-9223372036854775808 ≤ m.dc ∧ m.dc ≤ 9223372036854775807) ∧ (-9223372036854775808 ≤ m.shard ∧ m.shard ≤ 9223372036854775807) ∧ (-9223372036854775808 ≤ m.node ∧ m.node ≤ 9223372036854775807) ∧ (-9223372036854775808 ≤ m.mode ∧ m.mode ≤ 9223372036854775807) ∧ m.key.size ≤ 140737488351232
def QCmd (W : World) (b o : Nat) (m : Cmd) : Prop := (W.cell? ⟨b, o, none⟩ = some (.int .i64 m.kind) ∧ W.cell? ⟨b, o + 1, none⟩ = some (.int .i64 m.dc) ∧ W.cell? ⟨b, o + 2, none⟩ = some (.int .i64 m.shard) ∧ W.cell? ⟨b, o + 3, none⟩ = some (.int .i64 m.node) ∧ W.cell? ⟨b, o + 4, none⟩ = some (.int .i64 m.mode) ∧ W.cell? ⟨b, o + 5, none⟩ = some (.string m.key)) ∧ kCmd W m 
theorem oneCmd : oneCellFields Try.prog (match Try.prog.underlying 43 with | some (.struct fs) => fs | _ => #[]) = true := by kernel_rfl
theorem cellsCmd : Try.prog.cellsOf 43 = 6 := by kernel_rfl
section
variable {H : Type} {enc : TypeId × Value → H} {W : World} {base : Nat}
theorem elemCmd {n : Nat} {cs : List Value} {x : DataW H × List MemPlace} (h : DataW.trod enc Try.prog W base (fun _ => true) true n 43 cs = some x) (hw : Kept (x.1.weights Try.prog 43)) :
    ∃ (m : Cmd), cs = [.int .i64 m.kind, .int .i64 m.dc, .int .i64 m.shard, .int .i64 m.node, .int .i64 m.mode, .string m.key] ∧ kCmd W m  := by
  obtain ⟨xs, m, _, hx, hcl, hlen, hg⟩ := DataW.trod_struct Try.underlying43 h
  have hone := hone_of oneCmd
  simp only [Try.underlying43] at hone
  rw [cellsCmd] at hcl
  match cs, hcl with
  | [d0, d1, d2, d3, d4, d5], _ =>
    match xs, hlen with
    | [y0, y1, y2, y3, y4, y5], _ =>
      obtain ⟨o0, k0⟩ := hone 0 _ rfl
      obtain ⟨o1, k1⟩ := hone 1 _ rfl
      obtain ⟨o2, k2⟩ := hone 2 _ rfl
      obtain ⟨o3, k3⟩ := hone 3 _ rfl
      obtain ⟨o4, k4⟩ := hone 4 _ rfl
      obtain ⟨o5, k5⟩ := hone 5 _ rfl
      have g0 := hg 0 _ rfl
      rw [o0, k0] at g0
      change DataW.trod enc Try.prog W base _ _ m 3 [d0] = some y0 at g0
      have g1 := hg 1 _ rfl
      rw [o1, k1] at g1
      change DataW.trod enc Try.prog W base _ _ m 3 [d1] = some y1 at g1
      have g2 := hg 2 _ rfl
      rw [o2, k2] at g2
      change DataW.trod enc Try.prog W base _ _ m 3 [d2] = some y2 at g2
      have g3 := hg 3 _ rfl
      rw [o3, k3] at g3
      change DataW.trod enc Try.prog W base _ _ m 3 [d3] = some y3 at g3
      have g4 := hg 4 _ rfl
      rw [o4, k4] at g4
      change DataW.trod enc Try.prog W base _ _ m 3 [d4] = some y4 at g4
      have g5 := hg 5 _ rfl
      rw [o5, k5] at g5
      change DataW.trod enc Try.prog W base _ _ m 9 [d5] = some y5 at g5
      obtain ⟨x0, e0, _, w0⟩ := DataW.trod_int Try.underlying3 g0
      obtain ⟨x1, e1, _, w1⟩ := DataW.trod_int Try.underlying3 g1
      obtain ⟨x2, e2, _, w2⟩ := DataW.trod_int Try.underlying3 g2
      obtain ⟨x3, e3, _, w3⟩ := DataW.trod_int Try.underlying3 g3
      obtain ⟨x4, e4, _, w4⟩ := DataW.trod_int Try.underlying3 g4
      obtain ⟨x5, e5, s5⟩ := fld_string g5 (fun z hz => hw z (by
        rw [hx]
        simp only [DataW.weights, Try.underlying43]
        exact DataW.weights_mem_each (j := 5) (t := 9) (d := y5.1) rfl rfl z hz))
      simp only [List.cons.injEq, and_true] at e0 e1 e2 e3 e4
      subst e0 e1 e2 e3 e4 e5
      exact ⟨⟨x0, x1, x2, x3, x4, x5⟩, rfl, bounds_i64 w0, bounds_i64 w1, bounds_i64 w2, bounds_i64 w3, bounds_i64 w4, s5⟩
theorem atCmd (b o : Nat) (cs : List Value) (n : Nat) (x : DataW H × List MemPlace) (hc : ∀ j, j < 6 → W.cell? ⟨b, o + j, none⟩ = cs[j]?) (_ : cs.length = 6) (h : DataW.trod enc Try.prog W base (fun _ => true) true n 43 cs = some x) (hw : Kept (x.1.weights Try.prog 43)) :
    ∃ m, QCmd W b o m := by
  obtain ⟨m, rfl, hk⟩ := elemCmd h hw
  exact ⟨m, ⟨hc 0 (by omega), hc 1 (by omega), hc 2 (by omega), hc 3 (by omega), hc 4 (by omega), hc 5 (by omega)⟩, hk⟩
/-- One that came in by value. -/
theorem open1Cmd {r : Reach} {b0 : Nat} {v : Value} {d : DataW H} {p : List MemPlace} {ts : List TypeId} {ds : List (DataW H)} (j : Nat)
    (hv : Value.okWide Try.prog W r b0 43 v) (h : DataW.Trod enc Try.prog W base (fun _ => true) true 43 v d p)
    (hsz : (DataW.weightsEach Try.prog ts ds).all (· ≤ reachBytes) = true) (hj : ts[j]? = some 43) (hd : ds[j]? = some d) :
    ∃ m , v = .agg (cCmd m ) ∧ kCmd W m  := by
  obtain ⟨cs, rfl, hs⟩ := okWide_struct Try.underlying43 hv
  obtain ⟨fuel, hf⟩ := h
  obtain ⟨m, hc, hk⟩ := elemCmd hf (kept_of hsz hj hd)
  have hc' : cs.toList = (cCmd m ).toList := hc
  exact ⟨m, congrArg Value.agg (Array.toList_inj.1 hc'), hk⟩
/-- A slice of them. -/
theorem openCmd {r : Reach} {b0 : Nat} {v : Value} {d : DataW H} {p : List MemPlace} {ts : List TypeId} {ds : List (DataW H)} (j : Nat)
    (hv : Value.okWide Try.prog W r b0 50 v) (h : DataW.Trod enc Try.prog W base (fun _ => true) true 50 v d p)
    (hsz : (DataW.weightsEach Try.prog ts ds).all (· ≤ reachBytes) = true) (hj : ts[j]? = some 50) (hd : ds[j]? = some d) :
    ∃ a len cap l, v = .slice a len cap ∧ Rs W QCmd 6 a len l := by
  obtain ⟨a, len, cap, rfl⟩ := okWide_slice Try.underlying50 hv
  obtain ⟨fuel, hf⟩ := h
  obtain ⟨a', len', cap', l, e, h1, h2, h3⟩ := open_rows Try.underlying50 cellsCmd (by omega) (QCmd W) atCmd (by simpa [Value.cells] using hf) (kept_of hsz hj hd)
  cases e
  exact ⟨a, len, cap, l, rfl, h1, h2, h3⟩
end
end Go.Proofs.Ytpijljbkdfjhcaa.opC
