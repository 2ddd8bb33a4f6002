/- How a Fk, and a slice of them, that come in are opened. -/
import Derived.Test.YtgjgjnahdkoofaaOpn
import Derived.ChangeArms
import Derived.ChangeSame
import Derived.Deep.Fields
import Derived.Deep.Slices
import Derived.Lib.SmallJoins
namespace Go.Proofs.Ytgjgjnahdkoofaa.frO
open Go.ChangeShapes Go.WideShapes Go.ChangeAt Go.RowKit Go.Deep Go.Joins
open numM rowA byt numA numB numC opn

structure Fk where
  v : Int
  e : Int
  s : Int
  a : Int
  body : List Nat
instance : Inhabited Fk := ⟨⟨0, 0, 0, 0, []⟩⟩
/-- the cells of one -/
def cFk (m : Fk) (A4 : Option Addr) (c4 : Nat) : Array Value := #[.int .i64 m.v, .int .i64 m.e, .int .i64 m.s, .int .i64 m.a, .slice A4 m.body.length c4]
/-- what is known of one that came in -/
def kFk (W : World) (m : Fk) (A4 : Option Addr) (c4 : Nat) : Prop := (-9223372036854775808 ≤ m.v ∧ m.v ≤ 9223372036854775807) ∧ (-9223372036854775808 ≤ m.e ∧ m.e ≤ 9223372036854775807) ∧ (-9223372036854775808 ≤ m.s ∧ m.s ≤ 9223372036854775807) ∧ (-9223372036854775808 ≤ m.a ∧ m.a ≤ 9223372036854775807) ∧ BL W A4 m.body.length m.body ∧ m.body.length ≤ c4 ∧ c4 ≤ 140737488351232
def QFk (W : World) (b o : Nat) (m : Fk) : Prop := ∃ A4 c4, (W.cell? ⟨b, o, none⟩ = some (.int .i64 m.v) ∧ W.cell? ⟨b, o + 1, none⟩ = some (.int .i64 m.e) ∧ W.cell? ⟨b, o + 2, none⟩ = some (.int .i64 m.s) ∧ W.cell? ⟨b, o + 3, none⟩ = some (.int .i64 m.a) ∧ W.cell? ⟨b, o + 4, none⟩ = some (.slice A4 m.body.length c4)) ∧ kFk W m A4 c4
theorem oneFk : oneCellFields Try.prog (match Try.prog.underlying 26 with | some (.struct fs) => fs | _ => #[]) = true := by kernel_rfl
theorem cellsFk : Try.prog.cellsOf 26 = 5 := by kernel_rfl
section
variable {H : Type} {enc : TypeId × Value → H} {W : World} {base : Nat}
theorem elemFk {n : Nat} {cs : List Value} {x : DataW H × List MemPlace} (h : DataW.trod enc Try.prog W base (fun _ => true) true n 26 cs = some x) (hw : Kept (x.1.weights Try.prog 26)) :
    ∃ (m : Fk) (A4 : Option Addr) (c4 : Nat), cs = [.int .i64 m.v, .int .i64 m.e, .int .i64 m.s, .int .i64 m.a, .slice A4 m.body.length c4] ∧ kFk W m A4 c4 := by
  obtain ⟨xs, m, _, hx, hcl, hlen, hg⟩ := DataW.trod_struct Try.underlying26 h
  have hone := hone_of oneFk
  simp only [Try.underlying26] at hone
  rw [cellsFk] at hcl
  match cs, hcl with
  | [d0, d1, d2, d3, d4], _ =>
    match xs, hlen with
    | [y0, y1, y2, y3, y4], _ =>
      obtain ⟨o0, k0⟩ := hone 0 _ rfl
      obtain ⟨o1, k1⟩ := hone 1 _ rfl
      obtain ⟨o2, k2⟩ := hone 2 _ rfl
      obtain ⟨o3, k3⟩ := hone 3 _ rfl
      obtain ⟨o4, k4⟩ := hone 4 _ rfl
      have g0 := hg 0 _ rfl
      rw [o0, k0] at g0
      change DataW.trod enc Try.prog W base _ _ m 3 [d0] = some y0 at g0
      have g1 := hg 1 _ rfl
      rw [o1, k1] at g1
      change DataW.trod enc Try.prog W base _ _ m 3 [d1] = some y1 at g1
      have g2 := hg 2 _ rfl
      rw [o2, k2] at g2
      change DataW.trod enc Try.prog W base _ _ m 3 [d2] = some y2 at g2
      have g3 := hg 3 _ rfl
      rw [o3, k3] at g3
      change DataW.trod enc Try.prog W base _ _ m 3 [d3] = some y3 at g3
      have g4 := hg 4 _ rfl
      rw [o4, k4] at g4
      change DataW.trod enc Try.prog W base _ _ m 23 [d4] = some y4 at g4
      obtain ⟨x0, e0, _, w0⟩ := DataW.trod_int Try.underlying3 g0
      obtain ⟨x1, e1, _, w1⟩ := DataW.trod_int Try.underlying3 g1
      obtain ⟨x2, e2, _, w2⟩ := DataW.trod_int Try.underlying3 g2
      obtain ⟨x3, e3, _, w3⟩ := DataW.trod_int Try.underlying3 g3
      obtain ⟨A4, x4, c4, e4, p4, q4, r4⟩ := fld_body g4 (fun z hz => hw z (by
        rw [hx]
        simp only [DataW.weights, Try.underlying26]
        exact DataW.weights_mem_each (j := 4) (t := 23) (d := y4.1) rfl rfl z hz))
      simp only [List.cons.injEq, and_true] at e0 e1 e2 e3
      subst e0 e1 e2 e3 e4
      exact ⟨⟨x0, x1, x2, x3, x4⟩, A4, c4, rfl, bounds_i64 w0, bounds_i64 w1, bounds_i64 w2, bounds_i64 w3, p4, q4, r4⟩
theorem atFk (b o : Nat) (cs : List Value) (n : Nat) (x : DataW H × List MemPlace) (hc : ∀ j, j < 5 → W.cell? ⟨b, o + j, none⟩ = cs[j]?) (_ : cs.length = 5) (h : DataW.trod enc Try.prog W base (fun _ => true) true n 26 cs = some x) (hw : Kept (x.1.weights Try.prog 26)) :
    ∃ m, QFk W b o m := by
  obtain ⟨m, A4, c4, rfl, hk⟩ := elemFk h hw
  exact ⟨m, A4, c4, ⟨hc 0 (by omega), hc 1 (by omega), hc 2 (by omega), hc 3 (by omega), hc 4 (by omega)⟩, hk⟩
/-- One that came in by value. -/
theorem open1Fk {r : Reach} {b0 : Nat} {v : Value} {d : DataW H} {p : List MemPlace} {ts : List TypeId} {ds : List (DataW H)} (j : Nat)
    (hv : Value.okWide Try.prog W r b0 26 v) (h : DataW.Trod enc Try.prog W base (fun _ => true) true 26 v d p)
    (hsz : (DataW.weightsEach Try.prog ts ds).all (· ≤ reachBytes) = true) (hj : ts[j]? = some 26) (hd : ds[j]? = some d) :
    ∃ m A4 c4, v = .agg (cFk m A4 c4) ∧ kFk W m A4 c4 := by
  obtain ⟨cs, rfl, hs⟩ := okWide_struct Try.underlying26 hv
  obtain ⟨fuel, hf⟩ := h
  obtain ⟨m, A4, c4, hc, hk⟩ := elemFk hf (kept_of hsz hj hd)
  have hc' : cs.toList = (cFk m A4 c4).toList := hc
  exact ⟨m, A4, c4, congrArg Value.agg (Array.toList_inj.1 hc'), hk⟩
/-- A slice of them. -/
theorem openFk {r : Reach} {b0 : Nat} {v : Value} {d : DataW H} {p : List MemPlace} {ts : List TypeId} {ds : List (DataW H)} (j : Nat)
    (hv : Value.okWide Try.prog W r b0 22 v) (h : DataW.Trod enc Try.prog W base (fun _ => true) true 22 v d p)
    (hsz : (DataW.weightsEach Try.prog ts ds).all (· ≤ reachBytes) = true) (hj : ts[j]? = some 22) (hd : ds[j]? = some d) :
    ∃ a len cap l, v = .slice a len cap ∧ Rs W QFk 5 a len l := by
  obtain ⟨a, len, cap, rfl⟩ := okWide_slice Try.underlying22 hv
  obtain ⟨fuel, hf⟩ := h
  obtain ⟨a', len', cap', l, e, h1, h2, h3⟩ := open_rows Try.underlying22 cellsFk (by omega) (QFk W) atFk (by simpa [Value.cells] using hf) (kept_of hsz hj hd)
  cases e
  exact ⟨a, len, cap, l, rfl, h1, h2, h3⟩
end
end Go.Proofs.Ytgjgjnahdkoofaa.frO
