/- How a Op, and a slice of them, that come in are opened. -/
import Derived.Test.YtggoaglcffdcnaaOpn
import Derived.ChangeArms
import Derived.ChangeSame
import Derived.Deep.Fields
import Derived.Deep.Slices
import Derived.Lib.SmallJoins
namespace Go.Proofs.Ytggoaglcffdcnaa.netO
open Go.ChangeShapes Go.WideShapes Go.ChangeAt Go.RowKit Go.Deep Go.Joins
open numM rowA byt numA numB numC opn

structure Op where
  kind : Int
  from_ : Int
  to_ : Int
  i : Int
  at_ : Int
  mask : Int
  body : List Nat
instance : Inhabited Op := ⟨⟨0, 0, 0, 0, 0, 0, []⟩⟩
/-- the cells of one -/
def cOp (m : Op) (A6 : Option Addr) (c6 : Nat) : Array Value := #[.int .i64 m.kind, .int .i64 m.from_, .int .i64 m.to_, .int .i64 m.i, .int .i64 m.at_, .int .u8 m.mask, .slice A6 m.body.length c6]
/-- what is known of one that came in -/
def kOp (W : World) (m : Op) (A6 : Option Addr) (c6 : Nat) : Prop := (-9223372036854775808 ≤ m.kind ∧ m.kind ≤ 9223372036854775807) ∧ (-9223372036854775808 ≤ m.from_ ∧ m.from_ ≤ 9223372036854775807) ∧ (-9223372036854775808 ≤ m.to_ ∧ m.to_ ≤ 9223372036854775807) ∧ (-9223372036854775808 ≤ m.i ∧ m.i ≤ 9223372036854775807) ∧ (-9223372036854775808 ≤ m.at_ ∧ m.at_ ≤ 9223372036854775807) ∧ (0 ≤ m.mask ∧ m.mask < 256) ∧ BL W A6 m.body.length m.body ∧ m.body.length ≤ c6 ∧ c6 ≤ 140737488351232
def QOp (W : World) (b o : Nat) (m : Op) : Prop := ∃ A6 c6, (W.cell? ⟨b, o, none⟩ = some (.int .i64 m.kind) ∧ W.cell? ⟨b, o + 1, none⟩ = some (.int .i64 m.from_) ∧ W.cell? ⟨b, o + 2, none⟩ = some (.int .i64 m.to_) ∧ W.cell? ⟨b, o + 3, none⟩ = some (.int .i64 m.i) ∧ W.cell? ⟨b, o + 4, none⟩ = some (.int .i64 m.at_) ∧ W.cell? ⟨b, o + 5, none⟩ = some (.int .u8 m.mask) ∧ W.cell? ⟨b, o + 6, none⟩ = some (.slice A6 m.body.length c6)) ∧ kOp W m A6 c6
theorem oneOp : oneCellFields Try.prog (match Try.prog.underlying 32 with | some (.struct fs) => fs | _ => #[]) = true := by kernel_rfl
theorem cellsOp : Try.prog.cellsOf 32 = 7 := by kernel_rfl
section
variable {H : Type} {enc : TypeId × Value → H} {W : World} {base : Nat}
theorem elemOp {n : Nat} {cs : List Value} {x : DataW H × List MemPlace} (h : DataW.trod enc Try.prog W base (fun _ => true) true n 32 cs = some x) (hw : Kept (x.1.weights Try.prog 32)) :
    ∃ (m : Op) (A6 : Option Addr) (c6 : Nat), cs = [.int .i64 m.kind, .int .i64 m.from_, .int .i64 m.to_, .int .i64 m.i, .int .i64 m.at_, .int .u8 m.mask, .slice A6 m.body.length c6] ∧ kOp W m A6 c6 := by
  obtain ⟨xs, m, _, hx, hcl, hlen, hg⟩ := DataW.trod_struct Try.underlying32 h
  have hone := hone_of oneOp
  simp only [Try.underlying32] at hone
  rw [cellsOp] at hcl
  match cs, hcl with
  | [d0, d1, d2, d3, d4, d5, d6], _ =>
    match xs, hlen with
    | [y0, y1, y2, y3, y4, y5, y6], _ =>
      obtain ⟨o0, k0⟩ := hone 0 _ rfl
      obtain ⟨o1, k1⟩ := hone 1 _ rfl
      obtain ⟨o2, k2⟩ := hone 2 _ rfl
      obtain ⟨o3, k3⟩ := hone 3 _ rfl
      obtain ⟨o4, k4⟩ := hone 4 _ rfl
      obtain ⟨o5, k5⟩ := hone 5 _ rfl
      obtain ⟨o6, k6⟩ := hone 6 _ rfl
      have g0 := hg 0 _ rfl
      rw [o0, k0] at g0
      change DataW.trod enc Try.prog W base _ _ m 3 [d0] = some y0 at g0
      have g1 := hg 1 _ rfl
      rw [o1, k1] at g1
      change DataW.trod enc Try.prog W base _ _ m 3 [d1] = some y1 at g1
      have g2 := hg 2 _ rfl
      rw [o2, k2] at g2
      change DataW.trod enc Try.prog W base _ _ m 3 [d2] = some y2 at g2
      have g3 := hg 3 _ rfl
      rw [o3, k3] at g3
      change DataW.trod enc Try.prog W base _ _ m 3 [d3] = some y3 at g3
      have g4 := hg 4 _ rfl
      rw [o4, k4] at g4
      change DataW.trod enc Try.prog W base _ _ m 3 [d4] = some y4 at g4
      have g5 := hg 5 _ rfl
      rw [o5, k5] at g5
      change DataW.trod enc Try.prog W base _ _ m 5 [d5] = some y5 at g5
      have g6 := hg 6 _ rfl
      rw [o6, k6] at g6
      change DataW.trod enc Try.prog W base _ _ m 30 [d6] = some y6 at g6
      obtain ⟨x0, e0, _, w0⟩ := DataW.trod_int Try.underlying3 g0
      obtain ⟨x1, e1, _, w1⟩ := DataW.trod_int Try.underlying3 g1
      obtain ⟨x2, e2, _, w2⟩ := DataW.trod_int Try.underlying3 g2
      obtain ⟨x3, e3, _, w3⟩ := DataW.trod_int Try.underlying3 g3
      obtain ⟨x4, e4, _, w4⟩ := DataW.trod_int Try.underlying3 g4
      obtain ⟨x5, e5, _, w5⟩ := DataW.trod_int Try.underlying5 g5
      obtain ⟨A6, x6, c6, e6, p6, q6, r6⟩ := fld_body g6 (fun z hz => hw z (by
        rw [hx]
        simp only [DataW.weights, Try.underlying32]
        exact DataW.weights_mem_each (j := 6) (t := 30) (d := y6.1) rfl rfl z hz))
      simp only [List.cons.injEq, and_true] at e0 e1 e2 e3 e4 e5
      subst e0 e1 e2 e3 e4 e5 e6
      exact ⟨⟨x0, x1, x2, x3, x4, x5, x6⟩, A6, c6, rfl, bounds_i64 w0, bounds_i64 w1, bounds_i64 w2, bounds_i64 w3, bounds_i64 w4, (show 0 ≤ x5 ∧ x5 < 256 by have := bounds_u8 w5; omega), p6, q6, r6⟩
theorem atOp (b o : Nat) (cs : List Value) (n : Nat) (x : DataW H × List MemPlace) (hc : ∀ j, j < 7 → W.cell? ⟨b, o + j, none⟩ = cs[j]?) (_ : cs.length = 7) (h : DataW.trod enc Try.prog W base (fun _ => true) true n 32 cs = some x) (hw : Kept (x.1.weights Try.prog 32)) :
    ∃ m, QOp W b o m := by
  obtain ⟨m, A6, c6, rfl, hk⟩ := elemOp h hw
  exact ⟨m, A6, c6, ⟨hc 0 (by omega), hc 1 (by omega), hc 2 (by omega), hc 3 (by omega), hc 4 (by omega), hc 5 (by omega), hc 6 (by omega)⟩, hk⟩
/-- One that came in by value. -/
theorem open1Op {r : Reach} {b0 : Nat} {v : Value} {d : DataW H} {p : List MemPlace} {ts : List TypeId} {ds : List (DataW H)} (j : Nat)
    (hv : Value.okWide Try.prog W r b0 32 v) (h : DataW.Trod enc Try.prog W base (fun _ => true) true 32 v d p)
    (hsz : (DataW.weightsEach Try.prog ts ds).all (· ≤ reachBytes) = true) (hj : ts[j]? = some 32) (hd : ds[j]? = some d) :
    ∃ m A6 c6, v = .agg (cOp m A6 c6) ∧ kOp W m A6 c6 := by
  obtain ⟨cs, rfl, hs⟩ := okWide_struct Try.underlying32 hv
  obtain ⟨fuel, hf⟩ := h
  obtain ⟨m, A6, c6, hc, hk⟩ := elemOp hf (kept_of hsz hj hd)
  have hc' : cs.toList = (cOp m A6 c6).toList := hc
  exact ⟨m, A6, c6, congrArg Value.agg (Array.toList_inj.1 hc'), hk⟩
/-- A slice of them. -/
theorem openOp {r : Reach} {b0 : Nat} {v : Value} {d : DataW H} {p : List MemPlace} {ts : List TypeId} {ds : List (DataW H)} (j : Nat)
    (hv : Value.okWide Try.prog W r b0 22 v) (h : DataW.Trod enc Try.prog W base (fun _ => true) true 22 v d p)
    (hsz : (DataW.weightsEach Try.prog ts ds).all (· ≤ reachBytes) = true) (hj : ts[j]? = some 22) (hd : ds[j]? = some d) :
    ∃ a len cap l, v = .slice a len cap ∧ Rs W QOp 7 a len l := by
  obtain ⟨a, len, cap, rfl⟩ := okWide_slice Try.underlying22 hv
  obtain ⟨fuel, hf⟩ := h
  obtain ⟨a', len', cap', l, e, h1, h2, h3⟩ := open_rows Try.underlying22 cellsOp (by omega) (QOp W) atOp (by simpa [Value.cells] using hf) (kept_of hsz hj hd)
  cases e
  exact ⟨a, len, cap, l, rfl, h1, h2, h3⟩
end
end Go.Proofs.Ytggoaglcffdcnaa.netO
