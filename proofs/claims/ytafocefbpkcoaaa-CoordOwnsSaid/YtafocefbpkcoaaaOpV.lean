/- How a Ver, and a slice of them, that come in are opened. -/
import Derived.Test.YtafocefbpkcoaaaOpG
import Derived.ChangeArms
import Derived.ChangeSame
import Derived.Deep.Fields
import Derived.Deep.Slices
import Derived.Lib.SmallJoins
set_option linter.unusedVariables false
set_option maxRecDepth 100000
namespace Go.Proofs.Ytafocefbpkcoaaa.opV
open Go.ChangeShapes Go.WideShapes Go.ChangeAt Go.RowKit Go.Deep Go.Joins
open opG

structure Ver where
  key : ByteArray
  val : ByteArray
  gone : Bool
  ts : Int
  dc : Int
  tx : Int
instance : Inhabited Ver := ⟨⟨⟨#[]⟩, ⟨#[]⟩, false, 0, 0, 0⟩⟩
/-- the cells of one -/
def cVer (m : Ver) : Array Value := #[.string m.key, .string m.val, .bool m.gone, .int .u64 m.ts, .int .i64 m.dc, .int .i64 m.tx]
/-- what is known of one that came in -/
def kVer (W : World) (m : Ver) : Prop := m.key.size ≤ 140737488351232 ∧ m.val.size ≤ 140737488351232 ∧ (0 ≤ m.ts ∧ m.ts < 18446744073709551616) ∧ (-9223372036854775808 ≤ m.dc ∧ m.dc ≤ 9223372036854775807) ∧ (-9223372036854775808 ≤ m.tx ∧ m.tx ≤ 9223372036854775807)
def QVer (W : World) (b o : Nat) (m : Ver) : Prop := (W.cell? ⟨b, o, none⟩ = some (.string m.key) ∧ W.cell? ⟨b, o + 1, none⟩ = some (.string m.val) ∧ W.cell? ⟨b, o + 2, none⟩ = some (.bool m.gone) ∧ W.cell? ⟨b, o + 3, none⟩ = some (.int .u64 m.ts) ∧ W.cell? ⟨b, o + 4, none⟩ = some (.int .i64 m.dc) ∧ W.cell? ⟨b, o + 5, none⟩ = some (.int .i64 m.tx)) ∧ kVer W m 
theorem oneVer : oneCellFields Try.prog (match Try.prog.underlying 64 with | some (.struct fs) => fs | _ => #[]) = true := by kernel_rfl
theorem cellsVer : Try.prog.cellsOf 64 = 6 := by kernel_rfl
section
variable {H : Type} {enc : TypeId × Value → H} {W : World} {base : Nat}
theorem elemVer {n : Nat} {cs : List Value} {x : DataW H × List MemPlace} (h : DataW.trod enc Try.prog W base (fun _ => true) true n 64 cs = some x) (hw : Kept (x.1.weights Try.prog 64)) :
    ∃ (m : Ver), cs = [.string m.key, .string m.val, .bool m.gone, .int .u64 m.ts, .int .i64 m.dc, .int .i64 m.tx] ∧ kVer W m  := by
  obtain ⟨xs, m, _, hx, hcl, hlen, hg⟩ := DataW.trod_struct Try.underlying64 h
  have hone := hone_of oneVer
  simp only [Try.underlying64] at hone
  rw [cellsVer] at hcl
  match cs, hcl with
  | [d0, d1, d2, d3, d4, d5], _ =>
    match xs, hlen with
    | [y0, y1, y2, y3, y4, y5], _ =>
      obtain ⟨o0, k0⟩ := hone 0 _ rfl
      obtain ⟨o1, k1⟩ := hone 1 _ rfl
      obtain ⟨o2, k2⟩ := hone 2 _ rfl
      obtain ⟨o3, k3⟩ := hone 3 _ rfl
      obtain ⟨o4, k4⟩ := hone 4 _ rfl
      obtain ⟨o5, k5⟩ := hone 5 _ rfl
      have g0 := hg 0 _ rfl
      rw [o0, k0] at g0
      change DataW.trod enc Try.prog W base _ _ m 9 [d0] = some y0 at g0
      have g1 := hg 1 _ rfl
      rw [o1, k1] at g1
      change DataW.trod enc Try.prog W base _ _ m 9 [d1] = some y1 at g1
      have g2 := hg 2 _ rfl
      rw [o2, k2] at g2
      change DataW.trod enc Try.prog W base _ _ m 4 [d2] = some y2 at g2
      have g3 := hg 3 _ rfl
      rw [o3, k3] at g3
      change DataW.trod enc Try.prog W base _ _ m 29 [d3] = some y3 at g3
      have g4 := hg 4 _ rfl
      rw [o4, k4] at g4
      change DataW.trod enc Try.prog W base _ _ m 3 [d4] = some y4 at g4
      have g5 := hg 5 _ rfl
      rw [o5, k5] at g5
      change DataW.trod enc Try.prog W base _ _ m 3 [d5] = some y5 at g5
      obtain ⟨x0, e0, s0⟩ := fld_string g0 (fun z hz => hw z (by
        rw [hx]
        simp only [DataW.weights, Try.underlying64]
        exact DataW.weights_mem_each (j := 0) (t := 9) (d := y0.1) rfl rfl z hz))
      obtain ⟨x1, e1, s1⟩ := fld_string g1 (fun z hz => hw z (by
        rw [hx]
        simp only [DataW.weights, Try.underlying64]
        exact DataW.weights_mem_each (j := 1) (t := 9) (d := y1.1) rfl rfl z hz))
      obtain ⟨x2, e2, _⟩ := DataW.trod_bool Try.underlying4 g2
      obtain ⟨x3, e3, _, w3⟩ := DataW.trod_int Try.underlying29 g3
      obtain ⟨x4, e4, _, w4⟩ := DataW.trod_int Try.underlying3 g4
      obtain ⟨x5, e5, _, w5⟩ := DataW.trod_int Try.underlying3 g5
      simp only [List.cons.injEq, and_true] at e2 e3 e4 e5
      subst e0 e1 e2 e3 e4 e5
      exact ⟨⟨x0, x1, x2, x3, x4, x5⟩, rfl, s0, s1, (show 0 ≤ x3 ∧ x3 < 18446744073709551616 by have := bounds_u64 w3; omega), bounds_i64 w4, bounds_i64 w5⟩
theorem atVer (b o : Nat) (cs : List Value) (n : Nat) (x : DataW H × List MemPlace) (hc : ∀ j, j < 6 → W.cell? ⟨b, o + j, none⟩ = cs[j]?) (_ : cs.length = 6) (h : DataW.trod enc Try.prog W base (fun _ => true) true n 64 cs = some x) (hw : Kept (x.1.weights Try.prog 64)) :
    ∃ m, QVer W b o m := by
  obtain ⟨m, rfl, hk⟩ := elemVer h hw
  exact ⟨m, ⟨hc 0 (by omega), hc 1 (by omega), hc 2 (by omega), hc 3 (by omega), hc 4 (by omega), hc 5 (by omega)⟩, hk⟩
/-- One that came in by value. -/
theorem open1Ver {r : Reach} {b0 : Nat} {v : Value} {d : DataW H} {p : List MemPlace} {ts : List TypeId} {ds : List (DataW H)} (j : Nat)
    (hv : Value.okWide Try.prog W r b0 64 v) (h : DataW.Trod enc Try.prog W base (fun _ => true) true 64 v d p)
    (hsz : (DataW.weightsEach Try.prog ts ds).all (· ≤ reachBytes) = true) (hj : ts[j]? = some 64) (hd : ds[j]? = some d) :
    ∃ m , v = .agg (cVer m ) ∧ kVer W m  := by
  obtain ⟨cs, rfl, hs⟩ := okWide_struct Try.underlying64 hv
  obtain ⟨fuel, hf⟩ := h
  obtain ⟨m, hc, hk⟩ := elemVer hf (kept_of hsz hj hd)
  have hc' : cs.toList = (cVer m ).toList := hc
  exact ⟨m, congrArg Value.agg (Array.toList_inj.1 hc'), hk⟩
/-- the n rows of 6 cells at a are l -/
def VQ (w : World) (a : Option Addr) (n : Nat) (l : List Ver) : Prop :=
  l.length = n ∧ (n = 0 ∨ ∃ b off, a = some ⟨b, off, none⟩ ∧ b < w.heap.size ∧ ∀ i, i < n → QVer w b (off + i * 6) (l.getD i default))
/-- A slice of them, with what is known of its room. -/
theorem openVer {r : Reach} {b0 : Nat} {v : Value} {d : DataW H} {p : List MemPlace} {ts : List TypeId} {ds : List (DataW H)} (j : Nat)
    (hv : Value.okWide Try.prog W r b0 47 v) (h : DataW.Trod enc Try.prog W base (fun _ => true) true 47 v d p)
    (hsz : (DataW.weightsEach Try.prog ts ds).all (· ≤ reachBytes) = true) (hj : ts[j]? = some 47) (hd : ds[j]? = some d) :
    ∃ a len cap l, v = .slice a len cap ∧ VQ W a len l ∧ (a = none → cap = 0) ∧ len ≤ cap ∧ cap ≤ 9223372036854775807 ∧ cap * 64 ≤ 140737488351232 := by
  obtain ⟨a, len, cap, rfl⟩ := okWide_slice Try.underlying47 hv
  obtain ⟨fuel, hf⟩ := h
  have hw := kept_of hsz hj hd
  obtain ⟨a', len', cap', l, e, h1, h2, h3⟩ := open_rows Try.underlying47 cellsVer (by omega) (QVer W) atVer (by simpa [Value.cells] using hf) hw
  cases e
  have hq : VQ W a len l := ⟨h1, h3⟩
  rcases open_slice (cs := [Value.slice a len cap]) Try.underlying47 (by simpa [Value.cells] using hf) with ⟨hcs, _⟩ | ⟨x, len1, cap1, m, n, D, Pl, hcs, _, hl, hm, hmm, hx, _⟩
  · simp only [List.cons.injEq, and_true, Value.slice.injEq] at hcs
    obtain ⟨rfl, rfl, rfl⟩ := hcs
    exact ⟨none, 0, 0, l, rfl, hq, fun _ => rfl, by omega, by omega, by omega⟩
  · simp only [List.cons.injEq, and_true, Value.slice.injEq] at hcs
    obtain ⟨rfl, rfl, rfl⟩ := hcs
    simp only [if_true] at hmm
    subst hmm
    unfold maxLen at hm
    have hwt : m * 64 ≤ 140737488351232 := by
      refine hw _ ?_
      have hx1 : d = _ := congrArg Prod.fst hx
      rw [hx1]
      simp only [DataW.weights, Try.underlying47, List.mem_cons]
      left
      rw [show Try.prog.bytesOf 64 = 64 by kernel_rfl, List.length_map, List.length_map, List.length_range, List.length_range]
      congr 1
      omega
    exact ⟨some x, len, m, l, rfl, hq, fun e => (by cases e), hl, by omega, hwt⟩
end
end Go.Proofs.Ytafocefbpkcoaaa.opV
