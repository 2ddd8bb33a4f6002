/- How a call of a store (a number, a slice of versions, two texts, a time), and a slice of them, that come in are opened. -/
import Derived.Test.YtlojmojmijklmaaOpV
import Derived.Test.YtlojmojmijklmaaChnR
set_option linter.unusedVariables false
set_option maxRecDepth 100000
namespace Go.Proofs.Ytlojmojmijklmaa.opP
open Go.ChangeShapes Go.WideShapes Go.ChangeAt Go.RowKit Go.Deep Go.Joins
open opG opV chnR

structure Op where
  kind : Int
  A : Option Addr
  c : Nat
  l : List Ver
  lo : ByteArray
  hi : ByteArray
  t : Int
instance : Inhabited Op := ⟨⟨0, none, 0, [], ⟨#[]⟩, ⟨#[]⟩, 0⟩⟩
def kOp (W : World) (m : Op) : Prop := (-9223372036854775808 ≤ m.kind ∧ m.kind ≤ 9223372036854775807) ∧ HV W m.A m.c m.l ∧ m.lo.size ≤ 140737488351232 ∧ m.hi.size ≤ 140737488351232 ∧ (0 ≤ m.t ∧ m.t < 18446744073709551616)
def QOp (W : World) (b o : Nat) (m : Op) : Prop := (W.cell? ⟨b, o, none⟩ = some (.int .i64 m.kind) ∧ W.cell? ⟨b, o + 1, none⟩ = some (.slice m.A m.l.length m.c) ∧ W.cell? ⟨b, o + 2, none⟩ = some (.string m.lo) ∧ W.cell? ⟨b, o + 3, none⟩ = some (.string m.hi) ∧ W.cell? ⟨b, o + 4, none⟩ = some (.int .u64 m.t)) ∧ kOp W m
theorem cellsOp : Try.prog.cellsOf 32 = 5 := by kernel_rfl
theorem oneOp : oneCellFields Try.prog (match Try.prog.underlying 32 with | some (.struct fs) => fs | _ => #[]) = true := by kernel_rfl
section
variable {H : Type} {enc : TypeId × Value → H} {W : World} {base : Nat}
theorem versIn {n : Nat} {v : Value} {x : DataW H × List MemPlace} (hf : DataW.trod enc Try.prog W base (fun _ => true) true n 30 [v] = some x) (hw : Kept (x.1.weights Try.prog 30)) :
    ∃ a cap l, v = .slice a l.length cap ∧ HV W a cap l := by
  obtain ⟨a', len', cap', l, e, h1, h2, h3⟩ := open_rows Try.underlying30 cellsVer (by omega) (QVer W) atVer hf hw
  subst e
  have hq : VQ W a' len' l := ⟨h1, h3⟩
  rcases open_slice (cs := [Value.slice a' len' cap']) Try.underlying30 hf with ⟨hcs, _⟩ | ⟨y, len1, cap1, m, n1, D, Pl, hcs, _, hl, hm, hmm, hx, _⟩
  · simp only [List.cons.injEq, and_true, Value.slice.injEq] at hcs
    obtain ⟨rfl, rfl, rfl⟩ := hcs
    refine ⟨none, 0, l, by rw [h1], HV.of_vq hq (fun _ => rfl) (by omega) (by omega) (by omega)⟩
  · simp only [List.cons.injEq, and_true, Value.slice.injEq] at hcs
    obtain ⟨rfl, rfl, rfl⟩ := hcs
    simp only [if_true] at hmm
    subst hmm
    unfold maxLen at hm
    have hwt : m * 64 ≤ 140737488351232 := by
      refine hw _ ?_
      have hx1 : x.1 = _ := congrArg Prod.fst hx
      rw [hx1]
      simp only [DataW.weights, Try.underlying30, List.mem_cons]
      left
      rw [show Try.prog.bytesOf 35 = 64 by kernel_rfl, List.length_map, List.length_map, List.length_range, List.length_range]
      congr 1
      omega
    exact ⟨some y, m, l, by rw [h1], HV.of_vq hq (fun e => (by cases e)) hl (by omega) hwt⟩
theorem elemOp {n : Nat} {cs : List Value} {x : DataW H × List MemPlace} (h : DataW.trod enc Try.prog W base (fun _ => true) true n 32 cs = some x) (hw : Kept (x.1.weights Try.prog 32)) :
    ∃ (m : Op), cs = [.int .i64 m.kind, .slice m.A m.l.length m.c, .string m.lo, .string m.hi, .int .u64 m.t] ∧ kOp W m := by
  obtain ⟨xs, m, _, hx, hcl, hlen, hg⟩ := DataW.trod_struct Try.underlying32 h
  have hone := hone_of oneOp
  simp only [Try.underlying32] at hone
  rw [cellsOp] at hcl
  match cs, hcl with
  | [d0, d1, d2, d3, d4], _ =>
    match xs, hlen with
    | [y0, y1, y2, y3, y4], _ =>
      obtain ⟨o0, k0⟩ := hone 0 _ rfl
      obtain ⟨o1, k1⟩ := hone 1 _ rfl
      obtain ⟨o2, k2⟩ := hone 2 _ rfl
      obtain ⟨o3, k3⟩ := hone 3 _ rfl
      obtain ⟨o4, k4⟩ := hone 4 _ rfl
      have g0 := hg 0 _ rfl
      rw [o0, k0] at g0
      change DataW.trod enc Try.prog W base _ _ m 3 [d0] = some y0 at g0
      have g1 := hg 1 _ rfl
      rw [o1, k1] at g1
      change DataW.trod enc Try.prog W base _ _ m 30 [d1] = some y1 at g1
      have g2 := hg 2 _ rfl
      rw [o2, k2] at g2
      change DataW.trod enc Try.prog W base _ _ m 9 [d2] = some y2 at g2
      have g3 := hg 3 _ rfl
      rw [o3, k3] at g3
      change DataW.trod enc Try.prog W base _ _ m 9 [d3] = some y3 at g3
      have g4 := hg 4 _ rfl
      rw [o4, k4] at g4
      change DataW.trod enc Try.prog W base _ _ m 27 [d4] = some y4 at g4
      obtain ⟨x0, e0, _, w0⟩ := DataW.trod_int Try.underlying3 g0
      obtain ⟨A, c, l, e1, hv⟩ := versIn g1 (fun z hz => hw z (by
        rw [hx]
        simp only [DataW.weights, Try.underlying32]
        exact DataW.weights_mem_each (j := 1) (t := 30) (d := y1.1) rfl rfl z hz))
      obtain ⟨x2, e2, s2⟩ := fld_string g2 (fun z hz => hw z (by
        rw [hx]
        simp only [DataW.weights, Try.underlying32]
        exact DataW.weights_mem_each (j := 2) (t := 9) (d := y2.1) rfl rfl z hz))
      obtain ⟨x3, e3, s3⟩ := fld_string g3 (fun z hz => hw z (by
        rw [hx]
        simp only [DataW.weights, Try.underlying32]
        exact DataW.weights_mem_each (j := 3) (t := 9) (d := y3.1) rfl rfl z hz))
      obtain ⟨x4, e4, _, w4⟩ := DataW.trod_int Try.underlying27 g4
      simp only [List.cons.injEq, and_true] at e0 e4
      subst e0 e1 e2 e3 e4
      exact ⟨⟨x0, A, c, l, x2, x3, x4⟩, rfl, bounds_i64 w0, hv, s2, s3, (show 0 ≤ x4 ∧ x4 < 18446744073709551616 by have := bounds_u64 w4; omega)⟩
theorem atOp (b o : Nat) (cs : List Value) (n : Nat) (x : DataW H × List MemPlace) (hc : ∀ j, j < 5 → W.cell? ⟨b, o + j, none⟩ = cs[j]?) (_ : cs.length = 5) (h : DataW.trod enc Try.prog W base (fun _ => true) true n 32 cs = some x) (hw : Kept (x.1.weights Try.prog 32)) :
    ∃ m, QOp W b o m := by
  obtain ⟨m, rfl, hk⟩ := elemOp h hw
  exact ⟨m, ⟨hc 0 (by omega), hc 1 (by omega), hc 2 (by omega), hc 3 (by omega), hc 4 (by omega)⟩, hk⟩
/-- A slice of them. -/
theorem openOp {r : Reach} {b0 : Nat} {v : Value} {d : DataW H} {p : List MemPlace} {ts : List TypeId} {ds : List (DataW H)} (j : Nat)
    (hv : Value.okWide Try.prog W r b0 22 v) (h : DataW.Trod enc Try.prog W base (fun _ => true) true 22 v d p)
    (hsz : (DataW.weightsEach Try.prog ts ds).all (· ≤ reachBytes) = true) (hj : ts[j]? = some 22) (hd : ds[j]? = some d) :
    ∃ a len cap l, v = .slice a len cap ∧ Rs W QOp 5 a len l := by
  obtain ⟨a, len, cap, rfl⟩ := okWide_slice Try.underlying22 hv
  obtain ⟨fuel, hf⟩ := h
  obtain ⟨a', len', cap', l, e, h1, h2, h3⟩ := open_rows Try.underlying22 cellsOp (by omega) (QOp W) atOp (by simpa [Value.cells] using hf) (kept_of hsz hj hd)
  cases e
  exact ⟨a, len, cap, l, rfl, h1, h2, h3⟩
end
end Go.Proofs.Ytlojmojmijklmaa.opP
