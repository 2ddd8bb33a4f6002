/- How a commit, a slice of them, a call of a log, and a slice of those, that come in are opened. -/
import Derived.Test.YtbfepdibblialaaOpV
import Derived.Test.YtbfepdibblialaaOrdC
set_option linter.unusedVariables false
set_option maxRecDepth 100000
namespace Go.Proofs.Ytbfepdibblialaa.opR
open Go.ChangeShapes Go.WideShapes Go.ChangeAt Go.RowKit Go.Deep Go.Joins
open opG opV chnM chnR ordA ordC

/-- what is known of a commit that came in -/
def kRec (W : World) (m : MR) : Prop := (0 ≤ m.ts ∧ m.ts < 18446744073709551616) ∧ (-9223372036854775808 ≤ m.dc ∧ m.dc ≤ 9223372036854775807) ∧ (-9223372036854775808 ≤ m.tx ∧ m.tx ≤ 9223372036854775807) ∧ HV W m.A m.c m.vs ∧ Sm m.vs
def QRec (W : World) (b o : Nat) (m : MR) : Prop := R4 b o m W ∧ kRec W m
theorem cellsRec : Try.prog.cellsOf 30 = 4 := by kernel_rfl
theorem oneRec : oneCellFields Try.prog (match Try.prog.underlying 30 with | some (.struct fs) => fs | _ => #[]) = true := by kernel_rfl
structure Oq where
  kind : Int
  at0 : Int
  m : MR
  t : Int
instance : Inhabited Oq := ⟨⟨0, 0, default, 0⟩⟩
def kOp (W : World) (o : Oq) : Prop := (-9223372036854775808 ≤ o.kind ∧ o.kind ≤ 9223372036854775807) ∧ (-9223372036854775808 ≤ o.at0 ∧ o.at0 ≤ 9223372036854775807) ∧ kRec W o.m ∧ (0 ≤ o.t ∧ o.t < 18446744073709551616)
def QOp (W : World) (b o : Nat) (q : Oq) : Prop := (W.cell? ⟨b, o, none⟩ = some (.int .i64 q.kind) ∧ W.cell? ⟨b, o + 1, none⟩ = some (.int .i64 q.at0) ∧ R4 b (o + 2) q.m W ∧ W.cell? ⟨b, o + 6, none⟩ = some (.int .u64 q.t)) ∧ kOp W q
theorem cellsOp : Try.prog.cellsOf 32 = 7 := by kernel_rfl
theorem one_int : Try.prog.cellsOf 3 = 1 := by kernel_rfl
theorem one_uint64 : Try.prog.cellsOf 27 = 1 := by kernel_rfl
section
variable {H : Type} {enc : TypeId × Value → H} {W : World} {base : Nat}
theorem versIn {n : Nat} {v : Value} {x : DataW H × List MemPlace} (hf : DataW.trod enc Try.prog W base (fun _ => true) true n 28 [v] = some x) (hw : Kept (x.1.weights Try.prog 28)) :
    ∃ a cap l, v = .slice a l.length cap ∧ HV W a cap l ∧ Sm l := by
  obtain ⟨a', len', cap', l, e, h1, h2, h3⟩ := open_rows Try.underlying28 cellsVer (by omega) (QVer W) atVer hf hw
  subst e
  have hq : VQ W a' len' l := ⟨h1, h3⟩
  have hsm : Sm l := by
    intro v hv
    rcases h3 with h0 | ⟨b, off, _, _, hq⟩
    · rw [h0] at h1
      rw [List.eq_nil_of_length_eq_zero h1] at hv; cases hv
    · obtain ⟨i, hi, rfl⟩ := mem_nt hv
      obtain ⟨_, k1, k2, _⟩ := hq i (by omega)
      exact ⟨by show (l.getD i default).key.size ≤ _; omega, by show (l.getD i default).val.size ≤ _; omega⟩
  rcases open_slice (cs := [Value.slice a' len' cap']) Try.underlying28 hf with ⟨hcs, _⟩ | ⟨y, len1, cap1, m, n1, D, Pl, hcs, _, hl, hm, hmm, hx, _⟩
  · simp only [List.cons.injEq, and_true, Value.slice.injEq] at hcs
    obtain ⟨rfl, rfl, rfl⟩ := hcs
    exact ⟨none, 0, l, by rw [h1], HV.of_vq hq (fun _ => rfl) (by omega) (by omega) (by omega), hsm⟩
  · simp only [List.cons.injEq, and_true, Value.slice.injEq] at hcs
    obtain ⟨rfl, rfl, rfl⟩ := hcs
    simp only [if_true] at hmm
    subst hmm
    unfold maxLen at hm
    have hwt : m * 64 ≤ 140737488351232 := by
      refine hw _ ?_
      have hx1 : x.1 = _ := congrArg Prod.fst hx
      rw [hx1]
      simp only [DataW.weights, Try.underlying28, List.mem_cons]
      left
      rw [show Try.prog.bytesOf 54 = 64 by kernel_rfl, List.length_map, List.length_map, List.length_range, List.length_range]
      congr 1
      omega
    exact ⟨some y, m, l, by rw [h1], HV.of_vq hq (fun e => (by cases e)) hl (by omega) hwt, hsm⟩
theorem elemRec {n : Nat} {cs : List Value} {x : DataW H × List MemPlace} (h : DataW.trod enc Try.prog W base (fun _ => true) true n 30 cs = some x) (hw : Kept (x.1.weights Try.prog 30)) :
    ∃ (m : MR), cs = cR m ∧ kRec W m := by
  obtain ⟨xs, m, _, hx, hcl, hlen, hg⟩ := DataW.trod_struct Try.underlying30 h
  have hone := hone_of oneRec
  simp only [Try.underlying30] at hone
  rw [cellsRec] at hcl
  match cs, hcl with
  | [d0, d1, d2, d3], _ =>
    match xs, hlen with
    | [y0, y1, y2, y3], _ =>
      obtain ⟨o0, k0⟩ := hone 0 _ rfl
      obtain ⟨o1, k1⟩ := hone 1 _ rfl
      obtain ⟨o2, k2⟩ := hone 2 _ rfl
      obtain ⟨o3, k3⟩ := hone 3 _ rfl
      have g0 := hg 0 _ rfl
      rw [o0, k0] at g0
      change DataW.trod enc Try.prog W base _ _ m 27 [d0] = some y0 at g0
      have g1 := hg 1 _ rfl
      rw [o1, k1] at g1
      change DataW.trod enc Try.prog W base _ _ m 3 [d1] = some y1 at g1
      have g2 := hg 2 _ rfl
      rw [o2, k2] at g2
      change DataW.trod enc Try.prog W base _ _ m 3 [d2] = some y2 at g2
      have g3 := hg 3 _ rfl
      rw [o3, k3] at g3
      change DataW.trod enc Try.prog W base _ _ m 28 [d3] = some y3 at g3
      obtain ⟨x0, e0, _, w0⟩ := DataW.trod_int Try.underlying27 g0
      obtain ⟨x1, e1, _, w1⟩ := DataW.trod_int Try.underlying3 g1
      obtain ⟨x2, e2, _, w2⟩ := DataW.trod_int Try.underlying3 g2
      obtain ⟨A, c, l, e3, hv, hs⟩ := versIn g3 (fun z hz => hw z (by
        rw [hx]
        simp only [DataW.weights, Try.underlying30]
        exact DataW.weights_mem_each (j := 3) (t := 28) (d := y3.1) rfl rfl z hz))
      simp only [List.cons.injEq, and_true] at e0 e1 e2
      subst e0 e1 e2 e3
      exact ⟨⟨x0, x1, x2, l, A, c⟩, rfl, (show 0 ≤ x0 ∧ x0 < 18446744073709551616 by have := bounds_u64 w0; omega), bounds_i64 w1, bounds_i64 w2, hv, hs⟩
theorem atRec (b o : Nat) (cs : List Value) (n : Nat) (x : DataW H × List MemPlace) (hc : ∀ j, j < 4 → W.cell? ⟨b, o + j, none⟩ = cs[j]?) (_ : cs.length = 4) (h : DataW.trod enc Try.prog W base (fun _ => true) true n 30 cs = some x) (hw : Kept (x.1.weights Try.prog 30)) :
    ∃ m, QRec W b o m := by
  obtain ⟨m, rfl, hk⟩ := elemRec h hw
  exact ⟨m, ⟨hc 0 (by omega), hc 1 (by omega), hc 2 (by omega), hc 3 (by omega)⟩, hk⟩
/-- One that came in by value. -/
theorem open1Rec {r : Reach} {b0 : Nat} {v : Value} {d : DataW H} {p : List MemPlace} {ts : List TypeId} {ds : List (DataW H)} (j : Nat)
    (hv : Value.okWide Try.prog W r b0 30 v) (h : DataW.Trod enc Try.prog W base (fun _ => true) true 30 v d p)
    (hsz : (DataW.weightsEach Try.prog ts ds).all (· ≤ reachBytes) = true) (hj : ts[j]? = some 30) (hd : ds[j]? = some d) :
    ∃ m , v = rv m ∧ kRec W m := by
  obtain ⟨cs, rfl, hs⟩ := okWide_struct Try.underlying30 hv
  obtain ⟨fuel, hf⟩ := h
  obtain ⟨m, hc, hk⟩ := elemRec hf (kept_of hsz hj hd)
  have hc' : cs.toList = (#[.int .u64 m.ts, .int .i64 m.dc, .int .i64 m.tx, .slice m.A m.vs.length m.c] : Array Value).toList := hc
  exact ⟨m, congrArg Value.agg (Array.toList_inj.1 hc'), hk⟩
/-- A slice of commits. -/
theorem openRec {r : Reach} {b0 : Nat} {v : Value} {d : DataW H} {p : List MemPlace} {ts : List TypeId} {ds : List (DataW H)} (j : Nat)
    (hv : Value.okWide Try.prog W r b0 45 v) (h : DataW.Trod enc Try.prog W base (fun _ => true) true 45 v d p)
    (hsz : (DataW.weightsEach Try.prog ts ds).all (· ≤ reachBytes) = true) (hj : ts[j]? = some 45) (hd : ds[j]? = some d) :
    ∃ a len cap l, v = .slice a len cap ∧ Rs W QRec 4 a len l := by
  obtain ⟨a, len, cap, rfl⟩ := okWide_slice Try.underlying45 hv
  obtain ⟨fuel, hf⟩ := h
  obtain ⟨a', len', cap', l, e, h1, h2, h3⟩ := open_rows Try.underlying45 cellsRec (by omega) (QRec W) atRec (by simpa [Value.cells] using hf) (kept_of hsz hj hd)
  cases e
  exact ⟨a, len, cap, l, rfl, h1, h2, h3⟩
theorem elemOp {n : Nat} {cs : List Value} {x : DataW H × List MemPlace} (h : DataW.trod enc Try.prog W base (fun _ => true) true n 32 cs = some x) (hw : Kept (x.1.weights Try.prog 32)) :
    ∃ (q : Oq), cs = .int .i64 q.kind :: .int .i64 q.at0 :: (cR q.m ++ [.int .u64 q.t]) ∧ kOp W q := by
  obtain ⟨xs, m, _, hx, hcl, hlen, hg⟩ := DataW.trod_struct Try.underlying32 h
  rw [cellsOp] at hcl
  match cs, hcl with
  | [d0, e0', d1, d2, d3, d4, d5], _ =>
    match xs, hlen with
    | [y0, z0, y1, y2], _ =>
      have g0 := hg 0 _ rfl
      have ga := hg 1 _ rfl
      have g1 := hg 2 _ rfl
      have g2 := hg 3 _ rfl
      change DataW.trod enc Try.prog W base _ _ m 3 (([d0, e0', d1, d2, d3, d4, d5].drop 0).take (Try.prog.cellsOf 3)) = some y0 at g0
      rw [one_int] at g0
      change DataW.trod enc Try.prog W base _ _ m 3 [d0] = some y0 at g0
      change DataW.trod enc Try.prog W base _ _ m 3 (([d0, e0', d1, d2, d3, d4, d5].drop 1).take (Try.prog.cellsOf 3)) = some z0 at ga
      rw [one_int] at ga
      change DataW.trod enc Try.prog W base _ _ m 3 [e0'] = some z0 at ga
      change DataW.trod enc Try.prog W base _ _ m 30 (([d0, e0', d1, d2, d3, d4, d5].drop 2).take (Try.prog.cellsOf 30)) = some y1 at g1
      rw [cellsRec] at g1
      change DataW.trod enc Try.prog W base _ _ m 30 [d1, d2, d3, d4] = some y1 at g1
      change DataW.trod enc Try.prog W base _ _ m 27 (([d0, e0', d1, d2, d3, d4, d5].drop 6).take (Try.prog.cellsOf 27)) = some y2 at g2
      rw [one_uint64] at g2
      change DataW.trod enc Try.prog W base _ _ m 27 [d5] = some y2 at g2
      obtain ⟨x0, e0, _, w0⟩ := DataW.trod_int Try.underlying3 g0
      obtain ⟨xa, ea, _, wa⟩ := DataW.trod_int Try.underlying3 ga
      obtain ⟨x1, e1, k1⟩ := elemRec g1 (fun z hz => hw z (by
        rw [hx]
        simp only [DataW.weights, Try.underlying32]
        exact DataW.weights_mem_each (j := 2) (t := 30) (d := y1.1) rfl rfl z hz))
      obtain ⟨x2, e2, _, w2⟩ := DataW.trod_int Try.underlying27 g2
      simp only [List.cons.injEq, and_true] at e0 ea e2
      unfold cR at e1
      simp only [List.cons.injEq, and_true] at e1
      obtain ⟨q1, q2, q3, q4⟩ := e1
      subst e0 ea e2 q1 q2 q3 q4
      exact ⟨⟨x0, xa, x1, x2⟩, rfl, bounds_i64 w0, bounds_i64 wa, k1, (show 0 ≤ x2 ∧ x2 < 18446744073709551616 by have := bounds_u64 w2; omega)⟩
theorem atOp (b o : Nat) (cs : List Value) (n : Nat) (x : DataW H × List MemPlace) (hc : ∀ j, j < 7 → W.cell? ⟨b, o + j, none⟩ = cs[j]?) (_ : cs.length = 7) (h : DataW.trod enc Try.prog W base (fun _ => true) true n 32 cs = some x) (hw : Kept (x.1.weights Try.prog 32)) :
    ∃ m, QOp W b o m := by
  obtain ⟨m, rfl, hk⟩ := elemOp h hw
  exact ⟨m, ⟨hc 0 (by omega), hc 1 (by omega), ⟨hc 2 (by omega), hc 3 (by omega), hc 4 (by omega), hc 5 (by omega)⟩, hc 6 (by omega)⟩, hk⟩
/-- A slice of calls. -/
theorem openOp {r : Reach} {b0 : Nat} {v : Value} {d : DataW H} {p : List MemPlace} {ts : List TypeId} {ds : List (DataW H)} (j : Nat)
    (hv : Value.okWide Try.prog W r b0 22 v) (h : DataW.Trod enc Try.prog W base (fun _ => true) true 22 v d p)
    (hsz : (DataW.weightsEach Try.prog ts ds).all (· ≤ reachBytes) = true) (hj : ts[j]? = some 22) (hd : ds[j]? = some d) :
    ∃ a len cap l, v = .slice a len cap ∧ Rs W QOp 7 a len l := by
  obtain ⟨a, len, cap, rfl⟩ := okWide_slice Try.underlying22 hv
  obtain ⟨fuel, hf⟩ := h
  obtain ⟨a', len', cap', l, e, h1, h2, h3⟩ := open_rows Try.underlying22 cellsOp (by omega) (QOp W) atOp (by simpa [Value.cells] using hf) (kept_of hsz hj hd)
  cases e
  exact ⟨a, len, cap, l, rfl, h1, h2, h3⟩
/-- A slice of calls, and its room. -/
theorem openOpC {r : Reach} {b0 : Nat} {v : Value} {d : DataW H} {p : List MemPlace} {ts : List TypeId} {ds : List (DataW H)} (j : Nat)
    (hv : Value.okWide Try.prog W r b0 22 v) (h : DataW.Trod enc Try.prog W base (fun _ => true) true 22 v d p)
    (hsz : (DataW.weightsEach Try.prog ts ds).all (· ≤ reachBytes) = true) (hj : ts[j]? = some 22) (hd : ds[j]? = some d) :
    ∃ a len cap l, v = .slice a len cap ∧ Rs W QOp 7 a len l ∧ len ≤ cap ∧ cap ≤ 9223372036854775807 := by
  obtain ⟨a, len, cap, l, rfl, hq⟩ := openOp j hv h hsz hj hd
  obtain ⟨fuel, hf⟩ := h
  have hf' : DataW.trod enc Try.prog W base (fun _ => true) true fuel 22 [Value.slice a len cap] = some (d, p) := by simpa [Value.cells] using hf
  rcases open_slice (cs := [Value.slice a len cap]) Try.underlying22 hf' with ⟨hcs, _⟩ | ⟨y, len1, cap1, m, n1, D, Pl, hcs, _, hl, hm, hmm, hx, _⟩
  · simp only [List.cons.injEq, and_true, Value.slice.injEq] at hcs
    obtain ⟨rfl, rfl, rfl⟩ := hcs
    exact ⟨none, 0, 0, l, rfl, hq, by omega, by omega⟩
  · simp only [List.cons.injEq, and_true, Value.slice.injEq] at hcs
    obtain ⟨rfl, rfl, rfl⟩ := hcs
    simp only [if_true] at hmm
    subst hmm
    unfold maxLen at hm
    exact ⟨some y, _, _, l, rfl, hq, hl, by omega⟩
end
end Go.Proofs.Ytbfepdibblialaa.opR
