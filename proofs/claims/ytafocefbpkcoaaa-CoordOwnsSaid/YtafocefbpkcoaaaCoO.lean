/- Shares in memory; how shares, a call of a table, and slices of those, that come in are opened. -/
import Derived.Test.YtafocefbpkcoaaaCoG
import Derived.Test.YtafocefbpkcoaaaCoM
set_option linter.unusedVariables false
set_option maxRecDepth 100000
namespace Go.Proofs.Ytafocefbpkcoaaa.coO
open Go.ChangeShapes Go.WideShapes Go.ChangeAt Go.RowKit Go.Deep Go.Joins
open opG opV chnM chnR ordA ordC coG coM

/-- a share, and where its versions lie -/
structure SR where
  node : Int
  vs : List Ver
  A : Option Addr
  c : Nat
instance : Inhabited SR := ⟨⟨0, [], none, 0⟩⟩
def SR.s (r : SR) : Sh := ⟨r.node, r.vs⟩
def cS (r : SR) : List Value := [.int .i64 r.node, .slice r.A r.vs.length r.c]
theorem cS_one (r : SR) : ∀ u ∈ cS r, u.oneCell' = true := by
  intro u hu
  simp only [cS, List.mem_cons, List.not_mem_nil, or_false] at hu
  rcases hu with rfl | rfl <;> rfl
abbrev shS : Shape SR := ⟨61, 2, cS, fun _ => rfl, by decide, cS_one⟩
/-- what is known of a share that came in -/
def kSh (W : World) (r : SR) : Prop := (-9223372036854775808 ≤ r.node ∧ r.node ≤ 9223372036854775807) ∧ HV W r.A r.c r.vs ∧ Sm r.vs
def QSh (W : World) (b o : Nat) (r : SR) : Prop := (W.cell? ⟨b, o, none⟩ = some (.int .i64 r.node) ∧ W.cell? ⟨b, o + 1, none⟩ = some (.slice r.A r.vs.length r.c)) ∧ kSh W r
theorem cellsSh : Try.prog.cellsOf 61 = 2 := by kernel_rfl
theorem oneSh : oneCellFields Try.prog (match Try.prog.underlying 61 with | some (.struct fs) => fs | _ => #[]) = true := by kernel_rfl
structure Oq where
  kind : Int
  tx : Int
  t : Int
  node : Int
  rs : List SR
  A : Option Addr
  c : Nat
  lo : ByteArray
  hi : ByteArray
instance : Inhabited Oq := ⟨⟨0, 0, 0, 0, [], none, 0, ⟨#[]⟩, ⟨#[]⟩⟩⟩
abbrev cO (o : Oq) : Array Value := #[.int .i64 o.kind, .int .u64 o.tx, .int .u64 o.t, .int .i64 o.node, .slice o.A o.rs.length o.c, .string o.lo, .string o.hi]
structure kOp (W : World) (o : Oq) : Prop where
  x0 : 0 ≤ o.tx
  x1 : o.tx < 18446744073709551616
  t0 : 0 ≤ o.t
  t1 : o.t < 18446744073709551616
  n0 : -9223372036854775808 ≤ o.node
  n1 : o.node ≤ 9223372036854775807
  rd : Rd shS W o.A o.c o.rs
  sh : ∀ r ∈ o.rs, kSh W r
  lo : o.lo.size ≤ 140737488351232
  hi : o.hi.size ≤ 140737488351232
abbrev O7 (b o : Nat) (q : Oq) (W : World) : Prop :=
  W.cell? ⟨b, o, none⟩ = some (.int .i64 q.kind) ∧ W.cell? ⟨b, o + 1, none⟩ = some (.int .u64 q.tx) ∧ W.cell? ⟨b, o + 2, none⟩ = some (.int .u64 q.t) ∧ W.cell? ⟨b, o + 3, none⟩ = some (.int .i64 q.node) ∧
  W.cell? ⟨b, o + 4, none⟩ = some (.slice q.A q.rs.length q.c) ∧ W.cell? ⟨b, o + 5, none⟩ = some (.string q.lo) ∧ W.cell? ⟨b, o + 6, none⟩ = some (.string q.hi)
def QOp (W : World) (b o : Nat) (q : Oq) : Prop := O7 b o q W ∧ kOp W q
theorem cellsOp : Try.prog.cellsOf 32 = 7 := by kernel_rfl
theorem oneOp : oneCellFields Try.prog (match Try.prog.underlying 32 with | some (.struct fs) => fs | _ => #[]) = true := by kernel_rfl
section
variable {H : Type} {enc : TypeId × Value → H} {W : World} {base : Nat}
theorem versIn {n : Nat} {v : Value} {x : DataW H × List MemPlace} (hf : DataW.trod enc Try.prog W base (fun _ => true) true n 47 [v] = some x) (hw : Kept (x.1.weights Try.prog 47)) :
    ∃ a cap l, v = .slice a l.length cap ∧ HV W a cap l ∧ Sm l := by
  obtain ⟨a', len', cap', l, e, h1, h2, h3⟩ := open_rows Try.underlying47 cellsVer (by omega) (QVer W) atVer hf hw
  subst e
  have hq : VQ W a' len' l := ⟨h1, h3⟩
  have hsm : Sm l := by
    intro v hv
    rcases h3 with h0 | ⟨b, off, _, _, hq⟩
    · rw [h0] at h1
      rw [List.eq_nil_of_length_eq_zero h1] at hv; cases hv
    · obtain ⟨i, hi, rfl⟩ := mem_nt hv
      obtain ⟨_, k1, k2, _⟩ := hq i (by omega)
      exact ⟨by show (l.getD i default).key.size ≤ _; omega, by show (l.getD i default).val.size ≤ _; omega⟩
  rcases open_slice (cs := [Value.slice a' len' cap']) Try.underlying47 hf with ⟨hcs, _⟩ | ⟨y, len1, cap1, m, n1, D, Pl, hcs, _, hl, hm, hmm, hx, _⟩
  · simp only [List.cons.injEq, and_true, Value.slice.injEq] at hcs
    obtain ⟨rfl, rfl, rfl⟩ := hcs
    exact ⟨none, 0, l, by rw [h1], HV.of_vq hq (fun _ => rfl) (by omega) (by omega) (by omega), hsm⟩
  · simp only [List.cons.injEq, and_true, Value.slice.injEq] at hcs
    obtain ⟨rfl, rfl, rfl⟩ := hcs
    simp only [if_true] at hmm
    subst hmm
    unfold maxLen at hm
    have hwt : m * 64 ≤ 140737488351232 := by
      refine hw _ ?_
      have hx1 : x.1 = _ := congrArg Prod.fst hx
      rw [hx1]
      simp only [DataW.weights, Try.underlying47, List.mem_cons]
      left
      rw [show Try.prog.bytesOf 64 = 64 by kernel_rfl, List.length_map, List.length_map, List.length_range, List.length_range]
      congr 1
      omega
    exact ⟨some y, m, l, by rw [h1], HV.of_vq hq (fun e => (by cases e)) hl (by omega) hwt, hsm⟩
theorem elemSh {n : Nat} {cs : List Value} {x : DataW H × List MemPlace} (h : DataW.trod enc Try.prog W base (fun _ => true) true n 61 cs = some x) (hw : Kept (x.1.weights Try.prog 61)) :
    ∃ (r : SR), cs = cS r ∧ kSh W r := by
  obtain ⟨xs, m, _, hx, hcl, hlen, hg⟩ := DataW.trod_struct Try.underlying61 h
  have hone := hone_of oneSh
  simp only [Try.underlying61] at hone
  rw [cellsSh] at hcl
  match cs, hcl with
  | [d0, d1], _ =>
    match xs, hlen with
    | [y0, y1], _ =>
      obtain ⟨o0, k0⟩ := hone 0 _ rfl
      obtain ⟨o1, k1⟩ := hone 1 _ rfl
      have g0 := hg 0 _ rfl
      rw [o0, k0] at g0
      change DataW.trod enc Try.prog W base _ _ m 3 [d0] = some y0 at g0
      have g1 := hg 1 _ rfl
      rw [o1, k1] at g1
      change DataW.trod enc Try.prog W base _ _ m 47 [d1] = some y1 at g1
      obtain ⟨x0, e0, _, w0⟩ := DataW.trod_int Try.underlying3 g0
      obtain ⟨A, c, l, e1, hv, hs⟩ := versIn g1 (fun z hz => hw z (by
        rw [hx]
        simp only [DataW.weights, Try.underlying61]
        exact DataW.weights_mem_each (j := 1) (t := 47) (d := y1.1) rfl rfl z hz))
      simp only [List.cons.injEq, and_true] at e0
      subst e0 e1
      exact ⟨⟨x0, l, A, c⟩, rfl, bounds_i64 w0, hv, hs⟩
theorem atSh (b o : Nat) (cs : List Value) (n : Nat) (x : DataW H × List MemPlace) (hc : ∀ j, j < 2 → W.cell? ⟨b, o + j, none⟩ = cs[j]?) (_ : cs.length = 2) (h : DataW.trod enc Try.prog W base (fun _ => true) true n 61 cs = some x) (hw : Kept (x.1.weights Try.prog 61)) :
    ∃ m, QSh W b o m := by
  obtain ⟨m, rfl, hk⟩ := elemSh h hw
  exact ⟨m, ⟨hc 0 (by omega), hc 1 (by omega)⟩, hk⟩
theorem sharesIn {n : Nat} {v : Value} {x : DataW H × List MemPlace} (hf : DataW.trod enc Try.prog W base (fun _ => true) true n 30 [v] = some x) (hw : Kept (x.1.weights Try.prog 30)) :
    ∃ a cap l, v = .slice a l.length cap ∧ Rd shS W a cap l ∧ ∀ r ∈ l, kSh W r := by
  obtain ⟨a', len', cap', l, e, h1, h2, h3⟩ := open_rows Try.underlying30 cellsSh (by omega) (QSh W) atSh hf hw
  subst e
  have hk : ∀ r ∈ l, kSh W r := by
    intro r hr
    rcases h3 with h0 | ⟨b, off, _, _, hq⟩
    · rw [h0] at h1
      rw [List.eq_nil_of_length_eq_zero h1] at hr; cases hr
    · obtain ⟨i, hi, rfl⟩ := mem_nt hr
      exact (hq i (by omega)).2
  have hrow : l = [] ∨ ∃ b off, a' = some ⟨b, off, none⟩ ∧ b < W.heap.size ∧ ∀ i j x u, l[i]? = some x → (cS x)[j]? = some u → W.cell? ⟨b, off + i * 2 + j, none⟩ = some u := by
    rcases h3 with h0 | ⟨b, off, e, hb, hq⟩
    · exact .inl (List.eq_nil_of_length_eq_zero (by omega))
    · refine .inr ⟨b, off, e, hb, fun i j x u hx hu => ?_⟩
      have hi : i < l.length := (List.getElem?_eq_some_iff.1 hx).1
      have h := (hq i (by omega)).1
      have e2 : l.getD i default = x := by rw [List.getD_eq_getElem?_getD, hx]; rfl
      rw [e2] at h
      have hj : j < 2 := (List.getElem?_eq_some_iff.1 hu).1
      rcases (by omega : j = 0 ∨ j = 1) with rfl | rfl
      · simp only [cS, List.getElem?_cons_zero, Option.some.injEq] at hu; subst hu; exact h.1
      · simp only [cS, List.getElem?_cons_zero, List.getElem?_cons_succ, Option.some.injEq] at hu; subst hu; exact h.2
  rcases open_slice (cs := [Value.slice a' len' cap']) Try.underlying30 hf with ⟨hcs, _⟩ | ⟨y, len1, cap1, m, n1, D, Pl, hcs, _, hl, hm, hmm, hx, _⟩
  · simp only [List.cons.injEq, and_true, Value.slice.injEq] at hcs
    obtain ⟨rfl, rfl, rfl⟩ := hcs
    exact ⟨none, 0, l, by rw [h1], ⟨hrow, by omega, by omega⟩, hk⟩
  · simp only [List.cons.injEq, and_true, Value.slice.injEq] at hcs
    obtain ⟨rfl, rfl, rfl⟩ := hcs
    simp only [if_true] at hmm
    subst hmm
    unfold maxLen at hm
    exact ⟨some y, m, l, by rw [h1], ⟨hrow, by omega, by omega⟩, hk⟩
/-- A slice of shares. -/
theorem openSh {r : Reach} {b0 : Nat} {v : Value} {d : DataW H} {p : List MemPlace} {ts : List TypeId} {ds : List (DataW H)} (j : Nat)
    (hv : Value.okWide Try.prog W r b0 30 v) (h : DataW.Trod enc Try.prog W base (fun _ => true) true 30 v d p)
    (hsz : (DataW.weightsEach Try.prog ts ds).all (· ≤ reachBytes) = true) (hj : ts[j]? = some 30) (hd : ds[j]? = some d) :
    ∃ a cap l, v = .slice a l.length cap ∧ Rd shS W a cap l ∧ ∀ r ∈ l, kSh W r := by
  obtain ⟨a, len, cap, rfl⟩ := okWide_slice Try.underlying30 hv
  obtain ⟨fuel, hf⟩ := h
  exact sharesIn (by simpa [Value.cells] using hf) (kept_of hsz hj hd)
theorem elemOp {n : Nat} {cs : List Value} {x : DataW H × List MemPlace} (h : DataW.trod enc Try.prog W base (fun _ => true) true n 32 cs = some x) (hw : Kept (x.1.weights Try.prog 32)) :
    ∃ (q : Oq), cs = (cO q).toList ∧ kOp W q := by
  obtain ⟨xs, m, _, hx, hcl, hlen, hg⟩ := DataW.trod_struct Try.underlying32 h
  have hone := hone_of oneOp
  simp only [Try.underlying32] at hone
  rw [cellsOp] at hcl
  match cs, hcl with
  | [d0, d1, d2, d3, d4, d5, d6], _ =>
    match xs, hlen with
    | [y0, y1, y2, y3, y4, y5, y6], _ =>
      obtain ⟨o0, k0⟩ := hone 0 _ rfl
      obtain ⟨o1, k1⟩ := hone 1 _ rfl
      obtain ⟨o2, k2⟩ := hone 2 _ rfl
      obtain ⟨o3, k3⟩ := hone 3 _ rfl
      obtain ⟨o4, k4⟩ := hone 4 _ rfl
      obtain ⟨o5, k5⟩ := hone 5 _ rfl
      obtain ⟨o6, k6⟩ := hone 6 _ rfl
      have g0 := hg 0 _ rfl
      rw [o0, k0] at g0
      change DataW.trod enc Try.prog W base _ _ m 3 [d0] = some y0 at g0
      have g1 := hg 1 _ rfl
      rw [o1, k1] at g1
      change DataW.trod enc Try.prog W base _ _ m 29 [d1] = some y1 at g1
      have g2 := hg 2 _ rfl
      rw [o2, k2] at g2
      change DataW.trod enc Try.prog W base _ _ m 29 [d2] = some y2 at g2
      have g3 := hg 3 _ rfl
      rw [o3, k3] at g3
      change DataW.trod enc Try.prog W base _ _ m 3 [d3] = some y3 at g3
      have g4 := hg 4 _ rfl
      rw [o4, k4] at g4
      change DataW.trod enc Try.prog W base _ _ m 30 [d4] = some y4 at g4
      have g5 := hg 5 _ rfl
      rw [o5, k5] at g5
      change DataW.trod enc Try.prog W base _ _ m 9 [d5] = some y5 at g5
      have g6 := hg 6 _ rfl
      rw [o6, k6] at g6
      change DataW.trod enc Try.prog W base _ _ m 9 [d6] = some y6 at g6
      obtain ⟨x0, e0, _, w0⟩ := DataW.trod_int Try.underlying3 g0
      obtain ⟨x1, e1, _, w1⟩ := DataW.trod_int Try.underlying29 g1
      obtain ⟨x2, e2, _, w2⟩ := DataW.trod_int Try.underlying29 g2
      obtain ⟨x3, e3, _, w3⟩ := DataW.trod_int Try.underlying3 g3
      obtain ⟨A, c, l, e4, hv, hs⟩ := sharesIn g4 (fun z hz => hw z (by
        rw [hx]
        simp only [DataW.weights, Try.underlying32]
        exact DataW.weights_mem_each (j := 4) (t := 30) (d := y4.1) rfl rfl z hz))
      obtain ⟨x5, e5, s5⟩ := fld_string g5 (fun z hz => hw z (by
        rw [hx]
        simp only [DataW.weights, Try.underlying32]
        exact DataW.weights_mem_each (j := 5) (t := 9) (d := y5.1) rfl rfl z hz))
      obtain ⟨x6, e6, s6⟩ := fld_string g6 (fun z hz => hw z (by
        rw [hx]
        simp only [DataW.weights, Try.underlying32]
        exact DataW.weights_mem_each (j := 6) (t := 9) (d := y6.1) rfl rfl z hz))
      simp only [List.cons.injEq, and_true] at e0 e1 e2 e3
      subst e0 e1 e2 e3 e4 e5 e6
      have b1 := bounds_u64 w1
      have b2 := bounds_u64 w2
      have b3 := bounds_i64 w3
      exact ⟨⟨x0, x1, x2, x3, l, A, c, x5, x6⟩, rfl, by show 0 ≤ x1; omega, by show x1 < _; omega, by show 0 ≤ x2; omega, by show x2 < _; omega, b3.1, b3.2, hv, hs, s5, s6⟩
theorem atOp (b o : Nat) (cs : List Value) (n : Nat) (x : DataW H × List MemPlace) (hc : ∀ j, j < 7 → W.cell? ⟨b, o + j, none⟩ = cs[j]?) (_ : cs.length = 7) (h : DataW.trod enc Try.prog W base (fun _ => true) true n 32 cs = some x) (hw : Kept (x.1.weights Try.prog 32)) :
    ∃ m, QOp W b o m := by
  obtain ⟨m, rfl, hk⟩ := elemOp h hw
  exact ⟨m, ⟨hc 0 (by omega), hc 1 (by omega), hc 2 (by omega), hc 3 (by omega), hc 4 (by omega), hc 5 (by omega), hc 6 (by omega)⟩, hk⟩
/-- One that came in by value. -/
theorem open1Op {r : Reach} {b0 : Nat} {v : Value} {d : DataW H} {p : List MemPlace} {ts : List TypeId} {ds : List (DataW H)} (j : Nat)
    (hv : Value.okWide Try.prog W r b0 32 v) (h : DataW.Trod enc Try.prog W base (fun _ => true) true 32 v d p)
    (hsz : (DataW.weightsEach Try.prog ts ds).all (· ≤ reachBytes) = true) (hj : ts[j]? = some 32) (hd : ds[j]? = some d) :
    ∃ m , v = .agg (cO m) ∧ kOp W m := by
  obtain ⟨cs, rfl, hs⟩ := okWide_struct Try.underlying32 hv
  obtain ⟨fuel, hf⟩ := h
  obtain ⟨m, hc, hk⟩ := elemOp hf (kept_of hsz hj hd)
  exact ⟨m, congrArg Value.agg (Array.toList_inj.1 hc), hk⟩
/-- A slice of calls, and its room. -/
theorem openOp {r : Reach} {b0 : Nat} {v : Value} {d : DataW H} {p : List MemPlace} {ts : List TypeId} {ds : List (DataW H)} (j : Nat)
    (hv : Value.okWide Try.prog W r b0 22 v) (h : DataW.Trod enc Try.prog W base (fun _ => true) true 22 v d p)
    (hsz : (DataW.weightsEach Try.prog ts ds).all (· ≤ reachBytes) = true) (hj : ts[j]? = some 22) (hd : ds[j]? = some d) :
    ∃ a len cap l, v = .slice a len cap ∧ Rs W QOp 7 a len l ∧ len ≤ cap ∧ cap ≤ 9223372036854775807 := by
  obtain ⟨a, len, cap, rfl⟩ := okWide_slice Try.underlying22 hv
  obtain ⟨fuel, hf⟩ := h
  have hf' : DataW.trod enc Try.prog W base (fun _ => true) true fuel 22 [Value.slice a len cap] = some (d, p) := by simpa [Value.cells] using hf
  obtain ⟨a', len', cap', l, e, h1, h2, h3⟩ := open_rows Try.underlying22 cellsOp (by omega) (QOp W) atOp hf' (kept_of hsz hj hd)
  cases e
  have hq : Rs W QOp 7 a len l := ⟨h1, h2, h3⟩
  rcases open_slice (cs := [Value.slice a len cap]) Try.underlying22 hf' with ⟨hcs, _⟩ | ⟨y, len1, cap1, m, n1, D, Pl, hcs, _, hl, hm, hmm, hx, _⟩
  · simp only [List.cons.injEq, and_true, Value.slice.injEq] at hcs
    obtain ⟨rfl, rfl, rfl⟩ := hcs
    exact ⟨none, 0, 0, l, rfl, hq, by omega, by omega⟩
  · simp only [List.cons.injEq, and_true, Value.slice.injEq] at hcs
    obtain ⟨rfl, rfl, rfl⟩ := hcs
    simp only [if_true] at hmm
    subst hmm
    unfold maxLen at hm
    exact ⟨some y, _, _, l, rfl, hq, hl, by omega⟩
end
end Go.Proofs.Ytafocefbpkcoaaa.coO
