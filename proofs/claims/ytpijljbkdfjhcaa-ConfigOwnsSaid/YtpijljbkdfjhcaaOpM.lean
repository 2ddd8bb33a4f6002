/- How rows of one-celled things that come in are opened, and how a map is. -/
import Derived.Test.YtpijljbkdfjhcaaSpnA
import Derived.ChangeArms
import Derived.ChangeSame
import Derived.Deep.Fields
import Derived.Deep.Slices
import Derived.Lib.SmallJoins
set_option linter.unusedVariables false
set_option maxRecDepth 100000
namespace Go.Proofs.Ytpijljbkdfjhcaa.opM
open Go.ChangeShapes Go.WideShapes Go.ChangeAt Go.RowKit Go.Deep Go.Joins
open spnM spnA

def Kept (l : List Nat) : Prop := ∀ z ∈ l, z ≤ 140737488351232
section
variable {H : Type} {enc : TypeId × Value → H} {W : World} {base : Nat}
theorem kept_of {ts : List TypeId} {ds : List (DataW H)} (hsz : (DataW.weightsEach Try.prog ts ds).all (· ≤ reachBytes) = true) {j : Nat} {t : TypeId} {d : DataW H} (hj : ts[j]? = some t) (hd : ds[j]? = some d) : Kept (d.weights Try.prog t) := by
  intro z hz
  have := List.all_eq_true.1 hsz z (DataW.weights_mem_each hj hd z hz)
  exact of_decide_eq_true (p := z ≤ reachBytes) this
/-- A field that is a slice of one-celled things. -/
theorem fld_one {α : Type} [Inhabited α] {f : α → Value} {T E : TypeId} {by_ : Nat} (ht : Try.prog.underlying T = some (.slice E)) (hc : Try.prog.cellsOf E = 1) (hb : Try.prog.bytesOf E = by_)
    (hel : ∀ n v y, DataW.trod enc Try.prog W base (fun _ => true) true n E [v] = some y → ∃ x : α, v = f x)
    {n : Nat} {c : Value} {y : DataW H × List MemPlace} (h : DataW.trod enc Try.prog W base (fun _ => true) true n T [c] = some y) (hw : Kept (y.1.weights Try.prog T)) :
    ∃ (A : Option Addr) (len cap : Nat) (l : List α), c = .slice A len cap ∧ RL f W A len l ∧ (A = none → cap = 0) ∧ len ≤ cap ∧ cap ≤ 9223372036854775807 ∧ cap * by_ ≤ 140737488351232 := by
  rcases open_slice1 ht hc h with ⟨hcs, _⟩ | ⟨x, len, cap, m, n, V, D, Pl, hcs, _, hl, hm, hmm, hx, hi⟩
  · simp only [List.cons.injEq, and_true] at hcs
    exact ⟨none, 0, 0, [], hcs, RL.nil_ f W none, fun _ => rfl, by omega, by omega, by omega⟩
  · simp only [List.cons.injEq, and_true] at hcs
    simp only [if_true] at hmm
    subst hmm
    unfold maxLen at hm
    have hwt : m * by_ ≤ 140737488351232 := by
      refine hw _ ?_
      rw [hx]
      simp only [DataW.weights, ht, List.mem_cons]
      left
      rw [hb, List.length_map, List.length_map, List.length_range, List.length_range]
      congr 1
      omega
    have each : ∀ i : Nat, ∃ v : α, i < len → V i = f v := fun i => by
      by_cases hil : i < len
      · obtain ⟨v, hv⟩ := hel _ _ _ (hi i (by omega)).2
        exact ⟨v, fun _ => hv⟩
      · exact ⟨default, fun h => absurd h hil⟩
    refine ⟨some x, len, m, (List.range len).map fun i => (each i).choose, hcs, ⟨by simp, ?_⟩, fun e => (by cases e), hl, by omega, hwt⟩
    by_cases h0 : len = 0
    · exact .inl h0
    · obtain ⟨b, off, spot⟩ := x
      have hs : spot = none := by
        have h1 := (hi 0 (by omega)).1
        simpa [Addr.add] using World.cell?_spot h1
      subst hs
      have hcell : ∀ i, i < len → W.cell? ⟨b, off + i, none⟩ = some (f (nt ((List.range len).map fun i => (each i).choose) i)) := fun i hil => by
        have h1 := (hi i (by omega)).1
        rw [Go.WideShapes.add_plain] at h1
        rw [h1, (each i).choose_spec hil]
        congr 2
        unfold nt
        rw [List.getD_eq_getElem?_getD, List.getElem?_map, List.getElem?_range hil]
        rfl
      exact .inr ⟨b, off, rfl, World.block_lt_of_cell? _ _ (hcell 0 (by omega)), hcell⟩
theorem one_map : oneCellFields Try.prog (match Try.prog.underlying 26 with | some (.struct fs) => fs | _ => #[]) = true := by kernel_rfl
theorem cells_map : Try.prog.cellsOf 26 = 2 := by kernel_rfl
/-- A map that came in by value. -/
theorem open_map {r : Reach} {b0 : Nat} {v : Value} {d : DataW H} {p : List MemPlace} {ts : List TypeId} {ds : List (DataW H)} (j : Nat)
    (hv : Value.okWide Try.prog W r b0 26 v) (h : DataW.Trod enc Try.prog W base (fun _ => true) true 26 v d p)
    (hsz : (DataW.weightsEach Try.prog ts ds).all (· ≤ reachBytes) = true) (hj : ts[j]? = some 26) (hd : ds[j]? = some d) :
    ∃ (m : M) (A1 : Option Addr) (c1 : Nat) (A2 : Option Addr) (c2 : Nat), v = .agg #[.slice A1 m.cs.length c1, .slice A2 m.ns.length c2] ∧ HM W A1 c1 A2 c2 m := by
  obtain ⟨cs, rfl, hs⟩ := okWide_struct Try.underlying26 hv
  obtain ⟨fuel, hf⟩ := h
  have hw := kept_of hsz hj hd
  obtain ⟨xs, n, _, hx, hcl, hlen, hg⟩ := DataW.trod_struct Try.underlying26 hf
  have hone := hone_of one_map
  simp only [Try.underlying26] at hone
  rw [cells_map] at hcl
  obtain ⟨cl, hcl'⟩ : ∃ cl, cs.toList = cl := ⟨_, rfl⟩
  rw [show (Value.agg cs).cells.toList = cl from hcl'] at hcl hg
  match cl, hcl with
  | [d0, d1], _ =>
    match xs, hlen with
    | [y0, y1], _ =>
      have hx1 : d = _ := congrArg Prod.fst hx
      obtain ⟨o0, k0⟩ := hone 0 _ rfl
      obtain ⟨o1, k1⟩ := hone 1 _ rfl
      have g0 := hg 0 _ rfl
      rw [o0, k0] at g0
      change DataW.trod enc Try.prog W base _ _ n 23 [d0] = some y0 at g0
      have g1 := hg 1 _ rfl
      rw [o1, k1] at g1
      change DataW.trod enc Try.prog W base _ _ n 24 [d1] = some y1 at g1
      obtain ⟨A1, n1, c1, l1, rfl, r1, q1, t1, u1, w1⟩ := fld_one (f := Value.string) Try.underlying23 (by kernel_rfl) (show _ = 16 by kernel_rfl) (fun n v y h => by
        obtain ⟨s, e, _⟩ := DataW.trod_string Try.underlying9 h
        simp only [List.cons.injEq, and_true] at e
        exact ⟨s, e⟩) g0 (fun z hz => hw z (by
        rw [hx1]
        simp only [DataW.weights, Try.underlying26]
        exact DataW.weights_mem_each (j := 0) (t := 23) (d := y0.1) rfl rfl z hz))
      obtain ⟨A2, n2, c2, l2, rfl, r2, q2, t2, u2, w2⟩ := fld_one (f := Value.int .i64) Try.underlying24 (by kernel_rfl) (show _ = 8 by kernel_rfl) (fun n v y h => by
        obtain ⟨x, e, _⟩ := DataW.trod_int Try.underlying3 h
        simp only [List.cons.injEq, and_true] at e
        exact ⟨x, e⟩) g1 (fun z hz => hw z (by
        rw [hx1]
        simp only [DataW.weights, Try.underlying26]
        exact DataW.weights_mem_each (j := 1) (t := 24) (d := y1.1) rfl rfl z hz))
      have e1 := r1.1
      have e2 := r2.1
      subst e1 e2
      have : cs = #[.slice A1 l1.length c1, .slice A2 l2.length c2] := Array.toList_inj.1 hcl'
      subst this
      exact ⟨⟨l1, l2⟩, A1, c1, A2, c2, rfl, ⟨r1, r2, q1, q2, t1, t2, u1, u2, by show l1.length * 16 ≤ _; omega, by show l2.length * 8 ≤ _; omega⟩⟩
end
end Go.Proofs.Ytpijljbkdfjhcaa.opM
