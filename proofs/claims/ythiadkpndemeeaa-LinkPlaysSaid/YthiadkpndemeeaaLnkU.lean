/- How moves that come in are opened. -/
import Derived.Test.YthiadkpndemeeaaLnkP
namespace Go.Proofs.Ythiadkpndemeeaa.lnkU
open Go.ChangeShapes Go.WideShapes Go.ChangeAt Go.RowKit Go.Deep Go.Joins
open numM rowA byt numA numB numC lnkA lnkO lnkP

/-- a move in three cells -/
structure Mw where
  kind : Int
  at_ : Int
  body : List Nat
instance : Inhabited Mw := ⟨⟨0, 0, []⟩⟩
def QM (W : World) (b o : Nat) (m : Mw) : Prop := ∃ A c, (W.cell? ⟨b, o, none⟩ = some (.int .i64 m.kind) ∧ W.cell? ⟨b, o + 1, none⟩ = some (.int .i64 m.at_) ∧ W.cell? ⟨b, o + 2, none⟩ = some (.slice A m.body.length c)) ∧
  BL W A m.body.length m.body ∧ m.body.length ≤ c ∧ c ≤ 140737488351232
theorem move_one : oneCellFields Try.prog (match Try.prog.underlying 54 with | some (.struct fs) => fs | _ => #[]) = true := by kernel_rfl
theorem move_cells : Try.prog.cellsOf 54 = 3 := by kernel_rfl
section
variable {H : Type} {enc : TypeId × Value → H} {W : World} {base : Nat}
theorem elem_move (b o : Nat) (cs : List Value) (n : Nat) (x : DataW H × List MemPlace) (hc : ∀ j, j < 3 → W.cell? ⟨b, o + j, none⟩ = cs[j]?) (_ : cs.length = 3) (h : DataW.trod enc Try.prog W base (fun _ => true) true n 54 cs = some x) (hw : Kept (x.1.weights Try.prog 54)) :
    ∃ m, QM W b o m := by
  obtain ⟨xs, m, _, hx, hcl, hlen, hg⟩ := DataW.trod_struct Try.underlying54 h
  have hone := hone_of move_one
  simp only [Try.underlying54] at hone
  rw [move_cells] at hcl
  match cs, hcl with
  | [c0, c1, c2], _ =>
    match xs, hlen with
    | [y0, y1, y2], _ =>
      obtain ⟨o0, k0⟩ := hone 0 _ rfl
      obtain ⟨o1, k1⟩ := hone 1 _ rfl
      obtain ⟨o2, k2⟩ := hone 2 _ rfl
      have g0 := hg 0 _ rfl
      have g1 := hg 1 _ rfl
      have g2 := hg 2 _ rfl
      rw [o0, k0] at g0
      rw [o1, k1] at g1
      rw [o2, k2] at g2
      change DataW.trod enc Try.prog W base _ _ m 3 [c0] = some y0 at g0
      change DataW.trod enc Try.prog W base _ _ m 3 [c1] = some y1 at g1
      change DataW.trod enc Try.prog W base _ _ m 29 [c2] = some y2 at g2
      obtain ⟨x0, e0, _, _⟩ := DataW.trod_int Try.underlying3 g0
      obtain ⟨x1, e1, _, _⟩ := DataW.trod_int Try.underlying3 g1
      obtain ⟨A, l, cap, e2, hb, hl, hm⟩ := fld_body g2 (fun z hz => hw z (by
        rw [hx]
        simp only [DataW.weights, Try.underlying54]
        exact DataW.weights_mem_each (j := 2) (t := 29) (d := y2.1) rfl rfl z hz))
      simp only [List.cons.injEq, and_true] at e0 e1
      subst e0 e1 e2
      exact ⟨⟨x0, x1, l⟩, A, cap, ⟨hc 0 (by omega), hc 1 (by omega), hc 2 (by omega)⟩, hb, hl, hm⟩
theorem open_moves {r : Reach} {b0 : Nat} {v : Value} {d : DataW H} {p : List MemPlace} {ts : List TypeId} {ds : List (DataW H)} (j : Nat)
    (hv : Value.okWide Try.prog W r b0 48 v) (h : DataW.Trod enc Try.prog W base (fun _ => true) true 48 v d p)
    (hsz : (DataW.weightsEach Try.prog ts ds).all (· ≤ reachBytes) = true) (hj : ts[j]? = some 48) (hd : ds[j]? = some d) :
    ∃ a len cap l, v = .slice a len cap ∧ Rs W QM 3 a len l := by
  obtain ⟨a, len, cap, rfl⟩ := okWide_slice Try.underlying48 hv
  obtain ⟨fuel, hf⟩ := h
  obtain ⟨a', len', cap', l, e, h1, h2, h3⟩ := open_rows Try.underlying48 move_cells (by omega) (QM W) elem_move (by simpa [Value.cells] using hf) (kept_of hsz hj hd)
  cases e
  exact ⟨a, len, cap, l, rfl, h1, h2, h3⟩
end
end Go.Proofs.Ythiadkpndemeeaa.lnkU
