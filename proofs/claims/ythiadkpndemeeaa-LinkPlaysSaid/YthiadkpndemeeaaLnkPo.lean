/- How calls of an end that come in are opened. -/
import Derived.Test.YthiadkpndemeeaaLnkU
import Derived.ChangeSame
namespace Go.Proofs.Ythiadkpndemeeaa.lnkPo
open Go.ChangeShapes Go.WideShapes Go.ChangeAt Go.RowKit Go.Deep Go.Joins
open numM rowA byt numA numB numC lnkA lnkO lnkP lnkU

/-- a call in six cells -/
structure Op where
  kind : Int
  f : Fm
instance : Inhabited Op := ⟨⟨0, default⟩⟩
def QO (W : World) (b o : Nat) (m : Op) : Prop := W.cell? ⟨b, o, none⟩ = some (.int .i64 m.kind) ∧ QF W b (o + 1) m.f
theorem op_cells : Try.prog.cellsOf 33 = 6 := by kernel_rfl
theorem frame_cells : Try.prog.cellsOf 31 = 5 := by kernel_rfl
section
variable {H : Type} {enc : TypeId × Value → H} {W : World} {base : Nat}
theorem elem_op (b o : Nat) (cs : List Value) (n : Nat) (x : DataW H × List MemPlace) (hc : ∀ j, j < 6 → W.cell? ⟨b, o + j, none⟩ = cs[j]?) (_ : cs.length = 6) (h : DataW.trod enc Try.prog W base (fun _ => true) true n 33 cs = some x) (hw : Kept (x.1.weights Try.prog 33)) :
    ∃ m, QO W b o m := by
  obtain ⟨y0, y1, m, hx, hcl, g0, g1⟩ := trod_struct2 Try.underlying33 h
  rw [op_cells] at hcl
  match cs, hcl with
  | [c0, c1, c2, c3, c4, c5], _ =>
    change DataW.trod enc Try.prog W base _ _ m 3 [c0] = some y0 at g0
    change DataW.trod enc Try.prog W base _ _ m 31 [c1, c2, c3, c4, c5] = some y1 at g1
    obtain ⟨x0, e0, _, _⟩ := DataW.trod_int Try.underlying3 g0
    obtain ⟨f, hf⟩ := elem_frame (W := W) b (o + 1) [c1, c2, c3, c4, c5] m y1 (fun j hj => by have := hc (1 + j) (by omega); rw [show o + 1 + j = o + (1 + j) by omega, this, Nat.add_comm 1 j]; rfl) rfl g1 (fun z hz => hw z (by
      rw [hx]
      simp only [DataW.weights, Try.underlying33]
      exact DataW.weights_mem_each (j := 1) (t := 31) (d := y1.1) rfl rfl z hz))
    simp only [List.cons.injEq, and_true] at e0
    subst e0
    exact ⟨⟨x0, f⟩, hc 0 (by omega), hf⟩
theorem open_ops {r : Reach} {b0 : Nat} {v : Value} {d : DataW H} {p : List MemPlace} {ts : List TypeId} {ds : List (DataW H)} (j : Nat)
    (hv : Value.okWide Try.prog W r b0 22 v) (h : DataW.Trod enc Try.prog W base (fun _ => true) true 22 v d p)
    (hsz : (DataW.weightsEach Try.prog ts ds).all (· ≤ reachBytes) = true) (hj : ts[j]? = some 22) (hd : ds[j]? = some d) :
    ∃ a len cap l, v = .slice a len cap ∧ Rs W QO 6 a len l := by
  obtain ⟨a, len, cap, rfl⟩ := okWide_slice Try.underlying22 hv
  obtain ⟨fuel, hf⟩ := h
  obtain ⟨a', len', cap', l, e, h1, h2, h3⟩ := open_rows Try.underlying22 op_cells (by omega) (QO W) elem_op (by simpa [Value.cells] using hf) (kept_of hsz hj hd)
  cases e
  exact ⟨a, len, cap, l, rfl, h1, h2, h3⟩
end
end Go.Proofs.Ythiadkpndemeeaa.lnkPo
