/- The contracts of Unpack in the program, of two frames the same, and of Pack. -/
import Derived.Test.YtgjgjnahdkoofaaFraD
namespace Go.Proofs.Ytgjgjnahdkoofaa.fraE
open Go.ChangeShapes Go.WideShapes Go.ChangeAt Go.RowKit Go.Deep
open numM numN rowA byt numA numB numC numD fraM fraB fraC fraD

theorem first_any (a : Option Addr) (n cap : Nat) (l : List Nat) (w : World) (hb : BL w a n l) (hcap : n ≤ cap) (hc9 : cap ≤ 9223372036854775807) :
    Calls Try.prog 14 #[.slice a n cap] w (GivesF w (fsF l) (fsN l) (fsE l)) := by
  by_cases h : szE l = 0
  · have h1 := (sz_fit h).2
    obtain ⟨b, off, rfl, _⟩ := hb.at (show 0 < n by have := hb.1; omega)
    exact first_sum b off n cap l w hb hcap hc9 h
  · have e : fsE l = szE l := by unfold fsE; rw [if_neg h]
    have e1 := fs_no (l := l) (by omega)
    rw [e, e1.1, e1.2]
    exact first_no a n cap l w hb hcap hc9 h

/-- What Unpack answers. -/
def GivesU (w : World) (f : Fm) (err : Nat) (e : Ending) (w' : World) : Prop :=
  ∃ A c, e = .returned (.tuple #[.agg (cf f A c), .int .i64 err]) ∧ Own w' w.heap.size (.slice A f.body.length c) f.body.length f.body ∧ Below w.heap.size w w'
theorem givesU_none {w w' : World} {err : Nat} (hB : Below w.heap.size w w') : GivesU w Fm.zero err (.returned (.tuple #[.agg #[.int .i64 0, .int .i64 0, .int .i64 0, .int .i64 0, .slice none 0 0], .int .i64 err])) w' := ⟨none, 0, rfl, Own.nil_ w' _, hB⟩

theorem cfrow (w : World) (f : Fm) (A : Option Addr) (c : Nat) : (w.alloc (.cells (cf f A c) 26)).rowIs w.heap.size 26 5 (fun i => (cf f A c).getD i undef) := by
  have h := World.rowIs_alloc w (cf f A c) 26 (fun i => (cf f A c).getD i undef) (fun i hi => ?_)
  · exact h
  · have : i = 0 ∨ i = 1 ∨ i = 2 ∨ i = 3 ∨ i = 4 := by simp at hi; omega
    rcases this with rfl | rfl | rfl | rfl | rfl <;> rfl

theorem fin5 (w : World) (x0 x1 x2 x3 x4 : Value) (w2 : World) (h : Below w.heap.size w w2) :
    Below w.heap.size w (((((w2.setCell ⟨w.heap.size, 0, none⟩ x0).setCell ⟨w.heap.size, 1, none⟩ x1).setCell ⟨w.heap.size, 2, none⟩ x2).setCell ⟨w.heap.size, 3, none⟩ x3).setCell ⟨w.heap.size, 4, none⟩ x4) :=
  ((((h.setCell (by simp) _).setCell (by simp) _).setCell (by simp) _).setCell (by simp) _).setCell (by simp) _
end Go.Proofs.Ytgjgjnahdkoofaa.fraE
