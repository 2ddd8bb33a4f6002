/- The contracts of Clone and of Uvars. -/
import Derived.Test.YtihojeffdepddaaNumD
import Derived.Test.YtihojeffdepddaaNumR
namespace Go.Proofs.Ytihojeffdepddaa.numG
open Go.ChangeShapes Go.WideShapes Go.ChangeAt Go.RowKit
open numM numR rowA byt numA numB numC numD

set_option maxRecDepth 100000 in
theorem clone_any (a : Option Addr) (n cap : Nat) (l : List Nat) (w : World) (hb : BL w a n l) (hnone : a = none → cap = 0) (hcap : n ≤ cap) (hn : n ≤ 150000000000000) :
    Calls Try.prog 28 #[.slice a n cap] w (Makes w l) := by
  obtain ⟨i0, hi, hz0, hz1, hz2⟩ := info_parts bytes8
  rcases a with _ | x
  · obtain rfl : cap = 0 := hnone rfl
    obtain rfl : n = 0 := by omega
    have hl : l = [] := List.eq_nil_of_length_eq_zero hb.1
    subst hl
    have hq := fun w : World => Lib.run_eql_slice_nil (P := Try.prog) w 23 5 none 0 0 0 0 Try.underlying23
    clear hb hnone hi
    go_enter Try.func28, Try.ntmps28
    go_wp2
    go_ret
    exact Makes.of rfl (Own.nil_ w _) (Below.refl _ _)
  · have hm := Own.made w w.heap.size (Nat.le_refl _) [] (by simp) (by simp) #[] rfl
    have hm' := Lib.hid hm
    have hb1 := Lib.hid (hb.below ((Below.refl w.heap.size w).alloc (Nat.le_refl _) (.cells #[] 5)))
    have hlen := Lib.hid hb.1
    have hq := fun w : World => Lib.run_eql_slice_nil (P := Try.prog) w 23 5 (some x) n cap 0 0 Try.underlying23
    clear hb hnone hm
    go_enter Try.func28, Try.ntmps28
    go_wp2_with (at_builtin; (refine wpList_app rfl _ _ 23 rfl w.heap.size i0 Try.underlying23 hi hz0 hz1 hz2 _ 0 [] rfl hm'.out (some x) n cap l rfl hb1.out ?c1 ?c2 ?_))
    case c1 => omega
    case c2 => simp
    intro v' w2 hown2 hgrow
    replace hown2 := Lib.hid hown2
    have hBn := Lib.hid (hm'.out.grown ((Below.refl w.heap.size w).alloc (Nat.le_refl _) _) hgrow (by simp))
    clear hgrow
    go_wp2
    go_ret
    exact Makes.of hlen.out hown2.out hBn.out

/-- The function that goes through the bytes l: where it has them. -/
def Itr (w : World) (lo hi B : Nat) (A : Option Addr) (n c : Nat) (l : List Nat) : Prop :=
  w.cell? ⟨B, 0, none⟩ = some (.slice A n c) ∧ BL w A n l ∧ n ≤ c ∧ c ≤ 9223372036854775807 ∧ lo ≤ B ∧ B < hi ∧ (∀ b off, A = some ⟨b, off, none⟩ → lo ≤ b ∧ b < hi) ∧ (A = none → c = 0)
def Goes (w : World) (l : List Nat) (e : Ending) (w' : World) : Prop :=
  ∃ B A c, e = .returned (.func (.func 29) #[] #[.pointer (some ⟨B, 0, none⟩)]) ∧ Itr w' w.heap.size w'.heap.size B A l.length c l ∧ Below w.heap.size w w'

set_option maxRecDepth 100000 in
theorem uvars_any (a : Option Addr) (n cap : Nat) (l : List Nat) (w : World) (hb : BL w a n l) (hnone : a = none → cap = 0) (hcap : n ≤ cap) (hn : n ≤ 150000000000000) :
    Calls Try.prog 25 #[.slice a n cap] w (Goes w l) := by
  have hb1 := Lib.hid (hb.below ((Below.refl w.heap.size w).alloc (Nat.le_refl _) (.cells #[.slice a n cap] 23)))
  have hlen := Lib.hid hb.1
  have h1 := Lib.hid hnone
  have h2 := Lib.hid hcap
  have h3 := Lib.hid hn
  clear hb hnone hcap hn
  go_enter Try.func25, Try.ntmps25
  go_wp2_with (fail)
  refine (clone_any _ _ _ l _ hb1.out h1.out h2.out h3.out).mono ?_
  rintro e w1 ⟨A, c, rfl, ho, hB⟩
  have hc : w1.cell? ⟨w.heap.size, 0, none⟩ = some (.slice a n cap) := by
    rw [hB.cell (p := ⟨w.heap.size, 0, none⟩) (by simp)]
    exact cell_of_row _ _ 0 #[.slice a n cap] 23 (0, 0) (heap_alloc_new w _)
  have hf : w1.frozen? ⟨w.heap.size, 0, none⟩ = false := by
    rw [hB.frozen (p := ⟨w.heap.size, 0, none⟩) (by simp)]
    simp
  have hB0 : Below w.heap.size w w1 := ((Below.refl w.heap.size w).alloc (Nat.le_refl _) _).trans (hB.mono (by simp))
  have hsz : w.heap.size < w1.heap.size := by have := hB.size; simp at this; omega
  obtain ⟨_, _, e0, x1, x2, x3, x4, hbl⟩ := ho.form
  cases e0
  have hlo := ho.2.2.2.lt
  have hfin := Lib.hid (show Goes w l (.returned (.func (.func 29) #[] #[.pointer (some ⟨w.heap.size, 0, none⟩)])) (w1.setCell ⟨w.heap.size, 0, none⟩ (.slice A l.length c)) from by
    refine ⟨w.heap.size, A, c, rfl, ⟨World.cell?_setCell_same' _ _ _ (by rw [hc]; rfl), ?_, x1, x2, Nat.le_refl _, by simp; exact hsz, ?_, x3⟩, hB0.setCell (p := ⟨w.heap.size, 0, none⟩) (Nat.le_refl _) _⟩
    · refine ⟨hbl.1, hbl.2.1, hbl.2.2.1, hbl.2.2.2.imp id ?_⟩
      rintro ⟨b, off, rfl, hlt, hcell⟩
      have hb0 := (hlo b rfl).1
      simp at hb0
      refine ⟨b, off, rfl, by simp; exact hlt, fun i hi => ?_⟩
      rw [World.cell?_setCell_other _ _ _ _ (by intro e; injection e with e1; omega)]
      exact hcell i hi
    · intro b off e
      subst e
      have hb0 := hlo b rfl
      simp at hb0 ⊢
      omega)
  clear hB ho hlo hbl x1 x2 x3 x4 hB0
  go_wp2
  go_ret
  exact hfin.out
end Go.Proofs.Ytihojeffdepddaa.numG
