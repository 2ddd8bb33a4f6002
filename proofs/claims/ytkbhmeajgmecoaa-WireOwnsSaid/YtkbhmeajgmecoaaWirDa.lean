/- How the program reads bodies: what is left of a body in memory; refuseIf, bytes. -/
import Derived.Test.YtkbhmeajgmecoaaWirR
import Derived.Test.YtkbhmeajgmecoaaWirA
import Derived.Test.YtkbhmeajgmecoaaNuE
import Derived.Test.YtkbhmeajgmecoaaNuD
import Derived.WalkLawsBesides
import Derived.Deep.OwnRows
namespace Go.Proofs.Ytkbhmeajgmecoaa.wirDa
open Go.ChangeShapes Go.WideShapes Go.ChangeAt Go.RowKit Go.Deep
open numM rowA byt numA numB numC numN numD numE wirM wirL wirP wirQ wirR

/-! ### Worlds that change at one old block alone -/
structure Gr (u : Nat) (w w' : World) : Prop where
  os : w'.os = w.os
  tape : w'.tape = w.tape
  output : w'.output = w.output
  size : w.heap.size ≤ w'.heap.size
  block : ∀ k, k < w.heap.size → k ≠ u → w'.heap[k]? = w.heap[k]?
theorem Gr.refl (u : Nat) (w : World) : Gr u w w := ⟨rfl, rfl, rfl, Nat.le_refl _, fun _ _ _ => rfl⟩
theorem Gr.trans {u : Nat} {w w1 w2 : World} (h : Gr u w w1) (h2 : Gr u w1 w2) : Gr u w w2 :=
  ⟨h2.os.trans h.os, h2.tape.trans h.tape, h2.output.trans h.output, Nat.le_trans h.size h2.size, fun k hk hu => (h2.block k (Nat.lt_of_lt_of_le hk h.size) hu).trans (h.block k hk hu)⟩
theorem Gr.of_below {u : Nat} {w w' : World} (h : Below w.heap.size w w') : Gr u w w' := ⟨h.os, h.tape, h.output, h.size, fun k hk _ => h.block k hk⟩
theorem Gr.set {u : Nat} (w : World) (i : Nat) (v : Value) : Gr u w (w.setCell ⟨u, i, none⟩ v) :=
  ⟨rfl, rfl, rfl, by rw [World.size_setCell]; exact Nat.le_refl _, fun k _ hu => Below.heap_setCell w ⟨u, i, none⟩ v k hu⟩
/-- A store into a block that was made since. -/
theorem Gr.put {u : Nat} {w w1 : World} (h : Gr u w w1) {p : Addr} (hp : w.heap.size ≤ p.block) (v : Value) : Gr u w (w1.setCell p v) :=
  ⟨h.os, h.tape, h.output, by rw [World.size_setCell]; exact h.size, fun k hk hu => (Below.heap_setCell w1 p v k (by omega)).trans (h.block k hk hu)⟩
theorem Gr.alloc {u : Nat} {w w1 : World} (h : Gr u w w1) (o : Obj) : Gr u w (w1.alloc o) :=
  h.trans (Gr.of_below ((Below.refl _ _).alloc (Nat.le_refl _) o))
/-- It is nobody's block: all that was there stays. -/
theorem Gr.below {u B : Nat} {w w' : World} (h : Gr u w w') (hB : B ≤ w.heap.size) (hu : B ≤ u) : Below B w w' :=
  ⟨h.os, h.tape, h.output, h.size, fun k hk => h.block k (by omega) (by omega)⟩

/-! ### What is left of a body -/
def UAt (w : World) (u : Nat) (l : List Nat) : Prop :=
  ∃ A c, w.rowIs u 84 1 (fun _ => .slice A l.length c) ∧ BL w A l.length l ∧ l.length ≤ c ∧ c ≤ 9223372036854775807 ∧ (l.length = 0 ∨ A = none ∨ ∃ b off, A = some ⟨b, off, none⟩ ∧ b < u)
theorem UAt.keep {w w' : World} {u : Nat} {l : List Nat} (h : UAt w u l) (hk : ∀ k, k ≤ u → w'.heap[k]? = w.heap[k]?) : UAt w' u l := by
  obtain ⟨A, c, h1, h2, h3, h4, h5⟩ := h
  refine ⟨A, c, h1.of_block (hk u (Nat.le_refl _)), ?_, h3, h4, h5⟩
  rcases h5 with h0 | h5
  · exact ⟨h2.1, h2.2.1, h2.2.2.1, .inl h0⟩
  refine ⟨h2.1, h2.2.1, h2.2.2.1, h2.2.2.2.imp id ?_⟩
  rintro ⟨b, off, rfl, hlt, hc⟩
  have hb : b < u := by
    rcases h5 with h5 | ⟨b', off', e, hb⟩
    · cases h5
    · cases e; exact hb
  have e : ∀ i, w'.cell? ⟨b, i, none⟩ = w.cell? ⟨b, i, none⟩ := fun i => World.cell?_of_block (a := ⟨b, i, none⟩) (hk b (by omega))
  refine ⟨b, off, rfl, ?_, fun i hi => by rw [e]; exact hc i hi⟩
  have h9 := hk u (Nat.le_refl _)
  have := (h1.of_block h9).lt
  omega
theorem UAt.lt {w : World} {u : Nat} {l : List Nat} (h : UAt w u l) : u < w.heap.size := by obtain ⟨A, c, h1, _⟩ := h; exact h1.lt
theorem UAt.below {w w' : World} {u : Nat} {l : List Nat} (h : UAt w u l) (hB : Below w.heap.size w w') : UAt w' u l := h.keep fun k hk => hB.block k (by have := h.lt; omega)
theorem UAt.put {w : World} {u : Nat} {l : List Nat} (h : UAt w u l) {p : Addr} (hp : u < p.block) (v : Value) : UAt (w.setCell p v) u l := h.keep fun k hk => Below.heap_setCell w p v k (by omega)
theorem UAt.alloc {w : World} {u : Nat} {l : List Nat} (h : UAt w u l) (o : Obj) : UAt (w.alloc o) u l := h.below ((Below.refl _ _).alloc (Nat.le_refl _) o)
theorem UAt.lt256 {w : World} {u : Nat} {l : List Nat} (h : UAt w u l) : ∀ c ∈ l, c < 256 := by obtain ⟨A, c, _, h2, _⟩ := h; exact h2.2.2.1

/-- what a reader throws -/
def NM (k : Nat) : List PanicEntry := [{ v := .iface 81 (.agg #[.int .i64 k]), recovered := false }]
/-- What a reader does. -/
def Rd {α : Type} (u : Nat) (val : α → Value) (w : World) (r : Except Nat (α × List Nat)) (e : Ending) (w' : World) : Prop :=
  match r with
  | .ok (x, t) => e = .returned (val x) ∧ UAt w' u t ∧ Gr u w w'
  | .error k => e = .panicked (NM k) ∧ Gr u w w'
theorem refuse_no {b : Bool} (hb : b = false) (k : Int) (w : World) : Calls Try.prog 61 #[.bool b, .int .i64 k] w fun e w' => e = .returned (.tuple #[]) ∧ w = w' := by
  subst hb
  go_enter Try.func61, Try.ntmps61
  go_wp2
  go_end0
  exact ⟨rfl, rfl⟩
theorem refuse_yes {b : Bool} (hb : b = true) {K : Int} (k : Nat) (hK : K = k) (w : World) : Calls Try.prog 61 #[.bool b, .int .i64 K] w fun e w' => e = .panicked (NM k) ∧ w = w' := by
  subst hb hK
  go_enter Try.func61, Try.ntmps61
  go_wp2
  exact ⟨rfl, rfl, rfl⟩
/-- What bytes answers. -/
def Bys (u : Nat) (w : World) (l : List Nat) (k : Nat) (e : Ending) (w' : World) : Prop :=
  if l.length < k then e = .panicked (NM 2) ∧ Gr u w w' else ∃ A c, e = .returned (.slice A k c) ∧ BL w' A k (l.take k) ∧ UAt w' u (l.drop k) ∧ Gr u w w'
set_option maxRecDepth 100000 in
theorem bytes_any {u : Nat} {l : List Nat} (k : Nat) (w : World) (h : UAt w u l) (hk : k ≤ 9223372036854775807) : Calls Try.prog 84 #[.pointer (some ⟨u, 0, none⟩), .int .i64 k] w (Bys u w l k) := by
  obtain ⟨A, c, h1, h2, h3, h4, h5⟩ := h
  have h0 := h1.cell (i := 0) (by omega)
  have hf := h1.frozen 0
  by_cases hs : l.length < k
  · have hS : Bys u w l k (.panicked (NM 2)) w := by unfold Bys; rw [if_pos hs]; exact ⟨rfl, Gr.refl _ _⟩
    replace hS := Lib.hid hS
    clear h2 h1
    generalize l.length = n at *
    go_enter Try.func84, Try.ntmps84
    go_wp2_with (fail)
    refine (refuse_yes (by first | rfl | exact decide_eq_true hs) 2 rfl w).mono ?_
    rintro e w' ⟨rfl, rfl⟩
    exact ⟨rfl, hS.out⟩
  · have hS : ∀ A' c', (l.length - k ≤ c' ∧ c' ≤ 9223372036854775807 ∧ BL w A' (l.length - k) (l.drop k) ∧ (l.length - k = 0 ∨ A' = none ∨ ∃ b off, A' = some ⟨b, off, none⟩ ∧ b < u)) → Bys u w l k (.returned (.slice A k c)) (w.setCell ⟨u, 0, none⟩ (.slice A' (l.length - k) c')) := by
      rintro A' c' ⟨g1, g2, g3, g4⟩
      have hg := Gr.set (u := u) w 0 (.slice A' (l.length - k) c')
      have hbl : ∀ {B : Option Addr} {m : Nat} {x : List Nat}, BL w B m x → (m = 0 ∨ B = none ∨ ∃ b off, B = some ⟨b, off, none⟩ ∧ b < u) → BL (w.setCell ⟨u, 0, none⟩ (.slice A' (l.length - k) c')) B m x := by
        rintro B m x hx hB
        rcases hB with h0 | hB
        · exact ⟨hx.1, hx.2.1, hx.2.2.1, .inl h0⟩
        refine ⟨hx.1, hx.2.1, hx.2.2.1, hx.2.2.2.imp id ?_⟩
        rintro ⟨b, off, rfl, hlt, hc⟩
        have hb : b < u := by
          rcases hB with h5 | ⟨b', off', e, hb⟩
          · cases h5
          · cases e; exact hb
        refine ⟨b, off, rfl, by rw [World.size_setCell]; exact hlt, fun i hi => ?_⟩
        rw [World.cell?_of_block (a := ⟨b, off + i, none⟩) (hg.block b hlt (by omega))]
        exact hc i hi
      unfold Bys
      rw [if_neg hs]
      refine ⟨A, c, rfl, hbl (h2.take k (by omega)) (h5.imp (fun h0 => by omega) id), ⟨A', c', ?_, ?_, ?_, g2, by rw [List.length_drop]; exact g4⟩, hg⟩
      · rw [List.length_drop]
        exact (h1.set 0 _).congr (fun i hi => if_pos (by omega))
      · rw [List.length_drop]; exact hbl g3 g4
      · rw [List.length_drop]; exact g1
    have hS1 : c = k → Bys u w l k (.returned (.slice A k k)) (w.setCell ⟨u, 0, none⟩ (.slice A (l.length - k) 0)) := by
      rintro rfl
      exact hS A 0 ⟨by omega, by omega, by rw [show l.length - c = 0 by omega, List.drop_eq_nil_of_le (by omega)]; exact BL.none_ w A, .inl (by omega)⟩
    have hS2 : Bys u w l k (.returned (.slice A k c)) (w.setCell ⟨u, 0, none⟩ (.slice (A.map (fun x => x.add k)) (l.length - k) (c - k))) := by
      refine hS _ _ ⟨by omega, by omega, ?_, ?_⟩
      · rcases h5 with h0 | rfl | ⟨b, off, rfl, hb⟩
        · rw [show l.length - k = 0 by omega, List.drop_eq_nil_of_le (by omega)]; exact BL.none_ w _
        · have h0 : l.length = 0 := by
            rcases h2.2.2.2 with h0 | ⟨b, off, e, _⟩
            · exact h0
            · cases e
          rw [show l.length - k = 0 by omega, List.drop_eq_nil_of_le (by omega)]; exact BL.none_ w _
        · have := h2.drop k
          simpa [add_plain] using this
      · rcases h5 with h0 | rfl | ⟨b, off, rfl, hb⟩
        · exact .inl (by omega)
        · exact .inr (.inl rfl)
        · exact .inr (.inr ⟨b, off + k, by simp [add_plain], hb⟩)
    replace hS1 := Lib.hid hS1
    replace hS2 := Lib.hid hS2
    clear h1 h2 hS h5
    generalize l.length = n at *
    go_enter Try.func84, Try.ntmps84
    go_wp2_with (fail)
    refine (refuse_no (by first | rfl | exact decide_eq_false hs) 2 w).mono ?_
    rintro e w' ⟨rfl, rfl⟩
    go_wp2
    all_goals
      go_ret
      first
        | exact hS1.out (by assumption)
        | exact hS2.out
end Go.Proofs.Ytkbhmeajgmecoaa.wirDa
