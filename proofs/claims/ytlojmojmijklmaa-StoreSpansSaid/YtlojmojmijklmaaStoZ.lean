/- StoreSpans: plain facts, and what its range keeps. -/
import Derived.Test.YtlojmojmijklmaaStoTw
import Derived.Test.YtlojmojmijklmaaStoT
set_option linter.unusedVariables false
set_option maxRecDepth 100000
namespace Go.Proofs.Ytlojmojmijklmaa.stoZ
open Go.ChangeShapes Go.WideShapes Go.ChangeAt Go.RowKit Go.Shelf
open opV chnM gen chnA chnB chnR chnE chnT stoM stoA stoL stoB stoC stoP stoPr stoG stoW stoI stoJ stoLo stoX stoTw stoT rngR
attribute [local go_sem] Oper.semAt_some

theorem al_in {s : St} (h : Inv s) (lo hi : ByteArray) : ∀ v ∈ al s.ch lo hi, slt v.key lo = false ∧ (seq hi emp = false → slt v.key hi = true) := by
  intro v hv
  unfold al at hv
  obtain ⟨d, hd, hvd⟩ := mem_cc.1 hv
  obtain ⟨h1, h2⟩ := List.mem_filter.1 hd
  rw [← h.key d h1 v hvd] at h2
  unfold wth at h2
  simp only [Bool.and_eq_true, Bool.not_eq_true', Bool.or_eq_true] at h2
  refine ⟨h2.1, fun e => ?_⟩
  rcases h2.2 with h3 | h3
  · rw [e] at h3; cases h3
  · exact h3
theorem al_up {s : St} (h : Inv s) (lo hi : ByteArray) : (al s.ch lo hi).Pairwise (fun a b => sle a.key b.key = true) := by
  unfold al cc
  rw [List.pairwise_flatten]
  have hsub : ∀ c ∈ sp s.ch lo hi, c ∈ s.ch := fun c hc => (List.mem_filter.1 hc).1
  constructor
  · intro l hl
    obtain ⟨c, hc, rfl⟩ := List.mem_map.1 hl
    refine List.Pairwise.imp_of_mem (fun {a b} ha hb _ => ?_) (h.chn c (hsub c hc))
    rw [h.key c (hsub c hc) a ha, h.key c (hsub c hc) b hb]
    exact sle_self _
  · have hs : (sp s.ch lo hi).Pairwise (fun a b => slt a.key b.key = true) := List.Pairwise.filter _ h.srt
    refine List.pairwise_map.2 (List.Pairwise.imp_of_mem (fun {c d} hc hd hlt => ?_) hs)
    intro a ha b hb
    rw [h.key c (hsub c hc) a ha, h.key d (hsub d hd) b hb]
    exact sle_of_lt hlt
theorem up_at {R : List Ver} (h : R.Pairwise (fun a b => sle a.key b.key = true)) {j : Nat} (hj : j + 1 < R.length) : sle (nt R j).key (nt R (j + 1)).key = true := by
  rw [nt_at (by omega), nt_at hj]
  exact List.pairwise_iff_getElem.1 h j (j + 1) (by omega) hj (by omega)
theorem Kb.set {V : World} {ob : Nat} {v' : Value} (hob : ob < V.heap.size) (hv : v'.ownBlock = none) {u : Value} (hu : V.cell? ⟨ob, 0, none⟩ = some u) : Kb ob V (V.setCell ⟨ob, 0, none⟩ v') := fun _ => by
  refine ⟨by rw [World.size_setCell]; exact Nat.le_refl _, fun k o2 hk ho hk2 hr => (Below.heap_setCell V ⟨ob, 0, none⟩ v' k hk2).trans hk, fun k hr => ?_⟩
  obtain ⟨x, e1, e2⟩ := hr
  rw [World.cell?_setCell_same' _ _ _ (by rw [hu]; rfl)] at e1
  cases e1
  rw [hv] at e2; cases e2
/-- between two rounds: so many were told -/
def NI (wr : World) (pre : List Ver) (W : World) : Prop := Boxed W wr.heap.size 3 (.int .i64 (pre.length : Int)) ∧ Below wr.heap.size wr W
/-- left early -/
def NX (wr : World) (most : Int) (id : Nat) (c : Code) (ps : List Ver) (W : World) : Prop := (c = .exit id ∧ ∃ pre x, ps = pre ++ [x] ∧ (pre.length : Int) = most ∧ Boxed W wr.heap.size 3 (.int .i64 (pre.length : Int))) ∧ Below wr.heap.size wr W
theorem NI.from_ {wr : World} {C : Nat} (hC : wr.heap.size ≤ C) : OwnFrom C (NI wr) := by
  rintro pre W W' row ⟨h1, hB⟩ hg hrow
  exact ⟨(grownBy_keeps_cells hg (fun r e => (hrow r e).2) h1 rfl).trans h1, hB.grown hg hB.size (fun k e => Nat.le_trans hC (hrow k e).1)⟩
theorem NX.from_ {wr : World} {most : Int} {id C : Nat} (hC : wr.heap.size ≤ C) (c : Code) : OwnFrom C (NX wr most id c) := by
  rintro ps W W' row ⟨⟨e, pre, x, e2, e3, h1⟩, hB⟩ hg hrow
  exact ⟨⟨e, pre, x, e2, e3, (grownBy_keeps_cells hg (fun r e => (hrow r e).2) h1 rfl).trans h1⟩, hB.grown hg hB.size (fun k e => Nat.le_trans hC (hrow k e).1)⟩
end Go.Proofs.Ytlojmojmijklmaa.stoZ
