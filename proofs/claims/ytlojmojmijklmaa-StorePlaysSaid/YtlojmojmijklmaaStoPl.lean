/- A store and the document's own, side by side (for StorePlays). -/
import Derived.Test.YtlojmojmijklmaaStoRh
import Derived.Test.YtlojmojmijklmaaStoMv
import Derived.Test.YtlojmojmijklmaaOpP
set_option linter.unusedVariables false
set_option maxRecDepth 100000
namespace Go.Proofs.Ytlojmojmijklmaa.stoPl
open Go.ChangeShapes Go.WideShapes Go.ChangeAt Go.RowKit Go.Deep
open opV chnM gen chnA chnB chnR chnE chnF chnG chnK chnT stoM stoA stoB stoC stoP stoMv stoRa stoRb stoRc stoRd stoRe stoRf stoRg stoRh

def own3 (S b M : Nat) (k : Nat) : Prop := own2 S b k ∨ k = M
structure Tw (w : World) (S b M : Nat) (sa sd : St) (wi : World) : Prop where
  a : SAt (own3 S b M) wi S b sa
  d : DAt (own3 S b M) wi M sd
  bel : Below w.heap.size w wi
  h1 : w.heap.size ≤ S
  h2 : w.heap.size ≤ b
  h3 : w.heap.size ≤ M
  ne : M ≠ S ∧ M ≠ b
section
variable {w wi wj : World} {S b M : Nat} {sa sd s' : St}
theorem Tw.low (h : Tw w S b M sa sd wi) : ∀ k, k < w.heap.size → ¬ own3 S b M k := by
  rintro k hk ((e | e) | e)
  · have := h.h1; omega
  · have := h.h2; omega
  · have := h.h3; omega
theorem Tw.below (h : Tw w S b M sa sd wi) (hB : Below wi.heap.size wi wj) : Tw w S b M sa sd wj := { h with a := h.a.below hB, d := h.d.below hB, bel := h.bel.trans (hB.mono h.bel.size) }
theorem Tw.ca (h : Tw w S b M sa sd wi) (hC : Chg (own2 S b) wi wj) (ha : SAt (own3 S b M) wj S b s') : Tw w S b M s' sd wj := by
  have hne := h.ne
  refine { h with a := ha, d := ?_, bel := bchg h.bel h.bel.size hC fun k hk e => h.low k hk (.inl e) }
  obtain ⟨A, c, R, hI⟩ := h.d
  exact ⟨A, c, R, hI.go hC (fun k e => .inl e) (by rintro (e | e) <;> omega)⟩
theorem Tw.cd (h : Tw w S b M sa sd wi) (hC : Chg (fun k => k = M) wi wj) (hd : DAt (own3 S b M) wj M s') : Tw w S b M sa s' wj := by
  have hne := h.ne
  refine { h with d := hd, a := h.a.go hC (fun k e => .inr e) ?_ ?_, bel := bchg h.bel h.bel.size hC fun k hk e => h.low k hk (.inr e) } <;> omega
end
theorem tw_new {w w1 : World} {S b : Nat} (hB1 : Below w.heap.size w w1) (hS : w.heap.size ≤ S) (hS' : S < w1.heap.size) (hb : w.heap.size ≤ b) (hb' : b < w1.heap.size) (hm : SAt (own2 S b) w1 S b St.new) :
    Tw w S b w1.heap.size St.new St.new (w1.alloc (.cells #[.slice none 0 0, .int .u64 0] 29)) := by
  have hB2 := al0 w1 (.cells #[.slice none 0 0, .int .u64 0] 29)
  have hlt : ∀ k, own3 S b w1.heap.size k → k < (w1.alloc (.cells #[.slice none 0 0, .int .u64 0] 29)).heap.size := by
    rw [World.size_alloc]
    rintro k ((e | e) | e) <;> omega
  refine ⟨widen2 hm hB2 ?_ (.inl (.inl rfl)) (.inl (.inr rfl)) hlt, ⟨none, 0, [], ?_, rfl, fun _ => rfl, Nat.le_refl _, by omega, .inl rfl, fun e he => (by cases he), .inr rfl, hlt⟩, trans0 hB1 hB2, hS, hb, hB1.size, by omega, by omega⟩
  · rintro k hk (e | e)
    · exact e
    · omega
  · have h := World.rowIs_alloc w1 #[.slice none 0 0, .int .u64 0] 29 (cM none 0 0 0) (fun i hi => ?_)
    · exact h
    · rcases (show i = 0 ∨ i = 1 by simp at hi; omega) with rfl | rfl <;> rfl
end Go.Proofs.Ytlojmojmijklmaa.stoPl
