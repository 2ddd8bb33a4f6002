/- A drawn region that only reads, in a round of a range over a function: one walk serves every order there too. -/
import Derived.Sort.QuietIn
import Derived.OwnWalkIn
set_option linter.unusedVariables false
namespace Go.Proofs.Ytlojmojmijklmaa.quR
open Go

section
variable {F : Fence} {n : Nat} {P : Program} {Q : Exit → Act → World → Prop} {md : Region.Mode} {ops : Array Oper} {l0 : Nat}
theorem op_round {o : Oper} {a : Act} {w : World} {K : Act → World → Prop} (hd : ∀ c, o.op ≠ .defer c) (hro : F.round = none) (h : o.wpIn F n P a w K Q) : o.wpIn (F.inRound l0) n P a w K Q := by
  unfold Oper.wpIn at *
  refine ⟨h.1, ?_⟩
  have h2 := h.2
  rw [Oper.semAt_eq _ _ _ hd] at h2 ⊢
  exact h2
theorem wpAnyIn_round (hd : ∀ o ∈ ops, ∀ c, o.op ≠ .defer c) (hro : F.round = none) : ∀ (fuel : Nat) (listed : Array Bool) (a : Act) (w : World), wpAnyIn F n P md ops Q fuel listed a w → wpAnyIn (F.inRound l0) n P md ops Q fuel listed a w
  | 0, _, _, _, h => h
  | fuel + 1, listed, a, w, h => by
    refine ⟨h.1, fun i hi => ?_⟩
    have h2 := h.2 i hi
    unfold wpOpIn at *
    cases ho : ops[i]? with
    | none => simp only [ho] at h2; exact wpAnyIn_round hd hro fuel _ a w h2
    | some o =>
      simp only [ho] at h2
      show if Region.wanted o (yielded ops a.tmps) then o.wpIn (F.inRound l0) n P a w _ Q else _
      split
      · rename_i hw
        rw [if_pos hw] at h2
        exact op_round (hd o (Array.mem_of_getElem? ho)) hro (Oper.wpIn_mono (fun a w h => wpAnyIn_round hd hro fuel _ a w h) h2)
      · rename_i hw
        rw [if_neg hw] at h2
        exact ⟨h2.1, wpAnyIn_round hd hro fuel _ _ w h2.2⟩
end
def nodf (o : Oper) : Bool := match o.op with | .defer _ => false | _ => true
theorem quiet_round {F : Fence} {n : Nat} {P : Program} {id : Nat} {Q : Exit → Act → World → Prop} {a : Act} {w : World} {l : List Oper} {l0 : Nat} (hro : F.round = none) (hdf : l.all nodf = true) (hm : P.follows .mixedOrders = true) (hB : Region.lexB .any l.toArray = true)
    (h : wpQuietIn F n P l.toArray (fun w' => ∃ n, w' = w.drewN n) (fun a' => ∀ w', (∃ n, w' = w.drewN n) → Q .normal a' w') l a) : (Code.region id l.toArray true).wpIn (F.inRound l0) n P Q a w := by
  have hd : ∀ o ∈ l.toArray, ∀ c, o.op ≠ .defer c := fun o ho c e => by
    have := List.all_eq_true.1 hdf o (by simpa using ho)
    unfold nodf at this
    rw [e] at this
    cases this
  simp only [Region.lexB, Bool.and_eq_true] at hB
  refine wpIn_region_any hm (wpAnyIn_round hd hro _ _ _ _ (wpAnyIn_of_quiet (C := fun w' => ∃ n, w' = w.drewN n) (Q := fun a' => ∀ w', (∃ n, w' = w.drewN n) → Q .normal a' w') hro (fun _ w' hw' h => h w' hw') _ _ _ _ ⟨1, rfl⟩ ?_))
  have := wpAnyQIn_lex (F := F) (n := n) (C := fun w' => ∃ n, w' = w.drewN n) (md := .any) hB.1 l.toArray.toList 0 (Array.replicate l.toArray.size false) a (by simp) (by simpa using hB.2) (by simpa using h)
  simpa using this
end Go.Proofs.Ytlojmojmijklmaa.quR
