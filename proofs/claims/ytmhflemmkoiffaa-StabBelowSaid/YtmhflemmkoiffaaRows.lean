/-
  No cell of these rows narrows 'for every input' (looked for: loops, veiled, ifaces, maps, wideKeys, modest, calm, conditions, laid).
  DERIVED. THE GIVEN ROWS OF THIS SEAT. 3 by the template 'for every input the law returns true; each argument reads behind the call as it read before'; 0 by the template 'total and deterministic' (their statements: YtmhflemmkoiffaaTotals.lean).
  GIVEN WITH THE SEED: the statements are not yours to turn. If you find one false, say at which input.
  Laid BY PROGRAM, IN A SANDBOX (cutbox-rows.mjs): the forced cells as the released guide's own fill.sh prints them over the translation 006099fc7a920b7f… (all of the seat's roots in one cut). By AI agents, Wed Nov 11 2026. No macro, syntax, notation, axiom, sorry.
-/
import Derived.Test.YtmhflemmkoiffaaChecked
import GoSem.Claim
import GoSem.ClaimJoined
import GoSem.ClaimMapViews
import Derived.JoinedTies
import Derived.KernelRfl
namespace Go.Proofs.Ytmhflemmkoiffaa
/- THE CELL 'sum', in the pinned program and in every row, IS THE sha256 OF THE DUMP (.gsa) THAT YtmhflemmkoiffaaProg.lean LOADS. Nothing in Lean hashes anything: it is a label: what it is worth is what the hold of that sum in a sandbox is worth. -/
noncomputable def Try.pinned : Pinned := { name := "ytmhflemmkoiffaa", sum := "006099fc7a920b7f0d57c60a9d26cb96bc772068dbcd4f37955a37a930095385", checked := Try.checked }
namespace Rows
def none {H : Type} : Left H := { results := [], args := [] }

/-- 'confluencelaw12.StabRises': WHATEVER THE INPUT: true; the input reads as it did. -/
def stabRisesSpec : ChangeSpec := { name := "stabRises", fn := fun _ => fun
  | [d1, d2, d3, d4] => { results := [.lit (.bool true)], args := [d1, d2, d3, d4] }
  | _ => none }
def stabRisesRow : OpenClaim := { program := "ytmhflemmkoiffaa", sum := "006099fc7a920b7f0d57c60a9d26cb96bc772068dbcd4f37955a37a930095385", func := "confluence/confluencelaw12.StabRises", spec := "stabRises", apart := false }
def StabRisesSaid : Prop := stabRisesRow.holds Try.pinned (OpenSpec.ofChange stabRisesSpec)

/-- ITS FALSE NEIGHBOUR: 'it returns false'. Refute it at one input. -/
def stabRisesWrong : ChangeSpec := { name := "stabRises", fn := fun _ => fun
  | [d1, d2, d3, d4] => { results := [.lit (.bool false)], args := [d1, d2, d3, d4] }
  | _ => none }
def StabRisesWrongFalsely : Prop := stabRisesRow.holds Try.pinned (OpenSpec.ofChange stabRisesWrong)

/-- 'confluencelaw12.StabBelow': WHATEVER THE INPUT: true; the input reads as it did. -/
def stabBelowSpec : ChangeSpec := { name := "stabBelow", fn := fun _ => fun
  | [d1, d2, d3, d4] => { results := [.lit (.bool true)], args := [d1, d2, d3, d4] }
  | _ => none }
def stabBelowRow : OpenClaim := { program := "ytmhflemmkoiffaa", sum := "006099fc7a920b7f0d57c60a9d26cb96bc772068dbcd4f37955a37a930095385", func := "confluence/confluencelaw12.StabBelow", spec := "stabBelow", apart := false }
def StabBelowSaid : Prop := stabBelowRow.holds Try.pinned (OpenSpec.ofChange stabBelowSpec)

/-- ITS FALSE NEIGHBOUR: 'it returns false'. Refute it at one input. -/
def stabBelowWrong : ChangeSpec := { name := "stabBelow", fn := fun _ => fun
  | [d1, d2, d3, d4] => { results := [.lit (.bool false)], args := [d1, d2, d3, d4] }
  | _ => none }
def StabBelowWrongFalsely : Prop := stabBelowRow.holds Try.pinned (OpenSpec.ofChange stabBelowWrong)

/-- 'confluencelaw12.StabNone': WHATEVER THE INPUT: true; the input reads as it did. -/
def stabNoneSpec : ChangeSpec := { name := "stabNone", fn := fun _ => fun
  | [d] => { results := [.lit (.bool true)], args := [d] }
  | _ => none }
def stabNoneRow : OpenClaim := { program := "ytmhflemmkoiffaa", sum := "006099fc7a920b7f0d57c60a9d26cb96bc772068dbcd4f37955a37a930095385", func := "confluence/confluencelaw12.StabNone", spec := "stabNone", apart := false }
def StabNoneSaid : Prop := stabNoneRow.holds Try.pinned (OpenSpec.ofChange stabNoneSpec)

/-- ITS FALSE NEIGHBOUR: 'it returns false'. Refute it at one input. -/
def stabNoneWrong : ChangeSpec := { name := "stabNone", fn := fun _ => fun
  | [d] => { results := [.lit (.bool false)], args := [d] }
  | _ => none }
def StabNoneWrongFalsely : Prop := stabNoneRow.holds Try.pinned (OpenSpec.ofChange stabNoneWrong)

/- THE SECOND FORM. 'bulk': how many values and letters a reading holds, each counted each time it is reached (what is shared counts as often as it is met; a slice's spare places count too). A statement '..UptoSaid' is the law's where the arguments, and the package variables that the reading takes, are together of bulk at most 1048576: NARROWER than '..Said'. Prove '..Said' where nothing that the law and all that it calls make is longer than what came in: it says more and counts as full. Else prove '..UptoSaid'. A law counts once. -/
mutual
def uptoBulk {H : Type} : DataW H → Nat
  | .lit (.string bytes) => bytes.length + 1
  | .lit _ => 1
  | .nil => 1
  | .ptr d => uptoBulk d + 1
  | .slice elems spare => uptoBulkAll elems + uptoBulkAll spare + 1
  | .agg parts => uptoBulkAll parts + 1
  | .iface _ d => uptoBulk d + 1
  | .map entries => uptoBulkEntries entries + 1
  | .held _ => 1
def uptoBulkAll {H : Type} : List (DataW H) → Nat
  | [] => 0
  | d :: r => uptoBulk d + uptoBulkAll r
def uptoBulkEntries {H : Type} : List (Lit × DataW H) → Nat
  | [] => 0
  | x :: r => uptoBulkEntry x + uptoBulkEntries r
def uptoBulkEntry {H : Type} : Lit × DataW H → Nat
  | (.string bytes, d) => bytes.length + uptoBulk d + 1
  | (_, d) => uptoBulk d + 1
 end
def uptoSmall : (H : Type) → List (DataW H) → Bool := fun _ ds => decide (uptoBulkAll ds ≤ 1048576)
def OpenSpec.upto (s : _root_.Go.ChangeSpec) : _root_.Go.OpenSpec := { _root_.Go.OpenSpec.ofChange s with cond := some uptoSmall }

/-- 'confluencelaw12.StabRises', WHERE WHAT IT READS IS OF BULK AT MOST 1048576: true; the input reads as it did. -/
def stabRisesUptoRow : OpenClaim := { program := "ytmhflemmkoiffaa", sum := "006099fc7a920b7f0d57c60a9d26cb96bc772068dbcd4f37955a37a930095385", func := "confluence/confluencelaw12.StabRises", spec := "stabRises", apart := false, narrowed := true }
def StabRisesUptoSaid : Prop := stabRisesUptoRow.holds Try.pinned (OpenSpec.upto stabRisesSpec)

/-- 'confluencelaw12.StabBelow', WHERE WHAT IT READS IS OF BULK AT MOST 1048576: true; the input reads as it did. -/
def stabBelowUptoRow : OpenClaim := { program := "ytmhflemmkoiffaa", sum := "006099fc7a920b7f0d57c60a9d26cb96bc772068dbcd4f37955a37a930095385", func := "confluence/confluencelaw12.StabBelow", spec := "stabBelow", apart := false, narrowed := true }
def StabBelowUptoSaid : Prop := stabBelowUptoRow.holds Try.pinned (OpenSpec.upto stabBelowSpec)

/-- 'confluencelaw12.StabNone', WHERE WHAT IT READS IS OF BULK AT MOST 1048576: true; the input reads as it did. -/
def stabNoneUptoRow : OpenClaim := { program := "ytmhflemmkoiffaa", sum := "006099fc7a920b7f0d57c60a9d26cb96bc772068dbcd4f37955a37a930095385", func := "confluence/confluencelaw12.StabNone", spec := "stabNone", apart := false, narrowed := true }
def StabNoneUptoSaid : Prop := stabNoneUptoRow.holds Try.pinned (OpenSpec.upto stabNoneSpec)

end Rows
end Go.Proofs.Ytmhflemmkoiffaa
