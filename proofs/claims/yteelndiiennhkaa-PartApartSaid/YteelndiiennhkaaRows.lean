/-
  No cell of these rows narrows 'for every input' (looked for: loops, veiled, ifaces, maps, wideKeys, modest, calm, conditions, laid).
  DERIVED. THE GIVEN ROWS OF THIS SEAT. 4 by the template 'for every input the law returns true; each argument reads behind the call as it read before'; 0 by the template 'total and deterministic' (their statements: YteelndiiennhkaaTotals.lean).
  GIVEN WITH THE SEED: the statements are not yours to turn. If you find one false, say at which input.
  Laid BY PROGRAM, IN A SANDBOX (cutbox-rows.mjs): the forced cells as the released guide's own fill.sh prints them over the translation 8f35d375f7c004fa… (all of the seat's roots in one cut). By AI agents, Wed Nov 11 2026. No macro, syntax, notation, axiom, sorry.
-/
import Derived.Test.YteelndiiennhkaaChecked
import GoSem.Claim
import GoSem.ClaimJoined
import GoSem.ClaimMapViews
import Derived.JoinedTies
import Derived.KernelRfl
namespace Go.Proofs.Yteelndiiennhkaa
/- THE CELL 'sum', in the pinned program and in every row, IS THE sha256 OF THE DUMP (.gsa) THAT YteelndiiennhkaaProg.lean LOADS. Nothing in Lean hashes anything: it is a label: what it is worth is what the hold of that sum in a sandbox is worth. -/
noncomputable def Try.pinned : Pinned := { name := "yteelndiiennhkaa", sum := "8f35d375f7c004faba7e07b47fd0e97c59ebdd376b62c66683e79ed92d0623f2", checked := Try.checked }
namespace Rows
def none {H : Type} : Left H := { results := [], args := [] }

/-- 'confluencelaw16.PartPlays': WHATEVER THE INPUT: true; the input reads as it did. -/
def partPlaysSpec : ChangeSpec := { name := "partPlays", fn := fun _ => fun
  | [d] => { results := [.lit (.bool true)], args := [d] }
  | _ => none }
def partPlaysRow : OpenClaim := { program := "yteelndiiennhkaa", sum := "8f35d375f7c004faba7e07b47fd0e97c59ebdd376b62c66683e79ed92d0623f2", func := "confluence/confluencelaw16.PartPlays", spec := "partPlays", apart := false }
def PartPlaysSaid : Prop := partPlaysRow.holds Try.pinned (OpenSpec.ofChange partPlaysSpec)

/-- ITS FALSE NEIGHBOUR: 'it returns false'. Refute it at one input. -/
def partPlaysWrong : ChangeSpec := { name := "partPlays", fn := fun _ => fun
  | [d] => { results := [.lit (.bool false)], args := [d] }
  | _ => none }
def PartPlaysWrongFalsely : Prop := partPlaysRow.holds Try.pinned (OpenSpec.ofChange partPlaysWrong)

/-- 'confluencelaw16.PartStable': WHATEVER THE INPUT: true; the input reads as it did. -/
def partStableSpec : ChangeSpec := { name := "partStable", fn := fun _ => fun
  | [d] => { results := [.lit (.bool true)], args := [d] }
  | _ => none }
def partStableRow : OpenClaim := { program := "yteelndiiennhkaa", sum := "8f35d375f7c004faba7e07b47fd0e97c59ebdd376b62c66683e79ed92d0623f2", func := "confluence/confluencelaw16.PartStable", spec := "partStable", apart := false }
def PartStableSaid : Prop := partStableRow.holds Try.pinned (OpenSpec.ofChange partStableSpec)

/-- ITS FALSE NEIGHBOUR: 'it returns false'. Refute it at one input. -/
def partStableWrong : ChangeSpec := { name := "partStable", fn := fun _ => fun
  | [d] => { results := [.lit (.bool false)], args := [d] }
  | _ => none }
def PartStableWrongFalsely : Prop := partStableRow.holds Try.pinned (OpenSpec.ofChange partStableWrong)

/-- 'confluencelaw16.PartApart': WHATEVER THE INPUT: true; the input reads as it did. -/
def partApartSpec : ChangeSpec := { name := "partApart", fn := fun _ => fun
  | [d] => { results := [.lit (.bool true)], args := [d] }
  | _ => none }
def partApartRow : OpenClaim := { program := "yteelndiiennhkaa", sum := "8f35d375f7c004faba7e07b47fd0e97c59ebdd376b62c66683e79ed92d0623f2", func := "confluence/confluencelaw16.PartApart", spec := "partApart", apart := false }
def PartApartSaid : Prop := partApartRow.holds Try.pinned (OpenSpec.ofChange partApartSpec)

/-- ITS FALSE NEIGHBOUR: 'it returns false'. Refute it at one input. -/
def partApartWrong : ChangeSpec := { name := "partApart", fn := fun _ => fun
  | [d] => { results := [.lit (.bool false)], args := [d] }
  | _ => none }
def PartApartWrongFalsely : Prop := partApartRow.holds Try.pinned (OpenSpec.ofChange partApartWrong)

/-- 'confluencelaw16.PartNone': WHATEVER THE INPUT: true; the input reads as it did. -/
def partNoneSpec : ChangeSpec := { name := "partNone", fn := fun _ => fun
  | [d] => { results := [.lit (.bool true)], args := [d] }
  | _ => none }
def partNoneRow : OpenClaim := { program := "yteelndiiennhkaa", sum := "8f35d375f7c004faba7e07b47fd0e97c59ebdd376b62c66683e79ed92d0623f2", func := "confluence/confluencelaw16.PartNone", spec := "partNone", apart := false }
def PartNoneSaid : Prop := partNoneRow.holds Try.pinned (OpenSpec.ofChange partNoneSpec)

/-- ITS FALSE NEIGHBOUR: 'it returns false'. Refute it at one input. -/
def partNoneWrong : ChangeSpec := { name := "partNone", fn := fun _ => fun
  | [d] => { results := [.lit (.bool false)], args := [d] }
  | _ => none }
def PartNoneWrongFalsely : Prop := partNoneRow.holds Try.pinned (OpenSpec.ofChange partNoneWrong)

/- THE SECOND FORM. 'bulk': how many values and letters a reading holds, each counted each time it is reached (what is shared counts as often as it is met; a slice's spare places count too). A statement '..UptoSaid' is the law's where the arguments, and the package variables that the reading takes, are together of bulk at most 1048576: NARROWER than '..Said'. Prove '..Said' where nothing that the law and all that it calls make is longer than what came in: it says more and counts as full. Else prove '..UptoSaid'. A law counts once. -/
mutual
def uptoBulk {H : Type} : DataW H → Nat
  | .lit (.string bytes) => bytes.length + 1
  | .lit _ => 1
  | .nil => 1
  | .ptr d => uptoBulk d + 1
  | .slice elems spare => uptoBulkAll elems + uptoBulkAll spare + 1
  | .agg parts => uptoBulkAll parts + 1
  | .iface _ d => uptoBulk d + 1
  | .map entries => uptoBulkEntries entries + 1
  | .held _ => 1
def uptoBulkAll {H : Type} : List (DataW H) → Nat
  | [] => 0
  | d :: r => uptoBulk d + uptoBulkAll r
def uptoBulkEntries {H : Type} : List (Lit × DataW H) → Nat
  | [] => 0
  | x :: r => uptoBulkEntry x + uptoBulkEntries r
def uptoBulkEntry {H : Type} : Lit × DataW H → Nat
  | (.string bytes, d) => bytes.length + uptoBulk d + 1
  | (_, d) => uptoBulk d + 1
 end
def uptoSmall : (H : Type) → List (DataW H) → Bool := fun _ ds => decide (uptoBulkAll ds ≤ 1048576)
def OpenSpec.upto (s : _root_.Go.ChangeSpec) : _root_.Go.OpenSpec := { _root_.Go.OpenSpec.ofChange s with cond := some uptoSmall }

/-- 'confluencelaw16.PartPlays', WHERE WHAT IT READS IS OF BULK AT MOST 1048576: true; the input reads as it did. -/
def partPlaysUptoRow : OpenClaim := { program := "yteelndiiennhkaa", sum := "8f35d375f7c004faba7e07b47fd0e97c59ebdd376b62c66683e79ed92d0623f2", func := "confluence/confluencelaw16.PartPlays", spec := "partPlays", apart := false, narrowed := true }
def PartPlaysUptoSaid : Prop := partPlaysUptoRow.holds Try.pinned (OpenSpec.upto partPlaysSpec)

/-- 'confluencelaw16.PartStable', WHERE WHAT IT READS IS OF BULK AT MOST 1048576: true; the input reads as it did. -/
def partStableUptoRow : OpenClaim := { program := "yteelndiiennhkaa", sum := "8f35d375f7c004faba7e07b47fd0e97c59ebdd376b62c66683e79ed92d0623f2", func := "confluence/confluencelaw16.PartStable", spec := "partStable", apart := false, narrowed := true }
def PartStableUptoSaid : Prop := partStableUptoRow.holds Try.pinned (OpenSpec.upto partStableSpec)

/-- 'confluencelaw16.PartApart', WHERE WHAT IT READS IS OF BULK AT MOST 1048576: true; the input reads as it did. -/
def partApartUptoRow : OpenClaim := { program := "yteelndiiennhkaa", sum := "8f35d375f7c004faba7e07b47fd0e97c59ebdd376b62c66683e79ed92d0623f2", func := "confluence/confluencelaw16.PartApart", spec := "partApart", apart := false, narrowed := true }
def PartApartUptoSaid : Prop := partApartUptoRow.holds Try.pinned (OpenSpec.upto partApartSpec)

/-- 'confluencelaw16.PartNone', WHERE WHAT IT READS IS OF BULK AT MOST 1048576: true; the input reads as it did. -/
def partNoneUptoRow : OpenClaim := { program := "yteelndiiennhkaa", sum := "8f35d375f7c004faba7e07b47fd0e97c59ebdd376b62c66683e79ed92d0623f2", func := "confluence/confluencelaw16.PartNone", spec := "partNone", apart := false, narrowed := true }
def PartNoneUptoSaid : Prop := partNoneUptoRow.holds Try.pinned (OpenSpec.upto partNoneSpec)

end Rows
end Go.Proofs.Yteelndiiennhkaa
