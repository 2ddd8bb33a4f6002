/-
  No cell of these rows narrows 'for every input' (looked for: loops, veiled, ifaces, maps, wideKeys, modest, calm, conditions, laid).
  DERIVED. THE GIVEN ROWS OF THIS SEAT. 4 by the template 'for every input the law returns true; each argument reads behind the call as it read before'; 0 by the template 'total and deterministic' (their statements: YtoeafdpknjeojaaTotals.lean).
  GIVEN WITH THE SEED: the statements are not yours to turn. If you find one false, say at which input.
  Laid BY PROGRAM, IN A SANDBOX (cutbox-rows.mjs): the forced cells as the released guide's own fill.sh prints them over the translation 227570b84be67f65… (all of the seat's roots in one cut). By AI agents, Wed Nov 11 2026. No macro, syntax, notation, axiom, sorry.
-/
import Derived.Test.YtoeafdpknjeojaaChecked
import GoSem.Claim
import GoSem.ClaimJoined
import GoSem.ClaimMapViews
import Derived.JoinedTies
import Derived.KernelRfl
namespace Go.Proofs.Ytoeafdpknjeojaa
/- THE CELL 'sum', in the pinned program and in every row, IS THE sha256 OF THE DUMP (.gsa) THAT YtoeafdpknjeojaaProg.lean LOADS. Nothing in Lean hashes anything: it is a label: what it is worth is what the hold of that sum in a sandbox is worth. -/
noncomputable def Try.pinned : Pinned := { name := "ytoeafdpknjeojaa", sum := "227570b84be67f653f500f2ffa022fda89588c18ac51536bd393808bc54fcc8d", checked := Try.checked }
namespace Rows
def none {H : Type} : Left H := { results := [], args := [] }

/-- 'confluencelaw11.VecDoes': WHATEVER THE INPUT: true; the input reads as it did. -/
def vecDoesSpec : ChangeSpec := { name := "vecDoes", fn := fun _ => fun
  | [d1, d2, d3, d4, d5] => { results := [.lit (.bool true)], args := [d1, d2, d3, d4, d5] }
  | _ => none }
def vecDoesRow : OpenClaim := { program := "ytoeafdpknjeojaa", sum := "227570b84be67f653f500f2ffa022fda89588c18ac51536bd393808bc54fcc8d", func := "confluence/confluencelaw11.VecDoes", spec := "vecDoes", apart := false }
def VecDoesSaid : Prop := vecDoesRow.holds Try.pinned (OpenSpec.ofChange vecDoesSpec)

/-- ITS FALSE NEIGHBOUR: 'it returns false'. Refute it at one input. -/
def vecDoesWrong : ChangeSpec := { name := "vecDoes", fn := fun _ => fun
  | [d1, d2, d3, d4, d5] => { results := [.lit (.bool false)], args := [d1, d2, d3, d4, d5] }
  | _ => none }
def VecDoesWrongFalsely : Prop := vecDoesRow.holds Try.pinned (OpenSpec.ofChange vecDoesWrong)

/-- 'confluencelaw11.VecMerges': WHATEVER THE INPUT: true; the input reads as it did. -/
def vecMergesSpec : ChangeSpec := { name := "vecMerges", fn := fun _ => fun
  | [d1, d2] => { results := [.lit (.bool true)], args := [d1, d2] }
  | _ => none }
def vecMergesRow : OpenClaim := { program := "ytoeafdpknjeojaa", sum := "227570b84be67f653f500f2ffa022fda89588c18ac51536bd393808bc54fcc8d", func := "confluence/confluencelaw11.VecMerges", spec := "vecMerges", apart := false }
def VecMergesSaid : Prop := vecMergesRow.holds Try.pinned (OpenSpec.ofChange vecMergesSpec)

/-- ITS FALSE NEIGHBOUR: 'it returns false'. Refute it at one input. -/
def vecMergesWrong : ChangeSpec := { name := "vecMerges", fn := fun _ => fun
  | [d1, d2] => { results := [.lit (.bool false)], args := [d1, d2] }
  | _ => none }
def VecMergesWrongFalsely : Prop := vecMergesRow.holds Try.pinned (OpenSpec.ofChange vecMergesWrong)

/-- 'confluencelaw11.VecLeasts': WHATEVER THE INPUT: true; the input reads as it did. -/
def vecLeastsSpec : ChangeSpec := { name := "vecLeasts", fn := fun _ => fun
  | [d1, d2, d3, d4] => { results := [.lit (.bool true)], args := [d1, d2, d3, d4] }
  | _ => none }
def vecLeastsRow : OpenClaim := { program := "ytoeafdpknjeojaa", sum := "227570b84be67f653f500f2ffa022fda89588c18ac51536bd393808bc54fcc8d", func := "confluence/confluencelaw11.VecLeasts", spec := "vecLeasts", apart := false }
def VecLeastsSaid : Prop := vecLeastsRow.holds Try.pinned (OpenSpec.ofChange vecLeastsSpec)

/-- ITS FALSE NEIGHBOUR: 'it returns false'. Refute it at one input. -/
def vecLeastsWrong : ChangeSpec := { name := "vecLeasts", fn := fun _ => fun
  | [d1, d2, d3, d4] => { results := [.lit (.bool false)], args := [d1, d2, d3, d4] }
  | _ => none }
def VecLeastsWrongFalsely : Prop := vecLeastsRow.holds Try.pinned (OpenSpec.ofChange vecLeastsWrong)

/-- 'confluencelaw11.VecRises': WHATEVER THE INPUT: true; the input reads as it did. -/
def vecRisesSpec : ChangeSpec := { name := "vecRises", fn := fun _ => fun
  | [d1, d2, d3, d4] => { results := [.lit (.bool true)], args := [d1, d2, d3, d4] }
  | _ => none }
def vecRisesRow : OpenClaim := { program := "ytoeafdpknjeojaa", sum := "227570b84be67f653f500f2ffa022fda89588c18ac51536bd393808bc54fcc8d", func := "confluence/confluencelaw11.VecRises", spec := "vecRises", apart := false }
def VecRisesSaid : Prop := vecRisesRow.holds Try.pinned (OpenSpec.ofChange vecRisesSpec)

/-- ITS FALSE NEIGHBOUR: 'it returns false'. Refute it at one input. -/
def vecRisesWrong : ChangeSpec := { name := "vecRises", fn := fun _ => fun
  | [d1, d2, d3, d4] => { results := [.lit (.bool false)], args := [d1, d2, d3, d4] }
  | _ => none }
def VecRisesWrongFalsely : Prop := vecRisesRow.holds Try.pinned (OpenSpec.ofChange vecRisesWrong)

/- THE SECOND FORM. 'bulk': how many values and letters a reading holds, each counted each time it is reached (what is shared counts as often as it is met; a slice's spare places count too). A statement '..UptoSaid' is the law's where the arguments, and the package variables that the reading takes, are together of bulk at most 1048576: NARROWER than '..Said'. Prove '..Said' where nothing that the law and all that it calls make is longer than what came in: it says more and counts as full. Else prove '..UptoSaid'. A law counts once. -/
mutual
def uptoBulk {H : Type} : DataW H → Nat
  | .lit (.string bytes) => bytes.length + 1
  | .lit _ => 1
  | .nil => 1
  | .ptr d => uptoBulk d + 1
  | .slice elems spare => uptoBulkAll elems + uptoBulkAll spare + 1
  | .agg parts => uptoBulkAll parts + 1
  | .iface _ d => uptoBulk d + 1
  | .map entries => uptoBulkEntries entries + 1
  | .held _ => 1
def uptoBulkAll {H : Type} : List (DataW H) → Nat
  | [] => 0
  | d :: r => uptoBulk d + uptoBulkAll r
def uptoBulkEntries {H : Type} : List (Lit × DataW H) → Nat
  | [] => 0
  | x :: r => uptoBulkEntry x + uptoBulkEntries r
def uptoBulkEntry {H : Type} : Lit × DataW H → Nat
  | (.string bytes, d) => bytes.length + uptoBulk d + 1
  | (_, d) => uptoBulk d + 1
 end
def uptoSmall : (H : Type) → List (DataW H) → Bool := fun _ ds => decide (uptoBulkAll ds ≤ 1048576)
def OpenSpec.upto (s : _root_.Go.ChangeSpec) : _root_.Go.OpenSpec := { _root_.Go.OpenSpec.ofChange s with cond := some uptoSmall }

/-- 'confluencelaw11.VecDoes', WHERE WHAT IT READS IS OF BULK AT MOST 1048576: true; the input reads as it did. -/
def vecDoesUptoRow : OpenClaim := { program := "ytoeafdpknjeojaa", sum := "227570b84be67f653f500f2ffa022fda89588c18ac51536bd393808bc54fcc8d", func := "confluence/confluencelaw11.VecDoes", spec := "vecDoes", apart := false, narrowed := true }
def VecDoesUptoSaid : Prop := vecDoesUptoRow.holds Try.pinned (OpenSpec.upto vecDoesSpec)

/-- 'confluencelaw11.VecMerges', WHERE WHAT IT READS IS OF BULK AT MOST 1048576: true; the input reads as it did. -/
def vecMergesUptoRow : OpenClaim := { program := "ytoeafdpknjeojaa", sum := "227570b84be67f653f500f2ffa022fda89588c18ac51536bd393808bc54fcc8d", func := "confluence/confluencelaw11.VecMerges", spec := "vecMerges", apart := false, narrowed := true }
def VecMergesUptoSaid : Prop := vecMergesUptoRow.holds Try.pinned (OpenSpec.upto vecMergesSpec)

/-- 'confluencelaw11.VecLeasts', WHERE WHAT IT READS IS OF BULK AT MOST 1048576: true; the input reads as it did. -/
def vecLeastsUptoRow : OpenClaim := { program := "ytoeafdpknjeojaa", sum := "227570b84be67f653f500f2ffa022fda89588c18ac51536bd393808bc54fcc8d", func := "confluence/confluencelaw11.VecLeasts", spec := "vecLeasts", apart := false, narrowed := true }
def VecLeastsUptoSaid : Prop := vecLeastsUptoRow.holds Try.pinned (OpenSpec.upto vecLeastsSpec)

/-- 'confluencelaw11.VecRises', WHERE WHAT IT READS IS OF BULK AT MOST 1048576: true; the input reads as it did. -/
def vecRisesUptoRow : OpenClaim := { program := "ytoeafdpknjeojaa", sum := "227570b84be67f653f500f2ffa022fda89588c18ac51536bd393808bc54fcc8d", func := "confluence/confluencelaw11.VecRises", spec := "vecRises", apart := false, narrowed := true }
def VecRisesUptoSaid : Prop := vecRisesUptoRow.holds Try.pinned (OpenSpec.upto vecRisesSpec)

end Rows
end Go.Proofs.Ytoeafdpknjeojaa
