/-
  No cell of these rows narrows 'for every input' (looked for: loops, veiled, ifaces, maps, wideKeys, modest, calm, conditions, laid).
  DERIVED. THE GIVEN ROWS OF THIS SEAT. 6 by the template 'for every input the law returns true; each argument reads behind the call as it read before'; 0 by the template 'total and deterministic' (their statements: YtpijljbkdfjhcaaTotals.lean).
  GIVEN WITH THE SEED: the statements are not yours to turn. If you find one false, say at which input.
  Laid BY PROGRAM, IN A SANDBOX (cutbox-rows.mjs): the forced cells as the released guide's own fill.sh prints them over the translation cebb7d8b17e0ec91… (all of the seat's roots in one cut). By AI agents, Wed Nov 11 2026. No macro, syntax, notation, axiom, sorry.
-/
import Derived.Test.YtpijljbkdfjhcaaChecked
import GoSem.Claim
import GoSem.ClaimJoined
import GoSem.ClaimMapViews
import Derived.JoinedTies
import Derived.KernelRfl
namespace Go.Proofs.Ytpijljbkdfjhcaa
/- THE CELL 'sum', in the pinned program and in every row, IS THE sha256 OF THE DUMP (.gsa) THAT YtpijljbkdfjhcaaProg.lean LOADS. Nothing in Lean hashes anything: it is a label: what it is worth is what the hold of that sum in a sandbox is worth. -/
noncomputable def Try.pinned : Pinned := { name := "ytpijljbkdfjhcaa", sum := "cebb7d8b17e0ec9195931c48d1fe560cc82a88c17b7825a37b93d2c69b443eca", checked := Try.checked }
namespace Rows
def none {H : Type} : Left H := { results := [], args := [] }

/-- 'confluencelaw18.ConfigStarts': WHATEVER THE INPUT: true; the input reads as it did. -/
def configStartsSpec : ChangeSpec := { name := "configStarts", fn := fun _ => fun
  | [d1, d2, d3] => { results := [.lit (.bool true)], args := [d1, d2, d3] }
  | _ => none }
def configStartsRow : OpenClaim := { program := "ytpijljbkdfjhcaa", sum := "cebb7d8b17e0ec9195931c48d1fe560cc82a88c17b7825a37b93d2c69b443eca", func := "confluence/confluencelaw18.ConfigStarts", spec := "configStarts", apart := false }
def ConfigStartsSaid : Prop := configStartsRow.holds Try.pinned (OpenSpec.ofChange configStartsSpec)

/-- ITS FALSE NEIGHBOUR: 'it returns false'. Refute it at one input. -/
def configStartsWrong : ChangeSpec := { name := "configStarts", fn := fun _ => fun
  | [d1, d2, d3] => { results := [.lit (.bool false)], args := [d1, d2, d3] }
  | _ => none }
def ConfigStartsWrongFalsely : Prop := configStartsRow.holds Try.pinned (OpenSpec.ofChange configStartsWrong)

/-- 'confluencelaw18.ConfigApplies': WHATEVER THE INPUT: true; the input reads as it did. -/
def configAppliesSpec : ChangeSpec := { name := "configApplies", fn := fun _ => fun
  | [d1, d2] => { results := [.lit (.bool true)], args := [d1, d2] }
  | _ => none }
def configAppliesRow : OpenClaim := { program := "ytpijljbkdfjhcaa", sum := "cebb7d8b17e0ec9195931c48d1fe560cc82a88c17b7825a37b93d2c69b443eca", func := "confluence/confluencelaw18.ConfigApplies", spec := "configApplies", inPlace := ["slices.overlaps[string]", "slices.overlaps[int]"], unfollowed := true, recurses := true, apart := false }
def ConfigAppliesSaid : Prop := configAppliesRow.holds Try.pinned (OpenSpec.ofChange configAppliesSpec)

/-- ITS FALSE NEIGHBOUR: 'it returns false'. Refute it at one input. -/
def configAppliesWrong : ChangeSpec := { name := "configApplies", fn := fun _ => fun
  | [d1, d2] => { results := [.lit (.bool false)], args := [d1, d2] }
  | _ => none }
def ConfigAppliesWrongFalsely : Prop := configAppliesRow.holds Try.pinned (OpenSpec.ofChange configAppliesWrong)

/-- 'confluencelaw18.ConfigRuns': WHATEVER THE INPUT: true; the input reads as it did. -/
def configRunsSpec : ChangeSpec := { name := "configRuns", fn := fun _ => fun
  | [d1, d2, d3, d4] => { results := [.lit (.bool true)], args := [d1, d2, d3, d4] }
  | _ => none }
def configRunsRow : OpenClaim := { program := "ytpijljbkdfjhcaa", sum := "cebb7d8b17e0ec9195931c48d1fe560cc82a88c17b7825a37b93d2c69b443eca", func := "confluence/confluencelaw18.ConfigRuns", spec := "configRuns", inPlace := ["slices.overlaps[string]", "slices.overlaps[int]"], unfollowed := true, recurses := true, apart := false }
def ConfigRunsSaid : Prop := configRunsRow.holds Try.pinned (OpenSpec.ofChange configRunsSpec)

/-- ITS FALSE NEIGHBOUR: 'it returns false'. Refute it at one input. -/
def configRunsWrong : ChangeSpec := { name := "configRuns", fn := fun _ => fun
  | [d1, d2, d3, d4] => { results := [.lit (.bool false)], args := [d1, d2, d3, d4] }
  | _ => none }
def ConfigRunsWrongFalsely : Prop := configRunsRow.holds Try.pinned (OpenSpec.ofChange configRunsWrong)

/-- 'confluencelaw18.ConfigOne': WHATEVER THE INPUT: true; the input reads as it did. -/
def configOneSpec : ChangeSpec := { name := "configOne", fn := fun _ => fun
  | [d1, d2] => { results := [.lit (.bool true)], args := [d1, d2] }
  | _ => none }
def configOneRow : OpenClaim := { program := "ytpijljbkdfjhcaa", sum := "cebb7d8b17e0ec9195931c48d1fe560cc82a88c17b7825a37b93d2c69b443eca", func := "confluence/confluencelaw18.ConfigOne", spec := "configOne", inPlace := ["slices.overlaps[string]", "slices.overlaps[int]"], unfollowed := true, recurses := true, apart := false }
def ConfigOneSaid : Prop := configOneRow.holds Try.pinned (OpenSpec.ofChange configOneSpec)

/-- ITS FALSE NEIGHBOUR: 'it returns false'. Refute it at one input. -/
def configOneWrong : ChangeSpec := { name := "configOne", fn := fun _ => fun
  | [d1, d2] => { results := [.lit (.bool false)], args := [d1, d2] }
  | _ => none }
def ConfigOneWrongFalsely : Prop := configOneRow.holds Try.pinned (OpenSpec.ofChange configOneWrong)

/-- 'confluencelaw18.ConfigBack': WHATEVER THE INPUT: true; the input reads as it did. -/
def configBackSpec : ChangeSpec := { name := "configBack", fn := fun _ => fun
  | [d1, d2, d3, d4] => { results := [.lit (.bool true)], args := [d1, d2, d3, d4] }
  | _ => none }
def configBackRow : OpenClaim := { program := "ytpijljbkdfjhcaa", sum := "cebb7d8b17e0ec9195931c48d1fe560cc82a88c17b7825a37b93d2c69b443eca", func := "confluence/confluencelaw18.ConfigBack", spec := "configBack", inPlace := ["slices.overlaps[string]", "slices.overlaps[int]"], unfollowed := true, recurses := true, apart := false }
def ConfigBackSaid : Prop := configBackRow.holds Try.pinned (OpenSpec.ofChange configBackSpec)

/-- ITS FALSE NEIGHBOUR: 'it returns false'. Refute it at one input. -/
def configBackWrong : ChangeSpec := { name := "configBack", fn := fun _ => fun
  | [d1, d2, d3, d4] => { results := [.lit (.bool false)], args := [d1, d2, d3, d4] }
  | _ => none }
def ConfigBackWrongFalsely : Prop := configBackRow.holds Try.pinned (OpenSpec.ofChange configBackWrong)

/-- 'confluencelaw18.ConfigOwns': WHATEVER THE INPUT: true; the input reads as it did. -/
def configOwnsSpec : ChangeSpec := { name := "configOwns", fn := fun _ => fun
  | [d1, d2] => { results := [.lit (.bool true)], args := [d1, d2] }
  | _ => none }
def configOwnsRow : OpenClaim := { program := "ytpijljbkdfjhcaa", sum := "cebb7d8b17e0ec9195931c48d1fe560cc82a88c17b7825a37b93d2c69b443eca", func := "confluence/confluencelaw18.ConfigOwns", spec := "configOwns", inPlace := ["slices.overlaps[string]", "slices.overlaps[int]"], unfollowed := true, recurses := true, apart := false }
def ConfigOwnsSaid : Prop := configOwnsRow.holds Try.pinned (OpenSpec.ofChange configOwnsSpec)

/-- ITS FALSE NEIGHBOUR: 'it returns false'. Refute it at one input. -/
def configOwnsWrong : ChangeSpec := { name := "configOwns", fn := fun _ => fun
  | [d1, d2] => { results := [.lit (.bool false)], args := [d1, d2] }
  | _ => none }
def ConfigOwnsWrongFalsely : Prop := configOwnsRow.holds Try.pinned (OpenSpec.ofChange configOwnsWrong)

/- THE SECOND FORM. 'bulk': how many values and letters a reading holds, each counted each time it is reached (what is shared counts as often as it is met; a slice's spare places count too). A statement '..UptoSaid' is the law's where the arguments, and the package variables that the reading takes, are together of bulk at most 1048576: NARROWER than '..Said'. Prove '..Said' where nothing that the law and all that it calls make is longer than what came in: it says more and counts as full. Else prove '..UptoSaid'. A law counts once. -/
mutual
def uptoBulk {H : Type} : DataW H → Nat
  | .lit (.string bytes) => bytes.length + 1
  | .lit _ => 1
  | .nil => 1
  | .ptr d => uptoBulk d + 1
  | .slice elems spare => uptoBulkAll elems + uptoBulkAll spare + 1
  | .agg parts => uptoBulkAll parts + 1
  | .iface _ d => uptoBulk d + 1
  | .map entries => uptoBulkEntries entries + 1
  | .held _ => 1
def uptoBulkAll {H : Type} : List (DataW H) → Nat
  | [] => 0
  | d :: r => uptoBulk d + uptoBulkAll r
def uptoBulkEntries {H : Type} : List (Lit × DataW H) → Nat
  | [] => 0
  | x :: r => uptoBulkEntry x + uptoBulkEntries r
def uptoBulkEntry {H : Type} : Lit × DataW H → Nat
  | (.string bytes, d) => bytes.length + uptoBulk d + 1
  | (_, d) => uptoBulk d + 1
 end
def uptoSmall : (H : Type) → List (DataW H) → Bool := fun _ ds => decide (uptoBulkAll ds ≤ 1048576)
def OpenSpec.upto (s : _root_.Go.ChangeSpec) : _root_.Go.OpenSpec := { _root_.Go.OpenSpec.ofChange s with cond := some uptoSmall }

/-- 'confluencelaw18.ConfigStarts', WHERE WHAT IT READS IS OF BULK AT MOST 1048576: true; the input reads as it did. -/
def configStartsUptoRow : OpenClaim := { program := "ytpijljbkdfjhcaa", sum := "cebb7d8b17e0ec9195931c48d1fe560cc82a88c17b7825a37b93d2c69b443eca", func := "confluence/confluencelaw18.ConfigStarts", spec := "configStarts", apart := false, narrowed := true }
def ConfigStartsUptoSaid : Prop := configStartsUptoRow.holds Try.pinned (OpenSpec.upto configStartsSpec)

/-- 'confluencelaw18.ConfigApplies', WHERE WHAT IT READS IS OF BULK AT MOST 1048576: true; the input reads as it did. -/
def configAppliesUptoRow : OpenClaim := { program := "ytpijljbkdfjhcaa", sum := "cebb7d8b17e0ec9195931c48d1fe560cc82a88c17b7825a37b93d2c69b443eca", func := "confluence/confluencelaw18.ConfigApplies", spec := "configApplies", inPlace := ["slices.overlaps[string]", "slices.overlaps[int]"], unfollowed := true, recurses := true, apart := false, narrowed := true }
def ConfigAppliesUptoSaid : Prop := configAppliesUptoRow.holds Try.pinned (OpenSpec.upto configAppliesSpec)

/-- 'confluencelaw18.ConfigRuns', WHERE WHAT IT READS IS OF BULK AT MOST 1048576: true; the input reads as it did. -/
def configRunsUptoRow : OpenClaim := { program := "ytpijljbkdfjhcaa", sum := "cebb7d8b17e0ec9195931c48d1fe560cc82a88c17b7825a37b93d2c69b443eca", func := "confluence/confluencelaw18.ConfigRuns", spec := "configRuns", inPlace := ["slices.overlaps[string]", "slices.overlaps[int]"], unfollowed := true, recurses := true, apart := false, narrowed := true }
def ConfigRunsUptoSaid : Prop := configRunsUptoRow.holds Try.pinned (OpenSpec.upto configRunsSpec)

/-- 'confluencelaw18.ConfigOne', WHERE WHAT IT READS IS OF BULK AT MOST 1048576: true; the input reads as it did. -/
def configOneUptoRow : OpenClaim := { program := "ytpijljbkdfjhcaa", sum := "cebb7d8b17e0ec9195931c48d1fe560cc82a88c17b7825a37b93d2c69b443eca", func := "confluence/confluencelaw18.ConfigOne", spec := "configOne", inPlace := ["slices.overlaps[string]", "slices.overlaps[int]"], unfollowed := true, recurses := true, apart := false, narrowed := true }
def ConfigOneUptoSaid : Prop := configOneUptoRow.holds Try.pinned (OpenSpec.upto configOneSpec)

/-- 'confluencelaw18.ConfigBack', WHERE WHAT IT READS IS OF BULK AT MOST 1048576: true; the input reads as it did. -/
def configBackUptoRow : OpenClaim := { program := "ytpijljbkdfjhcaa", sum := "cebb7d8b17e0ec9195931c48d1fe560cc82a88c17b7825a37b93d2c69b443eca", func := "confluence/confluencelaw18.ConfigBack", spec := "configBack", inPlace := ["slices.overlaps[string]", "slices.overlaps[int]"], unfollowed := true, recurses := true, apart := false, narrowed := true }
def ConfigBackUptoSaid : Prop := configBackUptoRow.holds Try.pinned (OpenSpec.upto configBackSpec)

/-- 'confluencelaw18.ConfigOwns', WHERE WHAT IT READS IS OF BULK AT MOST 1048576: true; the input reads as it did. -/
def configOwnsUptoRow : OpenClaim := { program := "ytpijljbkdfjhcaa", sum := "cebb7d8b17e0ec9195931c48d1fe560cc82a88c17b7825a37b93d2c69b443eca", func := "confluence/confluencelaw18.ConfigOwns", spec := "configOwns", inPlace := ["slices.overlaps[string]", "slices.overlaps[int]"], unfollowed := true, recurses := true, apart := false, narrowed := true }
def ConfigOwnsUptoSaid : Prop := configOwnsUptoRow.holds Try.pinned (OpenSpec.upto configOwnsSpec)

end Rows
end Go.Proofs.Ytpijljbkdfjhcaa
