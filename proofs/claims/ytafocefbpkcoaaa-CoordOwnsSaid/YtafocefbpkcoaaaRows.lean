/-
  No cell of these rows narrows 'for every input' (looked for: loops, veiled, ifaces, maps, wideKeys, modest, calm, conditions, laid).
  DERIVED. THE GIVEN ROWS OF THIS SEAT. 5 by the template 'for every input the law returns true; each argument reads behind the call as it read before'; 0 by the template 'total and deterministic' (their statements: YtafocefbpkcoaaaTotals.lean).
  GIVEN WITH THE SEED: the statements are not yours to turn. If you find one false, say at which input.
  Laid BY PROGRAM, IN A SANDBOX (cutbox-rows.mjs): the forced cells as the released guide's own fill.sh prints them over the translation 33d2635939bc57a7… (all of the seat's roots in one cut). By AI agents, Wed Nov 11 2026. No macro, syntax, notation, axiom, sorry.
-/
import Derived.Test.YtafocefbpkcoaaaChecked
import GoSem.Claim
import GoSem.ClaimJoined
import GoSem.ClaimMapViews
import Derived.JoinedTies
import Derived.KernelRfl
namespace Go.Proofs.Ytafocefbpkcoaaa
/- THE CELL 'sum', in the pinned program and in every row, IS THE sha256 OF THE DUMP (.gsa) THAT YtafocefbpkcoaaaProg.lean LOADS. Nothing in Lean hashes anything: it is a label: what it is worth is what the hold of that sum in a sandbox is worth. -/
noncomputable def Try.pinned : Pinned := { name := "ytafocefbpkcoaaa", sum := "33d2635939bc57a7b16a82a2c6d9bec60ff882bb51083f35763f3b00acf1dbcc", checked := Try.checked }
namespace Rows
def none {H : Type} : Left H := { results := [], args := [] }

/-- 'confluencelaw17.CoordPlays': WHATEVER THE INPUT: true; the input reads as it did. -/
def coordPlaysSpec : ChangeSpec := { name := "coordPlays", fn := fun _ => fun
  | [d] => { results := [.lit (.bool true)], args := [d] }
  | _ => none }
def coordPlaysRow : OpenClaim := { program := "ytafocefbpkcoaaa", sum := "33d2635939bc57a7b16a82a2c6d9bec60ff882bb51083f35763f3b00acf1dbcc", func := "confluence/confluencelaw17.CoordPlays", spec := "coordPlays", apart := false }
def CoordPlaysSaid : Prop := coordPlaysRow.holds Try.pinned (OpenSpec.ofChange coordPlaysSpec)

/-- ITS FALSE NEIGHBOUR: 'it returns false'. Refute it at one input. -/
def coordPlaysWrong : ChangeSpec := { name := "coordPlays", fn := fun _ => fun
  | [d] => { results := [.lit (.bool false)], args := [d] }
  | _ => none }
def CoordPlaysWrongFalsely : Prop := coordPlaysRow.holds Try.pinned (OpenSpec.ofChange coordPlaysWrong)

/-- 'confluencelaw17.CoordStamps': WHATEVER THE INPUT: true; the input reads as it did. -/
def coordStampsSpec : ChangeSpec := { name := "coordStamps", fn := fun _ => fun
  | [d1, d2, d3] => { results := [.lit (.bool true)], args := [d1, d2, d3] }
  | _ => none }
def coordStampsRow : OpenClaim := { program := "ytafocefbpkcoaaa", sum := "33d2635939bc57a7b16a82a2c6d9bec60ff882bb51083f35763f3b00acf1dbcc", func := "confluence/confluencelaw17.CoordStamps", spec := "coordStamps", apart := false }
def CoordStampsSaid : Prop := coordStampsRow.holds Try.pinned (OpenSpec.ofChange coordStampsSpec)

/-- ITS FALSE NEIGHBOUR: 'it returns false'. Refute it at one input. -/
def coordStampsWrong : ChangeSpec := { name := "coordStamps", fn := fun _ => fun
  | [d1, d2, d3] => { results := [.lit (.bool false)], args := [d1, d2, d3] }
  | _ => none }
def CoordStampsWrongFalsely : Prop := coordStampsRow.holds Try.pinned (OpenSpec.ofChange coordStampsWrong)

/-- 'confluencelaw17.CoordShares': WHATEVER THE INPUT: true; the input reads as it did. -/
def coordSharesSpec : ChangeSpec := { name := "coordShares", fn := fun _ => fun
  | [d1, d2] => { results := [.lit (.bool true)], args := [d1, d2] }
  | _ => none }
def coordSharesRow : OpenClaim := { program := "ytafocefbpkcoaaa", sum := "33d2635939bc57a7b16a82a2c6d9bec60ff882bb51083f35763f3b00acf1dbcc", func := "confluence/confluencelaw17.CoordShares", spec := "coordShares", apart := false }
def CoordSharesSaid : Prop := coordSharesRow.holds Try.pinned (OpenSpec.ofChange coordSharesSpec)

/-- ITS FALSE NEIGHBOUR: 'it returns false'. Refute it at one input. -/
def coordSharesWrong : ChangeSpec := { name := "coordShares", fn := fun _ => fun
  | [d1, d2] => { results := [.lit (.bool false)], args := [d1, d2] }
  | _ => none }
def CoordSharesWrongFalsely : Prop := coordSharesRow.holds Try.pinned (OpenSpec.ofChange coordSharesWrong)

/-- 'confluencelaw17.CoordOwns': WHATEVER THE INPUT: true; the input reads as it did. -/
def coordOwnsSpec : ChangeSpec := { name := "coordOwns", fn := fun _ => fun
  | [d] => { results := [.lit (.bool true)], args := [d] }
  | _ => none }
def coordOwnsRow : OpenClaim := { program := "ytafocefbpkcoaaa", sum := "33d2635939bc57a7b16a82a2c6d9bec60ff882bb51083f35763f3b00acf1dbcc", func := "confluence/confluencelaw17.CoordOwns", spec := "coordOwns", apart := false }
def CoordOwnsSaid : Prop := coordOwnsRow.holds Try.pinned (OpenSpec.ofChange coordOwnsSpec)

/-- ITS FALSE NEIGHBOUR: 'it returns false'. Refute it at one input. -/
def coordOwnsWrong : ChangeSpec := { name := "coordOwns", fn := fun _ => fun
  | [d] => { results := [.lit (.bool false)], args := [d] }
  | _ => none }
def CoordOwnsWrongFalsely : Prop := coordOwnsRow.holds Try.pinned (OpenSpec.ofChange coordOwnsWrong)

/-- 'confluencelaw17.CoordNone': WHATEVER THE INPUT: true; the input reads as it did. -/
def coordNoneSpec : ChangeSpec := { name := "coordNone", fn := fun _ => fun
  | [d] => { results := [.lit (.bool true)], args := [d] }
  | _ => none }
def coordNoneRow : OpenClaim := { program := "ytafocefbpkcoaaa", sum := "33d2635939bc57a7b16a82a2c6d9bec60ff882bb51083f35763f3b00acf1dbcc", func := "confluence/confluencelaw17.CoordNone", spec := "coordNone", apart := false }
def CoordNoneSaid : Prop := coordNoneRow.holds Try.pinned (OpenSpec.ofChange coordNoneSpec)

/-- ITS FALSE NEIGHBOUR: 'it returns false'. Refute it at one input. -/
def coordNoneWrong : ChangeSpec := { name := "coordNone", fn := fun _ => fun
  | [d] => { results := [.lit (.bool false)], args := [d] }
  | _ => none }
def CoordNoneWrongFalsely : Prop := coordNoneRow.holds Try.pinned (OpenSpec.ofChange coordNoneWrong)

/- THE SECOND FORM. 'bulk': how many values and letters a reading holds, each counted each time it is reached (what is shared counts as often as it is met; a slice's spare places count too). A statement '..UptoSaid' is the law's where the arguments, and the package variables that the reading takes, are together of bulk at most 1048576: NARROWER than '..Said'. Prove '..Said' where nothing that the law and all that it calls make is longer than what came in: it says more and counts as full. Else prove '..UptoSaid'. A law counts once. -/
mutual
def uptoBulk {H : Type} : DataW H → Nat
  | .lit (.string bytes) => bytes.length + 1
  | .lit _ => 1
  | .nil => 1
  | .ptr d => uptoBulk d + 1
  | .slice elems spare => uptoBulkAll elems + uptoBulkAll spare + 1
  | .agg parts => uptoBulkAll parts + 1
  | .iface _ d => uptoBulk d + 1
  | .map entries => uptoBulkEntries entries + 1
  | .held _ => 1
def uptoBulkAll {H : Type} : List (DataW H) → Nat
  | [] => 0
  | d :: r => uptoBulk d + uptoBulkAll r
def uptoBulkEntries {H : Type} : List (Lit × DataW H) → Nat
  | [] => 0
  | x :: r => uptoBulkEntry x + uptoBulkEntries r
def uptoBulkEntry {H : Type} : Lit × DataW H → Nat
  | (.string bytes, d) => bytes.length + uptoBulk d + 1
  | (_, d) => uptoBulk d + 1
 end
def uptoSmall : (H : Type) → List (DataW H) → Bool := fun _ ds => decide (uptoBulkAll ds ≤ 1048576)
def OpenSpec.upto (s : _root_.Go.ChangeSpec) : _root_.Go.OpenSpec := { _root_.Go.OpenSpec.ofChange s with cond := some uptoSmall }

/-- 'confluencelaw17.CoordPlays', WHERE WHAT IT READS IS OF BULK AT MOST 1048576: true; the input reads as it did. -/
def coordPlaysUptoRow : OpenClaim := { program := "ytafocefbpkcoaaa", sum := "33d2635939bc57a7b16a82a2c6d9bec60ff882bb51083f35763f3b00acf1dbcc", func := "confluence/confluencelaw17.CoordPlays", spec := "coordPlays", apart := false, narrowed := true }
def CoordPlaysUptoSaid : Prop := coordPlaysUptoRow.holds Try.pinned (OpenSpec.upto coordPlaysSpec)

/-- 'confluencelaw17.CoordStamps', WHERE WHAT IT READS IS OF BULK AT MOST 1048576: true; the input reads as it did. -/
def coordStampsUptoRow : OpenClaim := { program := "ytafocefbpkcoaaa", sum := "33d2635939bc57a7b16a82a2c6d9bec60ff882bb51083f35763f3b00acf1dbcc", func := "confluence/confluencelaw17.CoordStamps", spec := "coordStamps", apart := false, narrowed := true }
def CoordStampsUptoSaid : Prop := coordStampsUptoRow.holds Try.pinned (OpenSpec.upto coordStampsSpec)

/-- 'confluencelaw17.CoordShares', WHERE WHAT IT READS IS OF BULK AT MOST 1048576: true; the input reads as it did. -/
def coordSharesUptoRow : OpenClaim := { program := "ytafocefbpkcoaaa", sum := "33d2635939bc57a7b16a82a2c6d9bec60ff882bb51083f35763f3b00acf1dbcc", func := "confluence/confluencelaw17.CoordShares", spec := "coordShares", apart := false, narrowed := true }
def CoordSharesUptoSaid : Prop := coordSharesUptoRow.holds Try.pinned (OpenSpec.upto coordSharesSpec)

/-- 'confluencelaw17.CoordOwns', WHERE WHAT IT READS IS OF BULK AT MOST 1048576: true; the input reads as it did. -/
def coordOwnsUptoRow : OpenClaim := { program := "ytafocefbpkcoaaa", sum := "33d2635939bc57a7b16a82a2c6d9bec60ff882bb51083f35763f3b00acf1dbcc", func := "confluence/confluencelaw17.CoordOwns", spec := "coordOwns", apart := false, narrowed := true }
def CoordOwnsUptoSaid : Prop := coordOwnsUptoRow.holds Try.pinned (OpenSpec.upto coordOwnsSpec)

/-- 'confluencelaw17.CoordNone', WHERE WHAT IT READS IS OF BULK AT MOST 1048576: true; the input reads as it did. -/
def coordNoneUptoRow : OpenClaim := { program := "ytafocefbpkcoaaa", sum := "33d2635939bc57a7b16a82a2c6d9bec60ff882bb51083f35763f3b00acf1dbcc", func := "confluence/confluencelaw17.CoordNone", spec := "coordNone", apart := false, narrowed := true }
def CoordNoneUptoSaid : Prop := coordNoneUptoRow.holds Try.pinned (OpenSpec.upto coordNoneSpec)

end Rows
end Go.Proofs.Ytafocefbpkcoaaa
