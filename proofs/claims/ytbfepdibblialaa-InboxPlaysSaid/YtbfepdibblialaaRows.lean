/-
  No cell of these rows narrows 'for every input' (looked for: loops, veiled, ifaces, maps, wideKeys, modest, calm, conditions, laid).
  DERIVED. THE GIVEN ROWS OF THIS SEAT. 5 by the template 'for every input the law returns true; each argument reads behind the call as it read before'; 0 by the template 'total and deterministic' (their statements: YtbfepdibblialaaTotals.lean).
  GIVEN WITH THE SEED: the statements are not yours to turn. If you find one false, say at which input.
  Laid BY PROGRAM, IN A SANDBOX (cutbox-rows.mjs): the forced cells as the released guide's own fill.sh prints them over the translation eb5199dac975236f… (all of the seat's roots in one cut). By AI agents, Wed Nov 11 2026. No macro, syntax, notation, axiom, sorry.
-/
import Derived.Test.YtbfepdibblialaaChecked
import GoSem.Claim
import GoSem.ClaimJoined
import GoSem.ClaimMapViews
import Derived.JoinedTies
import Derived.KernelRfl
namespace Go.Proofs.Ytbfepdibblialaa
/- THE CELL 'sum', in the pinned program and in every row, IS THE sha256 OF THE DUMP (.gsa) THAT YtbfepdibblialaaProg.lean LOADS. Nothing in Lean hashes anything: it is a label: what it is worth is what the hold of that sum in a sandbox is worth. -/
noncomputable def Try.pinned : Pinned := { name := "ytbfepdibblialaa", sum := "eb5199dac975236f0edb340038552c5d52d07327d727e48fca2fe00554a2fbe4", checked := Try.checked }
namespace Rows
def none {H : Type} : Left H := { results := [], args := [] }

/-- 'confluencelaw14.InboxPlays': WHATEVER THE INPUT: true; the input reads as it did. -/
def inboxPlaysSpec : ChangeSpec := { name := "inboxPlays", fn := fun _ => fun
  | [d1, d2] => { results := [.lit (.bool true)], args := [d1, d2] }
  | _ => none }
def inboxPlaysRow : OpenClaim := { program := "ytbfepdibblialaa", sum := "eb5199dac975236f0edb340038552c5d52d07327d727e48fca2fe00554a2fbe4", func := "confluence/confluencelaw14.InboxPlays", spec := "inboxPlays", apart := false }
def InboxPlaysSaid : Prop := inboxPlaysRow.holds Try.pinned (OpenSpec.ofChange inboxPlaysSpec)

/-- ITS FALSE NEIGHBOUR: 'it returns false'. Refute it at one input. -/
def inboxPlaysWrong : ChangeSpec := { name := "inboxPlays", fn := fun _ => fun
  | [d1, d2] => { results := [.lit (.bool false)], args := [d1, d2] }
  | _ => none }
def InboxPlaysWrongFalsely : Prop := inboxPlaysRow.holds Try.pinned (OpenSpec.ofChange inboxPlaysWrong)

/-- 'confluencelaw14.InboxOnce': WHATEVER THE INPUT: true; the input reads as it did. -/
def inboxOnceSpec : ChangeSpec := { name := "inboxOnce", fn := fun _ => fun
  | [d1, d2] => { results := [.lit (.bool true)], args := [d1, d2] }
  | _ => none }
def inboxOnceRow : OpenClaim := { program := "ytbfepdibblialaa", sum := "eb5199dac975236f0edb340038552c5d52d07327d727e48fca2fe00554a2fbe4", func := "confluence/confluencelaw14.InboxOnce", spec := "inboxOnce", apart := false }
def InboxOnceSaid : Prop := inboxOnceRow.holds Try.pinned (OpenSpec.ofChange inboxOnceSpec)

/-- ITS FALSE NEIGHBOUR: 'it returns false'. Refute it at one input. -/
def inboxOnceWrong : ChangeSpec := { name := "inboxOnce", fn := fun _ => fun
  | [d1, d2] => { results := [.lit (.bool false)], args := [d1, d2] }
  | _ => none }
def InboxOnceWrongFalsely : Prop := inboxOnceRow.holds Try.pinned (OpenSpec.ofChange inboxOnceWrong)

/-- 'confluencelaw14.InboxBelow': WHATEVER THE INPUT: true; the input reads as it did. -/
def inboxBelowSpec : ChangeSpec := { name := "inboxBelow", fn := fun _ => fun
  | [d1, d2] => { results := [.lit (.bool true)], args := [d1, d2] }
  | _ => none }
def inboxBelowRow : OpenClaim := { program := "ytbfepdibblialaa", sum := "eb5199dac975236f0edb340038552c5d52d07327d727e48fca2fe00554a2fbe4", func := "confluence/confluencelaw14.InboxBelow", spec := "inboxBelow", apart := false }
def InboxBelowSaid : Prop := inboxBelowRow.holds Try.pinned (OpenSpec.ofChange inboxBelowSpec)

/-- ITS FALSE NEIGHBOUR: 'it returns false'. Refute it at one input. -/
def inboxBelowWrong : ChangeSpec := { name := "inboxBelow", fn := fun _ => fun
  | [d1, d2] => { results := [.lit (.bool false)], args := [d1, d2] }
  | _ => none }
def InboxBelowWrongFalsely : Prop := inboxBelowRow.holds Try.pinned (OpenSpec.ofChange inboxBelowWrong)

/-- 'confluencelaw14.InboxOwns': WHATEVER THE INPUT: true; the input reads as it did. -/
def inboxOwnsSpec : ChangeSpec := { name := "inboxOwns", fn := fun _ => fun
  | [d] => { results := [.lit (.bool true)], args := [d] }
  | _ => none }
def inboxOwnsRow : OpenClaim := { program := "ytbfepdibblialaa", sum := "eb5199dac975236f0edb340038552c5d52d07327d727e48fca2fe00554a2fbe4", func := "confluence/confluencelaw14.InboxOwns", spec := "inboxOwns", apart := false }
def InboxOwnsSaid : Prop := inboxOwnsRow.holds Try.pinned (OpenSpec.ofChange inboxOwnsSpec)

/-- ITS FALSE NEIGHBOUR: 'it returns false'. Refute it at one input. -/
def inboxOwnsWrong : ChangeSpec := { name := "inboxOwns", fn := fun _ => fun
  | [d] => { results := [.lit (.bool false)], args := [d] }
  | _ => none }
def InboxOwnsWrongFalsely : Prop := inboxOwnsRow.holds Try.pinned (OpenSpec.ofChange inboxOwnsWrong)

/-- 'confluencelaw14.InboxNone': WHATEVER THE INPUT: true; the input reads as it did. -/
def inboxNoneSpec : ChangeSpec := { name := "inboxNone", fn := fun _ => fun
  | [d1, d2, d3] => { results := [.lit (.bool true)], args := [d1, d2, d3] }
  | _ => none }
def inboxNoneRow : OpenClaim := { program := "ytbfepdibblialaa", sum := "eb5199dac975236f0edb340038552c5d52d07327d727e48fca2fe00554a2fbe4", func := "confluence/confluencelaw14.InboxNone", spec := "inboxNone", apart := false }
def InboxNoneSaid : Prop := inboxNoneRow.holds Try.pinned (OpenSpec.ofChange inboxNoneSpec)

/-- ITS FALSE NEIGHBOUR: 'it returns false'. Refute it at one input. -/
def inboxNoneWrong : ChangeSpec := { name := "inboxNone", fn := fun _ => fun
  | [d1, d2, d3] => { results := [.lit (.bool false)], args := [d1, d2, d3] }
  | _ => none }
def InboxNoneWrongFalsely : Prop := inboxNoneRow.holds Try.pinned (OpenSpec.ofChange inboxNoneWrong)

/- THE SECOND FORM. 'bulk': how many values and letters a reading holds, each counted each time it is reached (what is shared counts as often as it is met; a slice's spare places count too). A statement '..UptoSaid' is the law's where the arguments, and the package variables that the reading takes, are together of bulk at most 1048576: NARROWER than '..Said'. Prove '..Said' where nothing that the law and all that it calls make is longer than what came in: it says more and counts as full. Else prove '..UptoSaid'. A law counts once. -/
mutual
def uptoBulk {H : Type} : DataW H → Nat
  | .lit (.string bytes) => bytes.length + 1
  | .lit _ => 1
  | .nil => 1
  | .ptr d => uptoBulk d + 1
  | .slice elems spare => uptoBulkAll elems + uptoBulkAll spare + 1
  | .agg parts => uptoBulkAll parts + 1
  | .iface _ d => uptoBulk d + 1
  | .map entries => uptoBulkEntries entries + 1
  | .held _ => 1
def uptoBulkAll {H : Type} : List (DataW H) → Nat
  | [] => 0
  | d :: r => uptoBulk d + uptoBulkAll r
def uptoBulkEntries {H : Type} : List (Lit × DataW H) → Nat
  | [] => 0
  | x :: r => uptoBulkEntry x + uptoBulkEntries r
def uptoBulkEntry {H : Type} : Lit × DataW H → Nat
  | (.string bytes, d) => bytes.length + uptoBulk d + 1
  | (_, d) => uptoBulk d + 1
 end
def uptoSmall : (H : Type) → List (DataW H) → Bool := fun _ ds => decide (uptoBulkAll ds ≤ 1048576)
def OpenSpec.upto (s : _root_.Go.ChangeSpec) : _root_.Go.OpenSpec := { _root_.Go.OpenSpec.ofChange s with cond := some uptoSmall }

/-- 'confluencelaw14.InboxPlays', WHERE WHAT IT READS IS OF BULK AT MOST 1048576: true; the input reads as it did. -/
def inboxPlaysUptoRow : OpenClaim := { program := "ytbfepdibblialaa", sum := "eb5199dac975236f0edb340038552c5d52d07327d727e48fca2fe00554a2fbe4", func := "confluence/confluencelaw14.InboxPlays", spec := "inboxPlays", apart := false, narrowed := true }
def InboxPlaysUptoSaid : Prop := inboxPlaysUptoRow.holds Try.pinned (OpenSpec.upto inboxPlaysSpec)

/-- 'confluencelaw14.InboxOnce', WHERE WHAT IT READS IS OF BULK AT MOST 1048576: true; the input reads as it did. -/
def inboxOnceUptoRow : OpenClaim := { program := "ytbfepdibblialaa", sum := "eb5199dac975236f0edb340038552c5d52d07327d727e48fca2fe00554a2fbe4", func := "confluence/confluencelaw14.InboxOnce", spec := "inboxOnce", apart := false, narrowed := true }
def InboxOnceUptoSaid : Prop := inboxOnceUptoRow.holds Try.pinned (OpenSpec.upto inboxOnceSpec)

/-- 'confluencelaw14.InboxBelow', WHERE WHAT IT READS IS OF BULK AT MOST 1048576: true; the input reads as it did. -/
def inboxBelowUptoRow : OpenClaim := { program := "ytbfepdibblialaa", sum := "eb5199dac975236f0edb340038552c5d52d07327d727e48fca2fe00554a2fbe4", func := "confluence/confluencelaw14.InboxBelow", spec := "inboxBelow", apart := false, narrowed := true }
def InboxBelowUptoSaid : Prop := inboxBelowUptoRow.holds Try.pinned (OpenSpec.upto inboxBelowSpec)

/-- 'confluencelaw14.InboxOwns', WHERE WHAT IT READS IS OF BULK AT MOST 1048576: true; the input reads as it did. -/
def inboxOwnsUptoRow : OpenClaim := { program := "ytbfepdibblialaa", sum := "eb5199dac975236f0edb340038552c5d52d07327d727e48fca2fe00554a2fbe4", func := "confluence/confluencelaw14.InboxOwns", spec := "inboxOwns", apart := false, narrowed := true }
def InboxOwnsUptoSaid : Prop := inboxOwnsUptoRow.holds Try.pinned (OpenSpec.upto inboxOwnsSpec)

/-- 'confluencelaw14.InboxNone', WHERE WHAT IT READS IS OF BULK AT MOST 1048576: true; the input reads as it did. -/
def inboxNoneUptoRow : OpenClaim := { program := "ytbfepdibblialaa", sum := "eb5199dac975236f0edb340038552c5d52d07327d727e48fca2fe00554a2fbe4", func := "confluence/confluencelaw14.InboxNone", spec := "inboxNone", apart := false, narrowed := true }
def InboxNoneUptoSaid : Prop := inboxNoneUptoRow.holds Try.pinned (OpenSpec.upto inboxNoneSpec)

end Rows
end Go.Proofs.Ytbfepdibblialaa
