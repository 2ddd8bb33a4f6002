/-
  No cell of these rows narrows 'for every input' (looked for: loops, veiled, ifaces, maps, wideKeys, modest, calm, conditions, laid).
  DERIVED. THE GIVEN ROWS OF THIS SEAT. 9 by the template 'for every input the law returns true; each argument reads behind the call as it read before'; 0 by the template 'total and deterministic' (their statements: YtbmaaonjohcgbaaTotals.lean).
  GIVEN WITH THE SEED: the statements are not yours to turn. If you find one false, say at which input.
  Laid BY PROGRAM, IN A SANDBOX (cutbox-rows.mjs): the forced cells as the released guide's own fill.sh prints them over the translation 0e0a350d550eb008… (all of the seat's roots in one cut). By AI agents, Wed Nov 11 2026. No macro, syntax, notation, axiom, sorry.
-/
import Derived.Test.YtbmaaonjohcgbaaChecked
import GoSem.Claim
import GoSem.ClaimJoined
import GoSem.ClaimMapViews
import Derived.JoinedTies
import Derived.KernelRfl
namespace Go.Proofs.Ytbmaaonjohcgbaa
/- THE CELL 'sum', in the pinned program and in every row, IS THE sha256 OF THE DUMP (.gsa) THAT YtbmaaonjohcgbaaProg.lean LOADS. Nothing in Lean hashes anything: it is a label: what it is worth is what the hold of that sum in a sandbox is worth. -/
noncomputable def Try.pinned : Pinned := { name := "ytbmaaonjohcgbaa", sum := "0e0a350d550eb008e86b0c76c3b94c67c0cf4ca3f594dd73ad612699255e9cf4", checked := Try.checked }
namespace Rows
def none {H : Type} : Left H := { results := [], args := [] }

/-- 'confluencelaw09.ChainPuts': WHATEVER THE INPUT: true; the input reads as it did. -/
def chainPutsSpec : ChangeSpec := { name := "chainPuts", fn := fun _ => fun
  | [d1, d2] => { results := [.lit (.bool true)], args := [d1, d2] }
  | _ => none }
def chainPutsRow : OpenClaim := { program := "ytbmaaonjohcgbaa", sum := "0e0a350d550eb008e86b0c76c3b94c67c0cf4ca3f594dd73ad612699255e9cf4", func := "confluence/confluencelaw09.ChainPuts", spec := "chainPuts", unfollowed := true, recurses := true, apart := false }
def ChainPutsSaid : Prop := chainPutsRow.holds Try.pinned (OpenSpec.ofChange chainPutsSpec)

/-- ITS FALSE NEIGHBOUR: 'it returns false'. Refute it at one input. -/
def chainPutsWrong : ChangeSpec := { name := "chainPuts", fn := fun _ => fun
  | [d1, d2] => { results := [.lit (.bool false)], args := [d1, d2] }
  | _ => none }
def ChainPutsWrongFalsely : Prop := chainPutsRow.holds Try.pinned (OpenSpec.ofChange chainPutsWrong)

/-- 'confluencelaw09.ChainSees': WHATEVER THE INPUT: true; the input reads as it did. -/
def chainSeesSpec : ChangeSpec := { name := "chainSees", fn := fun _ => fun
  | [d1, d2] => { results := [.lit (.bool true)], args := [d1, d2] }
  | _ => none }
def chainSeesRow : OpenClaim := { program := "ytbmaaonjohcgbaa", sum := "0e0a350d550eb008e86b0c76c3b94c67c0cf4ca3f594dd73ad612699255e9cf4", func := "confluence/confluencelaw09.ChainSees", spec := "chainSees", apart := false }
def ChainSeesSaid : Prop := chainSeesRow.holds Try.pinned (OpenSpec.ofChange chainSeesSpec)

/-- ITS FALSE NEIGHBOUR: 'it returns false'. Refute it at one input. -/
def chainSeesWrong : ChangeSpec := { name := "chainSees", fn := fun _ => fun
  | [d1, d2] => { results := [.lit (.bool false)], args := [d1, d2] }
  | _ => none }
def ChainSeesWrongFalsely : Prop := chainSeesRow.holds Try.pinned (OpenSpec.ofChange chainSeesWrong)

/-- 'confluencelaw09.ChainTrims': WHATEVER THE INPUT: true; the input reads as it did. -/
def chainTrimsSpec : ChangeSpec := { name := "chainTrims", fn := fun _ => fun
  | [d1, d2] => { results := [.lit (.bool true)], args := [d1, d2] }
  | _ => none }
def chainTrimsRow : OpenClaim := { program := "ytbmaaonjohcgbaa", sum := "0e0a350d550eb008e86b0c76c3b94c67c0cf4ca3f594dd73ad612699255e9cf4", func := "confluence/confluencelaw09.ChainTrims", spec := "chainTrims", apart := false }
def ChainTrimsSaid : Prop := chainTrimsRow.holds Try.pinned (OpenSpec.ofChange chainTrimsSpec)

/-- ITS FALSE NEIGHBOUR: 'it returns false'. Refute it at one input. -/
def chainTrimsWrong : ChangeSpec := { name := "chainTrims", fn := fun _ => fun
  | [d1, d2] => { results := [.lit (.bool false)], args := [d1, d2] }
  | _ => none }
def ChainTrimsWrongFalsely : Prop := chainTrimsRow.holds Try.pinned (OpenSpec.ofChange chainTrimsWrong)

/-- 'confluencelaw09.ChainJoins': WHATEVER THE INPUT: true; the input reads as it did. -/
def chainJoinsSpec : ChangeSpec := { name := "chainJoins", fn := fun _ => fun
  | [d1, d2] => { results := [.lit (.bool true)], args := [d1, d2] }
  | _ => none }
def chainJoinsRow : OpenClaim := { program := "ytbmaaonjohcgbaa", sum := "0e0a350d550eb008e86b0c76c3b94c67c0cf4ca3f594dd73ad612699255e9cf4", func := "confluence/confluencelaw09.ChainJoins", spec := "chainJoins", inPlace := ["slices.overlaps[confluence/api.Ver]"], unfollowed := true, recurses := true, apart := false }
def ChainJoinsSaid : Prop := chainJoinsRow.holds Try.pinned (OpenSpec.ofChange chainJoinsSpec)

/-- ITS FALSE NEIGHBOUR: 'it returns false'. Refute it at one input. -/
def chainJoinsWrong : ChangeSpec := { name := "chainJoins", fn := fun _ => fun
  | [d1, d2] => { results := [.lit (.bool false)], args := [d1, d2] }
  | _ => none }
def ChainJoinsWrongFalsely : Prop := chainJoinsRow.holds Try.pinned (OpenSpec.ofChange chainJoinsWrong)

/-- 'confluencelaw09.ChainOrder': WHATEVER THE INPUT: true; the input reads as it did. -/
def chainOrderSpec : ChangeSpec := { name := "chainOrder", fn := fun _ => fun
  | [d1, d2] => { results := [.lit (.bool true)], args := [d1, d2] }
  | _ => none }
def chainOrderRow : OpenClaim := { program := "ytbmaaonjohcgbaa", sum := "0e0a350d550eb008e86b0c76c3b94c67c0cf4ca3f594dd73ad612699255e9cf4", func := "confluence/confluencelaw09.ChainOrder", spec := "chainOrder", unfollowed := true, recurses := true, apart := false }
def ChainOrderSaid : Prop := chainOrderRow.holds Try.pinned (OpenSpec.ofChange chainOrderSpec)

/-- ITS FALSE NEIGHBOUR: 'it returns false'. Refute it at one input. -/
def chainOrderWrong : ChangeSpec := { name := "chainOrder", fn := fun _ => fun
  | [d1, d2] => { results := [.lit (.bool false)], args := [d1, d2] }
  | _ => none }
def ChainOrderWrongFalsely : Prop := chainOrderRow.holds Try.pinned (OpenSpec.ofChange chainOrderWrong)

/-- 'confluencelaw09.ChainLater': WHATEVER THE INPUT: true; the input reads as it did. -/
def chainLaterSpec : ChangeSpec := { name := "chainLater", fn := fun _ => fun
  | [d1, d2, d3, d4] => { results := [.lit (.bool true)], args := [d1, d2, d3, d4] }
  | _ => none }
def chainLaterRow : OpenClaim := { program := "ytbmaaonjohcgbaa", sum := "0e0a350d550eb008e86b0c76c3b94c67c0cf4ca3f594dd73ad612699255e9cf4", func := "confluence/confluencelaw09.ChainLater", spec := "chainLater", unfollowed := true, recurses := true, apart := false }
def ChainLaterSaid : Prop := chainLaterRow.holds Try.pinned (OpenSpec.ofChange chainLaterSpec)

/-- ITS FALSE NEIGHBOUR: 'it returns false'. Refute it at one input. -/
def chainLaterWrong : ChangeSpec := { name := "chainLater", fn := fun _ => fun
  | [d1, d2, d3, d4] => { results := [.lit (.bool false)], args := [d1, d2, d3, d4] }
  | _ => none }
def ChainLaterWrongFalsely : Prop := chainLaterRow.holds Try.pinned (OpenSpec.ofChange chainLaterWrong)

/-- 'confluencelaw09.ChainFloors': WHATEVER THE INPUT: true; the input reads as it did. -/
def chainFloorsSpec : ChangeSpec := { name := "chainFloors", fn := fun _ => fun
  | [d1, d2, d3] => { results := [.lit (.bool true)], args := [d1, d2, d3] }
  | _ => none }
def chainFloorsRow : OpenClaim := { program := "ytbmaaonjohcgbaa", sum := "0e0a350d550eb008e86b0c76c3b94c67c0cf4ca3f594dd73ad612699255e9cf4", func := "confluence/confluencelaw09.ChainFloors", spec := "chainFloors", apart := false }
def ChainFloorsSaid : Prop := chainFloorsRow.holds Try.pinned (OpenSpec.ofChange chainFloorsSpec)

/-- ITS FALSE NEIGHBOUR: 'it returns false'. Refute it at one input. -/
def chainFloorsWrong : ChangeSpec := { name := "chainFloors", fn := fun _ => fun
  | [d1, d2, d3] => { results := [.lit (.bool false)], args := [d1, d2, d3] }
  | _ => none }
def ChainFloorsWrongFalsely : Prop := chainFloorsRow.holds Try.pinned (OpenSpec.ofChange chainFloorsWrong)

/-- 'confluencelaw09.ChainBoth': WHATEVER THE INPUT: true; the input reads as it did. -/
def chainBothSpec : ChangeSpec := { name := "chainBoth", fn := fun _ => fun
  | [d1, d2] => { results := [.lit (.bool true)], args := [d1, d2] }
  | _ => none }
def chainBothRow : OpenClaim := { program := "ytbmaaonjohcgbaa", sum := "0e0a350d550eb008e86b0c76c3b94c67c0cf4ca3f594dd73ad612699255e9cf4", func := "confluence/confluencelaw09.ChainBoth", spec := "chainBoth", inPlace := ["slices.overlaps[confluence/api.Ver]"], unfollowed := true, recurses := true, apart := false }
def ChainBothSaid : Prop := chainBothRow.holds Try.pinned (OpenSpec.ofChange chainBothSpec)

/-- ITS FALSE NEIGHBOUR: 'it returns false'. Refute it at one input. -/
def chainBothWrong : ChangeSpec := { name := "chainBoth", fn := fun _ => fun
  | [d1, d2] => { results := [.lit (.bool false)], args := [d1, d2] }
  | _ => none }
def ChainBothWrongFalsely : Prop := chainBothRow.holds Try.pinned (OpenSpec.ofChange chainBothWrong)

/-- 'confluencelaw09.ChainOwns': WHATEVER THE INPUT: true; the input reads as it did. -/
def chainOwnsSpec : ChangeSpec := { name := "chainOwns", fn := fun _ => fun
  | [d1, d2, d3] => { results := [.lit (.bool true)], args := [d1, d2, d3] }
  | _ => none }
def chainOwnsRow : OpenClaim := { program := "ytbmaaonjohcgbaa", sum := "0e0a350d550eb008e86b0c76c3b94c67c0cf4ca3f594dd73ad612699255e9cf4", func := "confluence/confluencelaw09.ChainOwns", spec := "chainOwns", inPlace := ["slices.overlaps[confluence/api.Ver]"], unfollowed := true, recurses := true, apart := false }
def ChainOwnsSaid : Prop := chainOwnsRow.holds Try.pinned (OpenSpec.ofChange chainOwnsSpec)

/-- ITS FALSE NEIGHBOUR: 'it returns false'. Refute it at one input. -/
def chainOwnsWrong : ChangeSpec := { name := "chainOwns", fn := fun _ => fun
  | [d1, d2, d3] => { results := [.lit (.bool false)], args := [d1, d2, d3] }
  | _ => none }
def ChainOwnsWrongFalsely : Prop := chainOwnsRow.holds Try.pinned (OpenSpec.ofChange chainOwnsWrong)

/- THE SECOND FORM. 'bulk': how many values and letters a reading holds, each counted each time it is reached (what is shared counts as often as it is met; a slice's spare places count too). A statement '..UptoSaid' is the law's where the arguments, and the package variables that the reading takes, are together of bulk at most 1048576: NARROWER than '..Said'. Prove '..Said' where nothing that the law and all that it calls make is longer than what came in: it says more and counts as full. Else prove '..UptoSaid'. A law counts once. -/
mutual
def uptoBulk {H : Type} : DataW H → Nat
  | .lit (.string bytes) => bytes.length + 1
  | .lit _ => 1
  | .nil => 1
  | .ptr d => uptoBulk d + 1
  | .slice elems spare => uptoBulkAll elems + uptoBulkAll spare + 1
  | .agg parts => uptoBulkAll parts + 1
  | .iface _ d => uptoBulk d + 1
  | .map entries => uptoBulkEntries entries + 1
  | .held _ => 1
def uptoBulkAll {H : Type} : List (DataW H) → Nat
  | [] => 0
  | d :: r => uptoBulk d + uptoBulkAll r
def uptoBulkEntries {H : Type} : List (Lit × DataW H) → Nat
  | [] => 0
  | x :: r => uptoBulkEntry x + uptoBulkEntries r
def uptoBulkEntry {H : Type} : Lit × DataW H → Nat
  | (.string bytes, d) => bytes.length + uptoBulk d + 1
  | (_, d) => uptoBulk d + 1
 end
def uptoSmall : (H : Type) → List (DataW H) → Bool := fun _ ds => decide (uptoBulkAll ds ≤ 1048576)
def OpenSpec.upto (s : _root_.Go.ChangeSpec) : _root_.Go.OpenSpec := { _root_.Go.OpenSpec.ofChange s with cond := some uptoSmall }

/-- 'confluencelaw09.ChainPuts', WHERE WHAT IT READS IS OF BULK AT MOST 1048576: true; the input reads as it did. -/
def chainPutsUptoRow : OpenClaim := { program := "ytbmaaonjohcgbaa", sum := "0e0a350d550eb008e86b0c76c3b94c67c0cf4ca3f594dd73ad612699255e9cf4", func := "confluence/confluencelaw09.ChainPuts", spec := "chainPuts", unfollowed := true, recurses := true, apart := false, narrowed := true }
def ChainPutsUptoSaid : Prop := chainPutsUptoRow.holds Try.pinned (OpenSpec.upto chainPutsSpec)

/-- 'confluencelaw09.ChainSees', WHERE WHAT IT READS IS OF BULK AT MOST 1048576: true; the input reads as it did. -/
def chainSeesUptoRow : OpenClaim := { program := "ytbmaaonjohcgbaa", sum := "0e0a350d550eb008e86b0c76c3b94c67c0cf4ca3f594dd73ad612699255e9cf4", func := "confluence/confluencelaw09.ChainSees", spec := "chainSees", apart := false, narrowed := true }
def ChainSeesUptoSaid : Prop := chainSeesUptoRow.holds Try.pinned (OpenSpec.upto chainSeesSpec)

/-- 'confluencelaw09.ChainTrims', WHERE WHAT IT READS IS OF BULK AT MOST 1048576: true; the input reads as it did. -/
def chainTrimsUptoRow : OpenClaim := { program := "ytbmaaonjohcgbaa", sum := "0e0a350d550eb008e86b0c76c3b94c67c0cf4ca3f594dd73ad612699255e9cf4", func := "confluence/confluencelaw09.ChainTrims", spec := "chainTrims", apart := false, narrowed := true }
def ChainTrimsUptoSaid : Prop := chainTrimsUptoRow.holds Try.pinned (OpenSpec.upto chainTrimsSpec)

/-- 'confluencelaw09.ChainJoins', WHERE WHAT IT READS IS OF BULK AT MOST 1048576: true; the input reads as it did. -/
def chainJoinsUptoRow : OpenClaim := { program := "ytbmaaonjohcgbaa", sum := "0e0a350d550eb008e86b0c76c3b94c67c0cf4ca3f594dd73ad612699255e9cf4", func := "confluence/confluencelaw09.ChainJoins", spec := "chainJoins", inPlace := ["slices.overlaps[confluence/api.Ver]"], unfollowed := true, recurses := true, apart := false, narrowed := true }
def ChainJoinsUptoSaid : Prop := chainJoinsUptoRow.holds Try.pinned (OpenSpec.upto chainJoinsSpec)

/-- 'confluencelaw09.ChainOrder', WHERE WHAT IT READS IS OF BULK AT MOST 1048576: true; the input reads as it did. -/
def chainOrderUptoRow : OpenClaim := { program := "ytbmaaonjohcgbaa", sum := "0e0a350d550eb008e86b0c76c3b94c67c0cf4ca3f594dd73ad612699255e9cf4", func := "confluence/confluencelaw09.ChainOrder", spec := "chainOrder", unfollowed := true, recurses := true, apart := false, narrowed := true }
def ChainOrderUptoSaid : Prop := chainOrderUptoRow.holds Try.pinned (OpenSpec.upto chainOrderSpec)

/-- 'confluencelaw09.ChainLater', WHERE WHAT IT READS IS OF BULK AT MOST 1048576: true; the input reads as it did. -/
def chainLaterUptoRow : OpenClaim := { program := "ytbmaaonjohcgbaa", sum := "0e0a350d550eb008e86b0c76c3b94c67c0cf4ca3f594dd73ad612699255e9cf4", func := "confluence/confluencelaw09.ChainLater", spec := "chainLater", unfollowed := true, recurses := true, apart := false, narrowed := true }
def ChainLaterUptoSaid : Prop := chainLaterUptoRow.holds Try.pinned (OpenSpec.upto chainLaterSpec)

/-- 'confluencelaw09.ChainFloors', WHERE WHAT IT READS IS OF BULK AT MOST 1048576: true; the input reads as it did. -/
def chainFloorsUptoRow : OpenClaim := { program := "ytbmaaonjohcgbaa", sum := "0e0a350d550eb008e86b0c76c3b94c67c0cf4ca3f594dd73ad612699255e9cf4", func := "confluence/confluencelaw09.ChainFloors", spec := "chainFloors", apart := false, narrowed := true }
def ChainFloorsUptoSaid : Prop := chainFloorsUptoRow.holds Try.pinned (OpenSpec.upto chainFloorsSpec)

/-- 'confluencelaw09.ChainBoth', WHERE WHAT IT READS IS OF BULK AT MOST 1048576: true; the input reads as it did. -/
def chainBothUptoRow : OpenClaim := { program := "ytbmaaonjohcgbaa", sum := "0e0a350d550eb008e86b0c76c3b94c67c0cf4ca3f594dd73ad612699255e9cf4", func := "confluence/confluencelaw09.ChainBoth", spec := "chainBoth", inPlace := ["slices.overlaps[confluence/api.Ver]"], unfollowed := true, recurses := true, apart := false, narrowed := true }
def ChainBothUptoSaid : Prop := chainBothUptoRow.holds Try.pinned (OpenSpec.upto chainBothSpec)

/-- 'confluencelaw09.ChainOwns', WHERE WHAT IT READS IS OF BULK AT MOST 1048576: true; the input reads as it did. -/
def chainOwnsUptoRow : OpenClaim := { program := "ytbmaaonjohcgbaa", sum := "0e0a350d550eb008e86b0c76c3b94c67c0cf4ca3f594dd73ad612699255e9cf4", func := "confluence/confluencelaw09.ChainOwns", spec := "chainOwns", inPlace := ["slices.overlaps[confluence/api.Ver]"], unfollowed := true, recurses := true, apart := false, narrowed := true }
def ChainOwnsUptoSaid : Prop := chainOwnsUptoRow.holds Try.pinned (OpenSpec.upto chainOwnsSpec)

end Rows
end Go.Proofs.Ytbmaaonjohcgbaa
