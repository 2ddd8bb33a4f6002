/-
  No cell of these rows narrows 'for every input' (looked for: loops, veiled, ifaces, maps, wideKeys, modest, calm, conditions, laid).
  DERIVED. THE GIVEN ROWS OF THIS SEAT. 5 by the template 'for every input the law returns true; each argument reads behind the call as it read before'; 0 by the template 'total and deterministic' (their statements: YtnicomhodnfggaaTotals.lean).
  GIVEN WITH THE SEED: the statements are not yours to turn. If you find one false, say at which input.
  Laid BY PROGRAM, IN A SANDBOX (cutbox-rows.mjs): the forced cells as the released guide's own fill.sh prints them over the translation 2cd18373e9877b66… (all of the seat's roots in one cut). By AI agents, Wed Nov 11 2026. No macro, syntax, notation, axiom, sorry.
-/
import Derived.Test.YtnicomhodnfggaaChecked
import GoSem.Claim
import GoSem.ClaimJoined
import GoSem.ClaimMapViews
import Derived.JoinedTies
import Derived.KernelRfl
namespace Go.Proofs.Ytnicomhodnfggaa
/- THE CELL 'sum', in the pinned program and in every row, IS THE sha256 OF THE DUMP (.gsa) THAT YtnicomhodnfggaaProg.lean LOADS. Nothing in Lean hashes anything: it is a label: what it is worth is what the hold of that sum in a sandbox is worth. -/
noncomputable def Try.pinned : Pinned := { name := "ytnicomhodnfggaa", sum := "2cd18373e9877b662fdd3abe37704abc7efe0e984fa1603697e17d900f71b5ea", checked := Try.checked }
namespace Rows
def none {H : Type} : Left H := { results := [], args := [] }

/-- 'confluencelaw15.SessionPlays': WHATEVER THE INPUT: true; the input reads as it did. -/
def sessionPlaysSpec : ChangeSpec := { name := "sessionPlays", fn := fun _ => fun
  | [d] => { results := [.lit (.bool true)], args := [d] }
  | _ => none }
def sessionPlaysRow : OpenClaim := { program := "ytnicomhodnfggaa", sum := "2cd18373e9877b662fdd3abe37704abc7efe0e984fa1603697e17d900f71b5ea", func := "confluence/confluencelaw15.SessionPlays", spec := "sessionPlays", inPlace := ["internal/bytealg.abigen_runtime_cmpstring", "slices.overlaps[confluence/api.Ver]"], unfollowed := true, recurses := true, apart := false }
def SessionPlaysSaid : Prop := sessionPlaysRow.holds Try.pinned (OpenSpec.ofChange sessionPlaysSpec)

/-- ITS FALSE NEIGHBOUR: 'it returns false'. Refute it at one input. -/
def sessionPlaysWrong : ChangeSpec := { name := "sessionPlays", fn := fun _ => fun
  | [d] => { results := [.lit (.bool false)], args := [d] }
  | _ => none }
def SessionPlaysWrongFalsely : Prop := sessionPlaysRow.holds Try.pinned (OpenSpec.ofChange sessionPlaysWrong)

/-- 'confluencelaw15.SessionRises': WHATEVER THE INPUT: true; the input reads as it did. -/
def sessionRisesSpec : ChangeSpec := { name := "sessionRises", fn := fun _ => fun
  | [d] => { results := [.lit (.bool true)], args := [d] }
  | _ => none }
def sessionRisesRow : OpenClaim := { program := "ytnicomhodnfggaa", sum := "2cd18373e9877b662fdd3abe37704abc7efe0e984fa1603697e17d900f71b5ea", func := "confluence/confluencelaw15.SessionRises", spec := "sessionRises", inPlace := ["internal/bytealg.abigen_runtime_cmpstring", "slices.overlaps[confluence/api.Ver]"], unfollowed := true, recurses := true, apart := false }
def SessionRisesSaid : Prop := sessionRisesRow.holds Try.pinned (OpenSpec.ofChange sessionRisesSpec)

/-- ITS FALSE NEIGHBOUR: 'it returns false'. Refute it at one input. -/
def sessionRisesWrong : ChangeSpec := { name := "sessionRises", fn := fun _ => fun
  | [d] => { results := [.lit (.bool false)], args := [d] }
  | _ => none }
def SessionRisesWrongFalsely : Prop := sessionRisesRow.holds Try.pinned (OpenSpec.ofChange sessionRisesWrong)

/-- 'confluencelaw15.SessionOwn': WHATEVER THE INPUT: true; the input reads as it did. -/
def sessionOwnSpec : ChangeSpec := { name := "sessionOwn", fn := fun _ => fun
  | [d1, d2] => { results := [.lit (.bool true)], args := [d1, d2] }
  | _ => none }
def sessionOwnRow : OpenClaim := { program := "ytnicomhodnfggaa", sum := "2cd18373e9877b662fdd3abe37704abc7efe0e984fa1603697e17d900f71b5ea", func := "confluence/confluencelaw15.SessionOwn", spec := "sessionOwn", inPlace := ["internal/bytealg.abigen_runtime_cmpstring", "slices.overlaps[confluence/api.Ver]"], unfollowed := true, recurses := true, apart := false }
def SessionOwnSaid : Prop := sessionOwnRow.holds Try.pinned (OpenSpec.ofChange sessionOwnSpec)

/-- ITS FALSE NEIGHBOUR: 'it returns false'. Refute it at one input. -/
def sessionOwnWrong : ChangeSpec := { name := "sessionOwn", fn := fun _ => fun
  | [d1, d2] => { results := [.lit (.bool false)], args := [d1, d2] }
  | _ => none }
def SessionOwnWrongFalsely : Prop := sessionOwnRow.holds Try.pinned (OpenSpec.ofChange sessionOwnWrong)

/-- 'confluencelaw15.SessionLast': WHATEVER THE INPUT: true; the input reads as it did. -/
def sessionLastSpec : ChangeSpec := { name := "sessionLast", fn := fun _ => fun
  | [d] => { results := [.lit (.bool true)], args := [d] }
  | _ => none }
def sessionLastRow : OpenClaim := { program := "ytnicomhodnfggaa", sum := "2cd18373e9877b662fdd3abe37704abc7efe0e984fa1603697e17d900f71b5ea", func := "confluence/confluencelaw15.SessionLast", spec := "sessionLast", inPlace := ["internal/bytealg.abigen_runtime_cmpstring", "slices.overlaps[confluence/api.Ver]"], unfollowed := true, recurses := true, apart := false }
def SessionLastSaid : Prop := sessionLastRow.holds Try.pinned (OpenSpec.ofChange sessionLastSpec)

/-- ITS FALSE NEIGHBOUR: 'it returns false'. Refute it at one input. -/
def sessionLastWrong : ChangeSpec := { name := "sessionLast", fn := fun _ => fun
  | [d] => { results := [.lit (.bool false)], args := [d] }
  | _ => none }
def SessionLastWrongFalsely : Prop := sessionLastRow.holds Try.pinned (OpenSpec.ofChange sessionLastWrong)

/-- 'confluencelaw15.SessionNone': WHATEVER THE INPUT: true; the input reads as it did. -/
def sessionNoneSpec : ChangeSpec := { name := "sessionNone", fn := fun _ => fun
  | [d] => { results := [.lit (.bool true)], args := [d] }
  | _ => none }
def sessionNoneRow : OpenClaim := { program := "ytnicomhodnfggaa", sum := "2cd18373e9877b662fdd3abe37704abc7efe0e984fa1603697e17d900f71b5ea", func := "confluence/confluencelaw15.SessionNone", spec := "sessionNone", inPlace := ["internal/bytealg.abigen_runtime_cmpstring", "slices.overlaps[confluence/api.Ver]"], unfollowed := true, recurses := true, apart := false }
def SessionNoneSaid : Prop := sessionNoneRow.holds Try.pinned (OpenSpec.ofChange sessionNoneSpec)

/-- ITS FALSE NEIGHBOUR: 'it returns false'. Refute it at one input. -/
def sessionNoneWrong : ChangeSpec := { name := "sessionNone", fn := fun _ => fun
  | [d] => { results := [.lit (.bool false)], args := [d] }
  | _ => none }
def SessionNoneWrongFalsely : Prop := sessionNoneRow.holds Try.pinned (OpenSpec.ofChange sessionNoneWrong)

/- THE SECOND FORM. 'bulk': how many values and letters a reading holds, each counted each time it is reached (what is shared counts as often as it is met; a slice's spare places count too). A statement '..UptoSaid' is the law's where the arguments, and the package variables that the reading takes, are together of bulk at most 1048576: NARROWER than '..Said'. Prove '..Said' where nothing that the law and all that it calls make is longer than what came in: it says more and counts as full. Else prove '..UptoSaid'. A law counts once. -/
mutual
def uptoBulk {H : Type} : DataW H → Nat
  | .lit (.string bytes) => bytes.length + 1
  | .lit _ => 1
  | .nil => 1
  | .ptr d => uptoBulk d + 1
  | .slice elems spare => uptoBulkAll elems + uptoBulkAll spare + 1
  | .agg parts => uptoBulkAll parts + 1
  | .iface _ d => uptoBulk d + 1
  | .map entries => uptoBulkEntries entries + 1
  | .held _ => 1
def uptoBulkAll {H : Type} : List (DataW H) → Nat
  | [] => 0
  | d :: r => uptoBulk d + uptoBulkAll r
def uptoBulkEntries {H : Type} : List (Lit × DataW H) → Nat
  | [] => 0
  | x :: r => uptoBulkEntry x + uptoBulkEntries r
def uptoBulkEntry {H : Type} : Lit × DataW H → Nat
  | (.string bytes, d) => bytes.length + uptoBulk d + 1
  | (_, d) => uptoBulk d + 1
 end
def uptoSmall : (H : Type) → List (DataW H) → Bool := fun _ ds => decide (uptoBulkAll ds ≤ 1048576)
def OpenSpec.upto (s : _root_.Go.ChangeSpec) : _root_.Go.OpenSpec := { _root_.Go.OpenSpec.ofChange s with cond := some uptoSmall }

/-- 'confluencelaw15.SessionPlays', WHERE WHAT IT READS IS OF BULK AT MOST 1048576: true; the input reads as it did. -/
def sessionPlaysUptoRow : OpenClaim := { program := "ytnicomhodnfggaa", sum := "2cd18373e9877b662fdd3abe37704abc7efe0e984fa1603697e17d900f71b5ea", func := "confluence/confluencelaw15.SessionPlays", spec := "sessionPlays", inPlace := ["internal/bytealg.abigen_runtime_cmpstring", "slices.overlaps[confluence/api.Ver]"], unfollowed := true, recurses := true, apart := false, narrowed := true }
def SessionPlaysUptoSaid : Prop := sessionPlaysUptoRow.holds Try.pinned (OpenSpec.upto sessionPlaysSpec)

/-- 'confluencelaw15.SessionRises', WHERE WHAT IT READS IS OF BULK AT MOST 1048576: true; the input reads as it did. -/
def sessionRisesUptoRow : OpenClaim := { program := "ytnicomhodnfggaa", sum := "2cd18373e9877b662fdd3abe37704abc7efe0e984fa1603697e17d900f71b5ea", func := "confluence/confluencelaw15.SessionRises", spec := "sessionRises", inPlace := ["internal/bytealg.abigen_runtime_cmpstring", "slices.overlaps[confluence/api.Ver]"], unfollowed := true, recurses := true, apart := false, narrowed := true }
def SessionRisesUptoSaid : Prop := sessionRisesUptoRow.holds Try.pinned (OpenSpec.upto sessionRisesSpec)

/-- 'confluencelaw15.SessionOwn', WHERE WHAT IT READS IS OF BULK AT MOST 1048576: true; the input reads as it did. -/
def sessionOwnUptoRow : OpenClaim := { program := "ytnicomhodnfggaa", sum := "2cd18373e9877b662fdd3abe37704abc7efe0e984fa1603697e17d900f71b5ea", func := "confluence/confluencelaw15.SessionOwn", spec := "sessionOwn", inPlace := ["internal/bytealg.abigen_runtime_cmpstring", "slices.overlaps[confluence/api.Ver]"], unfollowed := true, recurses := true, apart := false, narrowed := true }
def SessionOwnUptoSaid : Prop := sessionOwnUptoRow.holds Try.pinned (OpenSpec.upto sessionOwnSpec)

/-- 'confluencelaw15.SessionLast', WHERE WHAT IT READS IS OF BULK AT MOST 1048576: true; the input reads as it did. -/
def sessionLastUptoRow : OpenClaim := { program := "ytnicomhodnfggaa", sum := "2cd18373e9877b662fdd3abe37704abc7efe0e984fa1603697e17d900f71b5ea", func := "confluence/confluencelaw15.SessionLast", spec := "sessionLast", inPlace := ["internal/bytealg.abigen_runtime_cmpstring", "slices.overlaps[confluence/api.Ver]"], unfollowed := true, recurses := true, apart := false, narrowed := true }
def SessionLastUptoSaid : Prop := sessionLastUptoRow.holds Try.pinned (OpenSpec.upto sessionLastSpec)

/-- 'confluencelaw15.SessionNone', WHERE WHAT IT READS IS OF BULK AT MOST 1048576: true; the input reads as it did. -/
def sessionNoneUptoRow : OpenClaim := { program := "ytnicomhodnfggaa", sum := "2cd18373e9877b662fdd3abe37704abc7efe0e984fa1603697e17d900f71b5ea", func := "confluence/confluencelaw15.SessionNone", spec := "sessionNone", inPlace := ["internal/bytealg.abigen_runtime_cmpstring", "slices.overlaps[confluence/api.Ver]"], unfollowed := true, recurses := true, apart := false, narrowed := true }
def SessionNoneUptoSaid : Prop := sessionNoneUptoRow.holds Try.pinned (OpenSpec.upto sessionNoneSpec)

end Rows
end Go.Proofs.Ytnicomhodnfggaa
