/-
  No cell of these rows narrows 'for every input' (looked for: loops, veiled, ifaces, maps, wideKeys, modest, calm, conditions, laid).
  DERIVED. THE GIVEN ROWS OF THIS SEAT. 5 by the template 'for every input the law returns true; each argument reads behind the call as it read before'; 0 by the template 'total and deterministic' (their statements: YtbimhhcmfhooaaaTotals.lean).
  GIVEN WITH THE SEED: the statements are not yours to turn. If you find one false, say at which input.
  Laid BY PROGRAM, IN A SANDBOX (cutbox-rows.mjs): the forced cells as the released guide's own fill.sh prints them over the translation 4fd37d9e0397813e… (all of the seat's roots in one cut). By AI agents, Wed Nov 11 2026. No macro, syntax, notation, axiom, sorry.
-/
import Derived.Test.YtbimhhcmfhooaaaChecked
import GoSem.Claim
import GoSem.ClaimJoined
import GoSem.ClaimMapViews
import Derived.JoinedTies
import Derived.KernelRfl
namespace Go.Proofs.Ytbimhhcmfhooaaa
/- THE CELL 'sum', in the pinned program and in every row, IS THE sha256 OF THE DUMP (.gsa) THAT YtbimhhcmfhooaaaProg.lean LOADS. Nothing in Lean hashes anything: it is a label: what it is worth is what the hold of that sum in a sandbox is worth. -/
noncomputable def Try.pinned : Pinned := { name := "ytbimhhcmfhooaaa", sum := "4fd37d9e0397813e4e32d95df0d569c75ff57c9b90facb94a9a006ec4580a32d", checked := Try.checked }
namespace Rows
def none {H : Type} : Left H := { results := [], args := [] }

/-- 'repriselaw7.VtTells': WHATEVER THE INPUT: true; the input reads as it did. -/
def vtTellsSpec : ChangeSpec := { name := "vtTells", fn := fun _ => fun
  | [d1, d2, d3, d4, d5, d6] => { results := [.lit (.bool true)], args := [d1, d2, d3, d4, d5, d6] }
  | _ => none }
def vtTellsRow : OpenClaim := { program := "ytbimhhcmfhooaaa", sum := "4fd37d9e0397813e4e32d95df0d569c75ff57c9b90facb94a9a006ec4580a32d", func := "reprise/repriselaw7.VtTells", spec := "vtTells", unfollowed := true, recurses := true, apart := false }
def VtTellsSaid : Prop := vtTellsRow.holds Try.pinned (OpenSpec.ofChange vtTellsSpec)

/-- ITS FALSE NEIGHBOUR: 'it returns false'. Refute it at one input. -/
def vtTellsWrong : ChangeSpec := { name := "vtTells", fn := fun _ => fun
  | [d1, d2, d3, d4, d5, d6] => { results := [.lit (.bool false)], args := [d1, d2, d3, d4, d5, d6] }
  | _ => none }
def VtTellsWrongFalsely : Prop := vtTellsRow.holds Try.pinned (OpenSpec.ofChange vtTellsWrong)

/-- 'repriselaw7.VtParts': WHATEVER THE INPUT: true; the input reads as it did. -/
def vtPartsSpec : ChangeSpec := { name := "vtParts", fn := fun _ => fun
  | [d1, d2] => { results := [.lit (.bool true)], args := [d1, d2] }
  | _ => none }
def vtPartsRow : OpenClaim := { program := "ytbimhhcmfhooaaa", sum := "4fd37d9e0397813e4e32d95df0d569c75ff57c9b90facb94a9a006ec4580a32d", func := "reprise/repriselaw7.VtParts", spec := "vtParts", unfollowed := true, recurses := true, apart := false }
def VtPartsSaid : Prop := vtPartsRow.holds Try.pinned (OpenSpec.ofChange vtPartsSpec)

/-- ITS FALSE NEIGHBOUR: 'it returns false'. Refute it at one input. -/
def vtPartsWrong : ChangeSpec := { name := "vtParts", fn := fun _ => fun
  | [d1, d2] => { results := [.lit (.bool false)], args := [d1, d2] }
  | _ => none }
def VtPartsWrongFalsely : Prop := vtPartsRow.holds Try.pinned (OpenSpec.ofChange vtPartsWrong)

/-- 'repriselaw7.VtEnds': WHATEVER THE INPUT: true; the input reads as it did. -/
def vtEndsSpec : ChangeSpec := { name := "vtEnds", fn := fun _ => fun
  | [d1, d2, d3] => { results := [.lit (.bool true)], args := [d1, d2, d3] }
  | _ => none }
def vtEndsRow : OpenClaim := { program := "ytbimhhcmfhooaaa", sum := "4fd37d9e0397813e4e32d95df0d569c75ff57c9b90facb94a9a006ec4580a32d", func := "reprise/repriselaw7.VtEnds", spec := "vtEnds", unfollowed := true, recurses := true, apart := false }
def VtEndsSaid : Prop := vtEndsRow.holds Try.pinned (OpenSpec.ofChange vtEndsSpec)

/-- ITS FALSE NEIGHBOUR: 'it returns false'. Refute it at one input. -/
def vtEndsWrong : ChangeSpec := { name := "vtEnds", fn := fun _ => fun
  | [d1, d2, d3] => { results := [.lit (.bool false)], args := [d1, d2, d3] }
  | _ => none }
def VtEndsWrongFalsely : Prop := vtEndsRow.holds Try.pinned (OpenSpec.ofChange vtEndsWrong)

/-- 'repriselaw7.VtParams': WHATEVER THE INPUT: true; the input reads as it did. -/
def vtParamsSpec : ChangeSpec := { name := "vtParams", fn := fun _ => fun
  | [d1, d2, d3] => { results := [.lit (.bool true)], args := [d1, d2, d3] }
  | _ => none }
def vtParamsRow : OpenClaim := { program := "ytbimhhcmfhooaaa", sum := "4fd37d9e0397813e4e32d95df0d569c75ff57c9b90facb94a9a006ec4580a32d", func := "reprise/repriselaw7.VtParams", spec := "vtParams", unfollowed := true, recurses := true, apart := false }
def VtParamsSaid : Prop := vtParamsRow.holds Try.pinned (OpenSpec.ofChange vtParamsSpec)

/-- ITS FALSE NEIGHBOUR: 'it returns false'. Refute it at one input. -/
def vtParamsWrong : ChangeSpec := { name := "vtParams", fn := fun _ => fun
  | [d1, d2, d3] => { results := [.lit (.bool false)], args := [d1, d2, d3] }
  | _ => none }
def VtParamsWrongFalsely : Prop := vtParamsRow.holds Try.pinned (OpenSpec.ofChange vtParamsWrong)

/-- 'repriselaw7.VtStrings': WHATEVER THE INPUT: true; the input reads as it did. -/
def vtStringsSpec : ChangeSpec := { name := "vtStrings", fn := fun _ => fun
  | [d1, d2, d3] => { results := [.lit (.bool true)], args := [d1, d2, d3] }
  | _ => none }
def vtStringsRow : OpenClaim := { program := "ytbimhhcmfhooaaa", sum := "4fd37d9e0397813e4e32d95df0d569c75ff57c9b90facb94a9a006ec4580a32d", func := "reprise/repriselaw7.VtStrings", spec := "vtStrings", unfollowed := true, recurses := true, apart := false }
def VtStringsSaid : Prop := vtStringsRow.holds Try.pinned (OpenSpec.ofChange vtStringsSpec)

/-- ITS FALSE NEIGHBOUR: 'it returns false'. Refute it at one input. -/
def vtStringsWrong : ChangeSpec := { name := "vtStrings", fn := fun _ => fun
  | [d1, d2, d3] => { results := [.lit (.bool false)], args := [d1, d2, d3] }
  | _ => none }
def VtStringsWrongFalsely : Prop := vtStringsRow.holds Try.pinned (OpenSpec.ofChange vtStringsWrong)

/- THE SECOND FORM. 'bulk': how many values and letters a reading holds, each counted each time it is reached (what is shared counts as often as it is met; a slice's spare places count too). A statement '..UptoSaid' is the law's where the arguments, and the package variables that the reading takes, are together of bulk at most 1048576: NARROWER than '..Said'. Prove '..Said' where nothing that the law and all that it calls make is longer than what came in: it says more and counts as full. Else prove '..UptoSaid'. A law counts once. -/
mutual
def uptoBulk {H : Type} : DataW H → Nat
  | .lit (.string bytes) => bytes.length + 1
  | .lit _ => 1
  | .nil => 1
  | .ptr d => uptoBulk d + 1
  | .slice elems spare => uptoBulkAll elems + uptoBulkAll spare + 1
  | .agg parts => uptoBulkAll parts + 1
  | .iface _ d => uptoBulk d + 1
  | .map entries => uptoBulkEntries entries + 1
  | .held _ => 1
def uptoBulkAll {H : Type} : List (DataW H) → Nat
  | [] => 0
  | d :: r => uptoBulk d + uptoBulkAll r
def uptoBulkEntries {H : Type} : List (Lit × DataW H) → Nat
  | [] => 0
  | x :: r => uptoBulkEntry x + uptoBulkEntries r
def uptoBulkEntry {H : Type} : Lit × DataW H → Nat
  | (.string bytes, d) => bytes.length + uptoBulk d + 1
  | (_, d) => uptoBulk d + 1
 end
def uptoSmall : (H : Type) → List (DataW H) → Bool := fun _ ds => decide (uptoBulkAll ds ≤ 1048576)
def OpenSpec.upto (s : _root_.Go.ChangeSpec) : _root_.Go.OpenSpec := { _root_.Go.OpenSpec.ofChange s with cond := some uptoSmall }

/-- 'repriselaw7.VtTells', WHERE WHAT IT READS IS OF BULK AT MOST 1048576: true; the input reads as it did. -/
def vtTellsUptoRow : OpenClaim := { program := "ytbimhhcmfhooaaa", sum := "4fd37d9e0397813e4e32d95df0d569c75ff57c9b90facb94a9a006ec4580a32d", func := "reprise/repriselaw7.VtTells", spec := "vtTells", unfollowed := true, recurses := true, apart := false, narrowed := true }
def VtTellsUptoSaid : Prop := vtTellsUptoRow.holds Try.pinned (OpenSpec.upto vtTellsSpec)

/-- 'repriselaw7.VtParts', WHERE WHAT IT READS IS OF BULK AT MOST 1048576: true; the input reads as it did. -/
def vtPartsUptoRow : OpenClaim := { program := "ytbimhhcmfhooaaa", sum := "4fd37d9e0397813e4e32d95df0d569c75ff57c9b90facb94a9a006ec4580a32d", func := "reprise/repriselaw7.VtParts", spec := "vtParts", unfollowed := true, recurses := true, apart := false, narrowed := true }
def VtPartsUptoSaid : Prop := vtPartsUptoRow.holds Try.pinned (OpenSpec.upto vtPartsSpec)

/-- 'repriselaw7.VtEnds', WHERE WHAT IT READS IS OF BULK AT MOST 1048576: true; the input reads as it did. -/
def vtEndsUptoRow : OpenClaim := { program := "ytbimhhcmfhooaaa", sum := "4fd37d9e0397813e4e32d95df0d569c75ff57c9b90facb94a9a006ec4580a32d", func := "reprise/repriselaw7.VtEnds", spec := "vtEnds", unfollowed := true, recurses := true, apart := false, narrowed := true }
def VtEndsUptoSaid : Prop := vtEndsUptoRow.holds Try.pinned (OpenSpec.upto vtEndsSpec)

/-- 'repriselaw7.VtParams', WHERE WHAT IT READS IS OF BULK AT MOST 1048576: true; the input reads as it did. -/
def vtParamsUptoRow : OpenClaim := { program := "ytbimhhcmfhooaaa", sum := "4fd37d9e0397813e4e32d95df0d569c75ff57c9b90facb94a9a006ec4580a32d", func := "reprise/repriselaw7.VtParams", spec := "vtParams", unfollowed := true, recurses := true, apart := false, narrowed := true }
def VtParamsUptoSaid : Prop := vtParamsUptoRow.holds Try.pinned (OpenSpec.upto vtParamsSpec)

/-- 'repriselaw7.VtStrings', WHERE WHAT IT READS IS OF BULK AT MOST 1048576: true; the input reads as it did. -/
def vtStringsUptoRow : OpenClaim := { program := "ytbimhhcmfhooaaa", sum := "4fd37d9e0397813e4e32d95df0d569c75ff57c9b90facb94a9a006ec4580a32d", func := "reprise/repriselaw7.VtStrings", spec := "vtStrings", unfollowed := true, recurses := true, apart := false, narrowed := true }
def VtStringsUptoSaid : Prop := vtStringsUptoRow.holds Try.pinned (OpenSpec.upto vtStringsSpec)

end Rows
end Go.Proofs.Ytbimhhcmfhooaaa
