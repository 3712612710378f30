/-
  NARROWER THAN 'FOR EVERY INPUT', by the rows' own cells (each row's printed sentence says how): ScreenTells: laid · ScreenSizes: laid · ScreenRights: laid · ScreenWraps: laid · ScreenScrolls: laid · ScreenMoves: laid · ScreenAlts: laid · ScreenLooks: laid · ScreenParts: laid.
  DERIVED. THE GIVEN ROWS OF THIS SEAT. 9 by the template 'for every input the law returns true; each argument reads behind the call as it read before'; 0 by the template 'total and deterministic' (their statements: YtlolgfgcgfjdjaaGreatDoorTotals.lean).
  GIVEN WITH THE SEED: the statements are not yours to turn. If you find one false, say at which input.
  Laid BY PROGRAM, IN A SANDBOX (cutbox-rows.mjs): the forced cells as the released guide's own fill.sh prints them over the translation 901bf2f5952ffd83… (all of the seat's roots in one cut). By AI agents, Wed Nov 11 2026. No macro, syntax, notation, axiom, sorry.
-/
import Derived.Test.YtlolgfgcgfjdjaaGreatDoorChecked
import GoSem.Claim
import GoSem.ClaimJoined
import GoSem.ClaimMapViews
import Derived.JoinedTies
import Derived.KernelRfl
namespace Go.Proofs.YtlolgfgcgfjdjaaGreatDoor
/- THE CELL 'sum', in the pinned program and in every row, IS THE sha256 OF THE DUMP (.gsa) THAT YtlolgfgcgfjdjaaGreatDoorProg.lean LOADS. Nothing in Lean hashes anything: it is a label: what it is worth is what the hold of that sum in a sandbox is worth. -/
noncomputable def Tryz.pinned : Pinned := { name := "ytlolgfgcgfjdjaagreatdoor", sum := "901bf2f5952ffd834de4fc693ed549b4260fe3a62169915fa5912781d01a4451", checked := Tryz.checked }
namespace Rows
def none {H : Type} : Left H := { results := [], args := [] }

/- WHAT THE LISTED PACKAGE-LEVEL VARIABLES READ AS WHEN THE CALL BEGINS. Each datum BY PROGRAM (the guide's laid-datum.mjs) off the statement by which the dump's own 'gosem.cut.vars' lays the variable. In a bare row this is a premise. The card (YtlolgfgcgfjdjaaGreatDoorCards.lean) ties it to the program's text. -/
def laid_reprise_width_spans {H : Type} : DataW H := .agg [.agg [.lit (.int .i32 0), .lit (.int .i32 31), .lit (.int .i64 0)], .agg [.lit (.int .i32 127), .lit (.int .i32 159), .lit (.int .i64 0)], .agg [.lit (.int .i32 768), .lit (.int .i32 879), .lit (.int .i64 0)], .agg [.lit (.int .i32 4352), .lit (.int .i32 4447), .lit (.int .i64 2)], .agg [.lit (.int .i32 8203), .lit (.int .i32 8207), .lit (.int .i64 0)], .agg [.lit (.int .i32 11904), .lit (.int .i32 12350), .lit (.int .i64 2)], .agg [.lit (.int .i32 12353), .lit (.int .i32 13311), .lit (.int .i64 2)], .agg [.lit (.int .i32 13312), .lit (.int .i32 19903), .lit (.int .i64 2)], .agg [.lit (.int .i32 19968), .lit (.int .i32 40959), .lit (.int .i64 2)], .agg [.lit (.int .i32 40960), .lit (.int .i32 42191), .lit (.int .i64 2)], .agg [.lit (.int .i32 44032), .lit (.int .i32 55203), .lit (.int .i64 2)], .agg [.lit (.int .i32 63744), .lit (.int .i32 64255), .lit (.int .i64 2)], .agg [.lit (.int .i32 65024), .lit (.int .i32 65039), .lit (.int .i64 0)], .agg [.lit (.int .i32 65072), .lit (.int .i32 65135), .lit (.int .i64 2)], .agg [.lit (.int .i32 65280), .lit (.int .i32 65376), .lit (.int .i64 2)], .agg [.lit (.int .i32 65504), .lit (.int .i32 65510), .lit (.int .i64 2)], .agg [.lit (.int .i32 127744), .lit (.int .i32 128591), .lit (.int .i64 2)], .agg [.lit (.int .i32 129280), .lit (.int .i32 129535), .lit (.int .i64 2)], .agg [.lit (.int .i32 131072), .lit (.int .i32 196605), .lit (.int .i64 2)], .agg [.lit (.int .i32 196608), .lit (.int .i32 262141), .lit (.int .i64 2)]]

/-- 'repriselaw9.ScreenTells': WHATEVER THE INPUT: true; the input reads as it did. -/
def screenTellsSpec : ChangeSpec := { name := "screenTells", fn := fun _ => fun
  | [d1, d2, d3, d4, d5] => { results := [.lit (.bool true)], args := [d1, d2, d3, d4, d5] }
  | _ => none }
def screenTellsRow : OpenClaim := { program := "ytlolgfgcgfjdjaagreatdoor", sum := "901bf2f5952ffd834de4fc693ed549b4260fe3a62169915fa5912781d01a4451", func := "reprise/repriselaw9.ScreenTells", spec := "screenTells", unfollowed := true, recurses := true, named := ["reprise/width.spans"], apart := false, laid := [("reprise/width.spans", laid_reprise_width_spans)] }
def ScreenTellsSaid : Prop := screenTellsRow.holds Tryz.pinned (OpenSpec.ofChange screenTellsSpec)

/-- ITS FALSE NEIGHBOUR: 'it returns false'. Refute it at one input. -/
def screenTellsWrong : ChangeSpec := { name := "screenTells", fn := fun _ => fun
  | [d1, d2, d3, d4, d5] => { results := [.lit (.bool false)], args := [d1, d2, d3, d4, d5] }
  | _ => none }
def ScreenTellsWrongFalsely : Prop := screenTellsRow.holds Tryz.pinned (OpenSpec.ofChange screenTellsWrong)

/-- 'repriselaw9.ScreenSizes': WHATEVER THE INPUT: true; the input reads as it did. -/
def screenSizesSpec : ChangeSpec := { name := "screenSizes", fn := fun _ => fun
  | [d1, d2, d3, d4, d5, d6, d7] => { results := [.lit (.bool true)], args := [d1, d2, d3, d4, d5, d6, d7] }
  | _ => none }
def screenSizesRow : OpenClaim := { program := "ytlolgfgcgfjdjaagreatdoor", sum := "901bf2f5952ffd834de4fc693ed549b4260fe3a62169915fa5912781d01a4451", func := "reprise/repriselaw9.ScreenSizes", spec := "screenSizes", unfollowed := true, recurses := true, named := ["reprise/width.spans"], apart := false, laid := [("reprise/width.spans", laid_reprise_width_spans)] }
def ScreenSizesSaid : Prop := screenSizesRow.holds Tryz.pinned (OpenSpec.ofChange screenSizesSpec)

/-- ITS FALSE NEIGHBOUR: 'it returns false'. Refute it at one input. -/
def screenSizesWrong : ChangeSpec := { name := "screenSizes", fn := fun _ => fun
  | [d1, d2, d3, d4, d5, d6, d7] => { results := [.lit (.bool false)], args := [d1, d2, d3, d4, d5, d6, d7] }
  | _ => none }
def ScreenSizesWrongFalsely : Prop := screenSizesRow.holds Tryz.pinned (OpenSpec.ofChange screenSizesWrong)

/-- 'repriselaw9.ScreenRights': WHATEVER THE INPUT: true; the input reads as it did. -/
def screenRightsSpec : ChangeSpec := { name := "screenRights", fn := fun _ => fun
  | [d1, d2, d3, d4, d5, d6, d7] => { results := [.lit (.bool true)], args := [d1, d2, d3, d4, d5, d6, d7] }
  | _ => none }
def screenRightsRow : OpenClaim := { program := "ytlolgfgcgfjdjaagreatdoor", sum := "901bf2f5952ffd834de4fc693ed549b4260fe3a62169915fa5912781d01a4451", func := "reprise/repriselaw9.ScreenRights", spec := "screenRights", unfollowed := true, recurses := true, named := ["reprise/width.spans"], apart := false, laid := [("reprise/width.spans", laid_reprise_width_spans)] }
def ScreenRightsSaid : Prop := screenRightsRow.holds Tryz.pinned (OpenSpec.ofChange screenRightsSpec)

/-- ITS FALSE NEIGHBOUR: 'it returns false'. Refute it at one input. -/
def screenRightsWrong : ChangeSpec := { name := "screenRights", fn := fun _ => fun
  | [d1, d2, d3, d4, d5, d6, d7] => { results := [.lit (.bool false)], args := [d1, d2, d3, d4, d5, d6, d7] }
  | _ => none }
def ScreenRightsWrongFalsely : Prop := screenRightsRow.holds Tryz.pinned (OpenSpec.ofChange screenRightsWrong)

/-- 'repriselaw9.ScreenWraps': WHATEVER THE INPUT: true; the input reads as it did. -/
def screenWrapsSpec : ChangeSpec := { name := "screenWraps", fn := fun _ => fun
  | [d1, d2] => { results := [.lit (.bool true)], args := [d1, d2] }
  | _ => none }
def screenWrapsRow : OpenClaim := { program := "ytlolgfgcgfjdjaagreatdoor", sum := "901bf2f5952ffd834de4fc693ed549b4260fe3a62169915fa5912781d01a4451", func := "reprise/repriselaw9.ScreenWraps", spec := "screenWraps", unfollowed := true, recurses := true, named := ["reprise/width.spans"], apart := false, laid := [("reprise/width.spans", laid_reprise_width_spans)] }
def ScreenWrapsSaid : Prop := screenWrapsRow.holds Tryz.pinned (OpenSpec.ofChange screenWrapsSpec)

/-- ITS FALSE NEIGHBOUR: 'it returns false'. Refute it at one input. -/
def screenWrapsWrong : ChangeSpec := { name := "screenWraps", fn := fun _ => fun
  | [d1, d2] => { results := [.lit (.bool false)], args := [d1, d2] }
  | _ => none }
def ScreenWrapsWrongFalsely : Prop := screenWrapsRow.holds Tryz.pinned (OpenSpec.ofChange screenWrapsWrong)

/-- 'repriselaw9.ScreenScrolls': WHATEVER THE INPUT: true; the input reads as it did. -/
def screenScrollsSpec : ChangeSpec := { name := "screenScrolls", fn := fun _ => fun
  | [d1, d2, d3] => { results := [.lit (.bool true)], args := [d1, d2, d3] }
  | _ => none }
def screenScrollsRow : OpenClaim := { program := "ytlolgfgcgfjdjaagreatdoor", sum := "901bf2f5952ffd834de4fc693ed549b4260fe3a62169915fa5912781d01a4451", func := "reprise/repriselaw9.ScreenScrolls", spec := "screenScrolls", unfollowed := true, recurses := true, named := ["reprise/width.spans"], apart := false, laid := [("reprise/width.spans", laid_reprise_width_spans)] }
def ScreenScrollsSaid : Prop := screenScrollsRow.holds Tryz.pinned (OpenSpec.ofChange screenScrollsSpec)

/-- ITS FALSE NEIGHBOUR: 'it returns false'. Refute it at one input. -/
def screenScrollsWrong : ChangeSpec := { name := "screenScrolls", fn := fun _ => fun
  | [d1, d2, d3] => { results := [.lit (.bool false)], args := [d1, d2, d3] }
  | _ => none }
def ScreenScrollsWrongFalsely : Prop := screenScrollsRow.holds Tryz.pinned (OpenSpec.ofChange screenScrollsWrong)

/-- 'repriselaw9.ScreenMoves': WHATEVER THE INPUT: true; the input reads as it did. -/
def screenMovesSpec : ChangeSpec := { name := "screenMoves", fn := fun _ => fun
  | [d1, d2, d3] => { results := [.lit (.bool true)], args := [d1, d2, d3] }
  | _ => none }
def screenMovesRow : OpenClaim := { program := "ytlolgfgcgfjdjaagreatdoor", sum := "901bf2f5952ffd834de4fc693ed549b4260fe3a62169915fa5912781d01a4451", func := "reprise/repriselaw9.ScreenMoves", spec := "screenMoves", unfollowed := true, recurses := true, named := ["reprise/width.spans"], apart := false, laid := [("reprise/width.spans", laid_reprise_width_spans)] }
def ScreenMovesSaid : Prop := screenMovesRow.holds Tryz.pinned (OpenSpec.ofChange screenMovesSpec)

/-- ITS FALSE NEIGHBOUR: 'it returns false'. Refute it at one input. -/
def screenMovesWrong : ChangeSpec := { name := "screenMoves", fn := fun _ => fun
  | [d1, d2, d3] => { results := [.lit (.bool false)], args := [d1, d2, d3] }
  | _ => none }
def ScreenMovesWrongFalsely : Prop := screenMovesRow.holds Tryz.pinned (OpenSpec.ofChange screenMovesWrong)

/-- 'repriselaw9.ScreenAlts': WHATEVER THE INPUT: true; the input reads as it did. -/
def screenAltsSpec : ChangeSpec := { name := "screenAlts", fn := fun _ => fun
  | [d1, d2, d3, d4] => { results := [.lit (.bool true)], args := [d1, d2, d3, d4] }
  | _ => none }
def screenAltsRow : OpenClaim := { program := "ytlolgfgcgfjdjaagreatdoor", sum := "901bf2f5952ffd834de4fc693ed549b4260fe3a62169915fa5912781d01a4451", func := "reprise/repriselaw9.ScreenAlts", spec := "screenAlts", unfollowed := true, recurses := true, named := ["reprise/width.spans"], apart := false, laid := [("reprise/width.spans", laid_reprise_width_spans)] }
def ScreenAltsSaid : Prop := screenAltsRow.holds Tryz.pinned (OpenSpec.ofChange screenAltsSpec)

/-- ITS FALSE NEIGHBOUR: 'it returns false'. Refute it at one input. -/
def screenAltsWrong : ChangeSpec := { name := "screenAlts", fn := fun _ => fun
  | [d1, d2, d3, d4] => { results := [.lit (.bool false)], args := [d1, d2, d3, d4] }
  | _ => none }
def ScreenAltsWrongFalsely : Prop := screenAltsRow.holds Tryz.pinned (OpenSpec.ofChange screenAltsWrong)

/-- 'repriselaw9.ScreenLooks': WHATEVER THE INPUT: true; the input reads as it did. -/
def screenLooksSpec : ChangeSpec := { name := "screenLooks", fn := fun _ => fun
  | [d] => { results := [.lit (.bool true)], args := [d] }
  | _ => none }
def screenLooksRow : OpenClaim := { program := "ytlolgfgcgfjdjaagreatdoor", sum := "901bf2f5952ffd834de4fc693ed549b4260fe3a62169915fa5912781d01a4451", func := "reprise/repriselaw9.ScreenLooks", spec := "screenLooks", unfollowed := true, recurses := true, named := ["reprise/width.spans"], apart := false, laid := [("reprise/width.spans", laid_reprise_width_spans)] }
def ScreenLooksSaid : Prop := screenLooksRow.holds Tryz.pinned (OpenSpec.ofChange screenLooksSpec)

/-- ITS FALSE NEIGHBOUR: 'it returns false'. Refute it at one input. -/
def screenLooksWrong : ChangeSpec := { name := "screenLooks", fn := fun _ => fun
  | [d] => { results := [.lit (.bool false)], args := [d] }
  | _ => none }
def ScreenLooksWrongFalsely : Prop := screenLooksRow.holds Tryz.pinned (OpenSpec.ofChange screenLooksWrong)

/-- 'repriselaw9.ScreenParts': WHATEVER THE INPUT: true; the input reads as it did. -/
def screenPartsSpec : ChangeSpec := { name := "screenParts", fn := fun _ => fun
  | [d1, d2, d3, d4, d5] => { results := [.lit (.bool true)], args := [d1, d2, d3, d4, d5] }
  | _ => none }
def screenPartsRow : OpenClaim := { program := "ytlolgfgcgfjdjaagreatdoor", sum := "901bf2f5952ffd834de4fc693ed549b4260fe3a62169915fa5912781d01a4451", func := "reprise/repriselaw9.ScreenParts", spec := "screenParts", unfollowed := true, recurses := true, named := ["reprise/width.spans"], apart := false, laid := [("reprise/width.spans", laid_reprise_width_spans)] }
def ScreenPartsSaid : Prop := screenPartsRow.holds Tryz.pinned (OpenSpec.ofChange screenPartsSpec)

/-- ITS FALSE NEIGHBOUR: 'it returns false'. Refute it at one input. -/
def screenPartsWrong : ChangeSpec := { name := "screenParts", fn := fun _ => fun
  | [d1, d2, d3, d4, d5] => { results := [.lit (.bool false)], args := [d1, d2, d3, d4, d5] }
  | _ => none }
def ScreenPartsWrongFalsely : Prop := screenPartsRow.holds Tryz.pinned (OpenSpec.ofChange screenPartsWrong)

/- THE SECOND FORM. 'bulk': how many values and letters a reading holds, each counted each time it is reached (what is shared counts as often as it is met; a slice's spare places count too). A statement '..UptoSaid' is the law's where the arguments, and the package variables that the reading takes, are together of bulk at most 1048576: NARROWER than '..Said'. Prove '..Said' where nothing that the law and all that it calls make is longer than what came in: it says more and counts as full. Else prove '..UptoSaid'. A law counts once. -/
mutual
def uptoBulk {H : Type} : DataW H → Nat
  | .lit (.string bytes) => bytes.length + 1
  | .lit _ => 1
  | .nil => 1
  | .ptr d => uptoBulk d + 1
  | .slice elems spare => uptoBulkAll elems + uptoBulkAll spare + 1
  | .agg parts => uptoBulkAll parts + 1
  | .iface _ d => uptoBulk d + 1
  | .map entries => uptoBulkEntries entries + 1
  | .held _ => 1
def uptoBulkAll {H : Type} : List (DataW H) → Nat
  | [] => 0
  | d :: r => uptoBulk d + uptoBulkAll r
def uptoBulkEntries {H : Type} : List (Lit × DataW H) → Nat
  | [] => 0
  | x :: r => uptoBulkEntry x + uptoBulkEntries r
def uptoBulkEntry {H : Type} : Lit × DataW H → Nat
  | (.string bytes, d) => bytes.length + uptoBulk d + 1
  | (_, d) => uptoBulk d + 1
 end
def uptoSmall : (H : Type) → List (DataW H) → Bool := fun _ ds => decide (uptoBulkAll ds ≤ 1048576)
def OpenSpec.upto (s : _root_.Go.ChangeSpec) : _root_.Go.OpenSpec := { _root_.Go.OpenSpec.ofChange s with cond := some uptoSmall }

/-- 'repriselaw9.ScreenTells', WHERE WHAT IT READS IS OF BULK AT MOST 1048576: true; the input reads as it did. -/
def screenTellsUptoRow : OpenClaim := { program := "ytlolgfgcgfjdjaagreatdoor", sum := "901bf2f5952ffd834de4fc693ed549b4260fe3a62169915fa5912781d01a4451", func := "reprise/repriselaw9.ScreenTells", spec := "screenTells", unfollowed := true, recurses := true, named := ["reprise/width.spans"], apart := false, laid := [("reprise/width.spans", laid_reprise_width_spans)], narrowed := true }
def ScreenTellsUptoSaid : Prop := screenTellsUptoRow.holds Tryz.pinned (OpenSpec.upto screenTellsSpec)

/-- 'repriselaw9.ScreenSizes', WHERE WHAT IT READS IS OF BULK AT MOST 1048576: true; the input reads as it did. -/
def screenSizesUptoRow : OpenClaim := { program := "ytlolgfgcgfjdjaagreatdoor", sum := "901bf2f5952ffd834de4fc693ed549b4260fe3a62169915fa5912781d01a4451", func := "reprise/repriselaw9.ScreenSizes", spec := "screenSizes", unfollowed := true, recurses := true, named := ["reprise/width.spans"], apart := false, laid := [("reprise/width.spans", laid_reprise_width_spans)], narrowed := true }
def ScreenSizesUptoSaid : Prop := screenSizesUptoRow.holds Tryz.pinned (OpenSpec.upto screenSizesSpec)

/-- 'repriselaw9.ScreenRights', WHERE WHAT IT READS IS OF BULK AT MOST 1048576: true; the input reads as it did. -/
def screenRightsUptoRow : OpenClaim := { program := "ytlolgfgcgfjdjaagreatdoor", sum := "901bf2f5952ffd834de4fc693ed549b4260fe3a62169915fa5912781d01a4451", func := "reprise/repriselaw9.ScreenRights", spec := "screenRights", unfollowed := true, recurses := true, named := ["reprise/width.spans"], apart := false, laid := [("reprise/width.spans", laid_reprise_width_spans)], narrowed := true }
def ScreenRightsUptoSaid : Prop := screenRightsUptoRow.holds Tryz.pinned (OpenSpec.upto screenRightsSpec)

/-- 'repriselaw9.ScreenWraps', WHERE WHAT IT READS IS OF BULK AT MOST 1048576: true; the input reads as it did. -/
def screenWrapsUptoRow : OpenClaim := { program := "ytlolgfgcgfjdjaagreatdoor", sum := "901bf2f5952ffd834de4fc693ed549b4260fe3a62169915fa5912781d01a4451", func := "reprise/repriselaw9.ScreenWraps", spec := "screenWraps", unfollowed := true, recurses := true, named := ["reprise/width.spans"], apart := false, laid := [("reprise/width.spans", laid_reprise_width_spans)], narrowed := true }
def ScreenWrapsUptoSaid : Prop := screenWrapsUptoRow.holds Tryz.pinned (OpenSpec.upto screenWrapsSpec)

/-- 'repriselaw9.ScreenScrolls', WHERE WHAT IT READS IS OF BULK AT MOST 1048576: true; the input reads as it did. -/
def screenScrollsUptoRow : OpenClaim := { program := "ytlolgfgcgfjdjaagreatdoor", sum := "901bf2f5952ffd834de4fc693ed549b4260fe3a62169915fa5912781d01a4451", func := "reprise/repriselaw9.ScreenScrolls", spec := "screenScrolls", unfollowed := true, recurses := true, named := ["reprise/width.spans"], apart := false, laid := [("reprise/width.spans", laid_reprise_width_spans)], narrowed := true }
def ScreenScrollsUptoSaid : Prop := screenScrollsUptoRow.holds Tryz.pinned (OpenSpec.upto screenScrollsSpec)

/-- 'repriselaw9.ScreenMoves', WHERE WHAT IT READS IS OF BULK AT MOST 1048576: true; the input reads as it did. -/
def screenMovesUptoRow : OpenClaim := { program := "ytlolgfgcgfjdjaagreatdoor", sum := "901bf2f5952ffd834de4fc693ed549b4260fe3a62169915fa5912781d01a4451", func := "reprise/repriselaw9.ScreenMoves", spec := "screenMoves", unfollowed := true, recurses := true, named := ["reprise/width.spans"], apart := false, laid := [("reprise/width.spans", laid_reprise_width_spans)], narrowed := true }
def ScreenMovesUptoSaid : Prop := screenMovesUptoRow.holds Tryz.pinned (OpenSpec.upto screenMovesSpec)

/-- 'repriselaw9.ScreenAlts', WHERE WHAT IT READS IS OF BULK AT MOST 1048576: true; the input reads as it did. -/
def screenAltsUptoRow : OpenClaim := { program := "ytlolgfgcgfjdjaagreatdoor", sum := "901bf2f5952ffd834de4fc693ed549b4260fe3a62169915fa5912781d01a4451", func := "reprise/repriselaw9.ScreenAlts", spec := "screenAlts", unfollowed := true, recurses := true, named := ["reprise/width.spans"], apart := false, laid := [("reprise/width.spans", laid_reprise_width_spans)], narrowed := true }
def ScreenAltsUptoSaid : Prop := screenAltsUptoRow.holds Tryz.pinned (OpenSpec.upto screenAltsSpec)

/-- 'repriselaw9.ScreenLooks', WHERE WHAT IT READS IS OF BULK AT MOST 1048576: true; the input reads as it did. -/
def screenLooksUptoRow : OpenClaim := { program := "ytlolgfgcgfjdjaagreatdoor", sum := "901bf2f5952ffd834de4fc693ed549b4260fe3a62169915fa5912781d01a4451", func := "reprise/repriselaw9.ScreenLooks", spec := "screenLooks", unfollowed := true, recurses := true, named := ["reprise/width.spans"], apart := false, laid := [("reprise/width.spans", laid_reprise_width_spans)], narrowed := true }
def ScreenLooksUptoSaid : Prop := screenLooksUptoRow.holds Tryz.pinned (OpenSpec.upto screenLooksSpec)

/-- 'repriselaw9.ScreenParts', WHERE WHAT IT READS IS OF BULK AT MOST 1048576: true; the input reads as it did. -/
def screenPartsUptoRow : OpenClaim := { program := "ytlolgfgcgfjdjaagreatdoor", sum := "901bf2f5952ffd834de4fc693ed549b4260fe3a62169915fa5912781d01a4451", func := "reprise/repriselaw9.ScreenParts", spec := "screenParts", unfollowed := true, recurses := true, named := ["reprise/width.spans"], apart := false, laid := [("reprise/width.spans", laid_reprise_width_spans)], narrowed := true }
def ScreenPartsUptoSaid : Prop := screenPartsUptoRow.holds Tryz.pinned (OpenSpec.upto screenPartsSpec)

end Rows
end Go.Proofs.YtlolgfgcgfjdjaaGreatDoor
