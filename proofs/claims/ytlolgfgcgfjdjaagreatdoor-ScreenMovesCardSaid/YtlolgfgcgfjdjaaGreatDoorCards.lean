/-
  DERIVED. GIVEN WITH THE SEED: THE CARDS: each row of YtlolgfgcgfjdjaaGreatDoorRows.lean that lists a variable, with what it lists TIED to the program's text (the seventh form; the later family's looks); each row that meets fmt, with fmt's text TOLD by the authors' own Lean function (tested against real Go, not proved from fmt's source: count such statements apart). THE CARD IS WHAT COUNTS. Prove the row's statement (the work); the ties are given (YtlolgfgcgfjdjaaGreatDoorTie.lean); close each card by the builder's one call (the guide's Derived/Test/ToyasCard.lean, 'card_holds'). Laid BY PROGRAM, IN A SANDBOX (cutbox-door.mjs). By AI agents, Wed Nov 11 2026. No macro, syntax, notation, axiom, sorry.
-/
import Derived.Test.YtlolgfgcgfjdjaaGreatDoorRows
import GoSem.ClaimSeven
namespace Go.Proofs.YtlolgfgcgfjdjaaGreatDoor
namespace Rows

/-- THE TIED CARD OF 'repriselaw9.ScreenTells'. -/
def screenTellsCard : Claim7 := { stood := { row := screenTellsRow, standIns := [], harness := (true, "b346e0f470a601265a18fdd31c55cf567fa5f6f0df7d3433e632e301b650ad86"), looks := false }, kinds := [], alts := [], laidByText := true, laidKinds := [.data], laidTests := true, laidLooks := .later }
def ScreenTellsCardSaid : Prop := Claim7.holds Tryz.pinned (.plain (OpenSpec.ofChange screenTellsSpec)) screenTellsCard

/-- THE TIED CARD OF 'repriselaw9.ScreenSizes'. -/
def screenSizesCard : Claim7 := { stood := { row := screenSizesRow, standIns := [], harness := (true, "b346e0f470a601265a18fdd31c55cf567fa5f6f0df7d3433e632e301b650ad86"), looks := false }, kinds := [], alts := [], laidByText := true, laidKinds := [.data], laidTests := true, laidLooks := .later }
def ScreenSizesCardSaid : Prop := Claim7.holds Tryz.pinned (.plain (OpenSpec.ofChange screenSizesSpec)) screenSizesCard

/-- THE TIED CARD OF 'repriselaw9.ScreenRights'. -/
def screenRightsCard : Claim7 := { stood := { row := screenRightsRow, standIns := [], harness := (true, "b346e0f470a601265a18fdd31c55cf567fa5f6f0df7d3433e632e301b650ad86"), looks := false }, kinds := [], alts := [], laidByText := true, laidKinds := [.data], laidTests := true, laidLooks := .later }
def ScreenRightsCardSaid : Prop := Claim7.holds Tryz.pinned (.plain (OpenSpec.ofChange screenRightsSpec)) screenRightsCard

/-- THE TIED CARD OF 'repriselaw9.ScreenWraps'. -/
def screenWrapsCard : Claim7 := { stood := { row := screenWrapsRow, standIns := [], harness := (true, "b346e0f470a601265a18fdd31c55cf567fa5f6f0df7d3433e632e301b650ad86"), looks := false }, kinds := [], alts := [], laidByText := true, laidKinds := [.data], laidTests := true, laidLooks := .later }
def ScreenWrapsCardSaid : Prop := Claim7.holds Tryz.pinned (.plain (OpenSpec.ofChange screenWrapsSpec)) screenWrapsCard

/-- THE TIED CARD OF 'repriselaw9.ScreenScrolls'. -/
def screenScrollsCard : Claim7 := { stood := { row := screenScrollsRow, standIns := [], harness := (true, "b346e0f470a601265a18fdd31c55cf567fa5f6f0df7d3433e632e301b650ad86"), looks := false }, kinds := [], alts := [], laidByText := true, laidKinds := [.data], laidTests := true, laidLooks := .later }
def ScreenScrollsCardSaid : Prop := Claim7.holds Tryz.pinned (.plain (OpenSpec.ofChange screenScrollsSpec)) screenScrollsCard

/-- THE TIED CARD OF 'repriselaw9.ScreenMoves'. -/
def screenMovesCard : Claim7 := { stood := { row := screenMovesRow, standIns := [], harness := (true, "b346e0f470a601265a18fdd31c55cf567fa5f6f0df7d3433e632e301b650ad86"), looks := false }, kinds := [], alts := [], laidByText := true, laidKinds := [.data], laidTests := true, laidLooks := .later }
def ScreenMovesCardSaid : Prop := Claim7.holds Tryz.pinned (.plain (OpenSpec.ofChange screenMovesSpec)) screenMovesCard

/-- THE TIED CARD OF 'repriselaw9.ScreenAlts'. -/
def screenAltsCard : Claim7 := { stood := { row := screenAltsRow, standIns := [], harness := (true, "b346e0f470a601265a18fdd31c55cf567fa5f6f0df7d3433e632e301b650ad86"), looks := false }, kinds := [], alts := [], laidByText := true, laidKinds := [.data], laidTests := true, laidLooks := .later }
def ScreenAltsCardSaid : Prop := Claim7.holds Tryz.pinned (.plain (OpenSpec.ofChange screenAltsSpec)) screenAltsCard

/-- THE TIED CARD OF 'repriselaw9.ScreenLooks'. -/
def screenLooksCard : Claim7 := { stood := { row := screenLooksRow, standIns := [], harness := (true, "b346e0f470a601265a18fdd31c55cf567fa5f6f0df7d3433e632e301b650ad86"), looks := false }, kinds := [], alts := [], laidByText := true, laidKinds := [.data], laidTests := true, laidLooks := .later }
def ScreenLooksCardSaid : Prop := Claim7.holds Tryz.pinned (.plain (OpenSpec.ofChange screenLooksSpec)) screenLooksCard

/-- THE TIED CARD OF 'repriselaw9.ScreenParts'. -/
def screenPartsCard : Claim7 := { stood := { row := screenPartsRow, standIns := [], harness := (true, "b346e0f470a601265a18fdd31c55cf567fa5f6f0df7d3433e632e301b650ad86"), looks := false }, kinds := [], alts := [], laidByText := true, laidKinds := [.data], laidTests := true, laidLooks := .later }
def ScreenPartsCardSaid : Prop := Claim7.holds Tryz.pinned (.plain (OpenSpec.ofChange screenPartsSpec)) screenPartsCard

/-- THE SECOND FORM's CARD OF 'repriselaw9.ScreenTells'. -/
def screenTellsUptoCard : Claim7 := { stood := { row := screenTellsUptoRow, standIns := [], harness := (true, "b346e0f470a601265a18fdd31c55cf567fa5f6f0df7d3433e632e301b650ad86"), looks := false }, kinds := [], alts := [], laidByText := true, laidKinds := [.data], laidTests := true, laidLooks := .later }
def ScreenTellsUptoCardSaid : Prop := Claim7.holds Tryz.pinned (.plain (OpenSpec.upto screenTellsSpec)) screenTellsUptoCard

/-- THE SECOND FORM's CARD OF 'repriselaw9.ScreenSizes'. -/
def screenSizesUptoCard : Claim7 := { stood := { row := screenSizesUptoRow, standIns := [], harness := (true, "b346e0f470a601265a18fdd31c55cf567fa5f6f0df7d3433e632e301b650ad86"), looks := false }, kinds := [], alts := [], laidByText := true, laidKinds := [.data], laidTests := true, laidLooks := .later }
def ScreenSizesUptoCardSaid : Prop := Claim7.holds Tryz.pinned (.plain (OpenSpec.upto screenSizesSpec)) screenSizesUptoCard

/-- THE SECOND FORM's CARD OF 'repriselaw9.ScreenRights'. -/
def screenRightsUptoCard : Claim7 := { stood := { row := screenRightsUptoRow, standIns := [], harness := (true, "b346e0f470a601265a18fdd31c55cf567fa5f6f0df7d3433e632e301b650ad86"), looks := false }, kinds := [], alts := [], laidByText := true, laidKinds := [.data], laidTests := true, laidLooks := .later }
def ScreenRightsUptoCardSaid : Prop := Claim7.holds Tryz.pinned (.plain (OpenSpec.upto screenRightsSpec)) screenRightsUptoCard

/-- THE SECOND FORM's CARD OF 'repriselaw9.ScreenWraps'. -/
def screenWrapsUptoCard : Claim7 := { stood := { row := screenWrapsUptoRow, standIns := [], harness := (true, "b346e0f470a601265a18fdd31c55cf567fa5f6f0df7d3433e632e301b650ad86"), looks := false }, kinds := [], alts := [], laidByText := true, laidKinds := [.data], laidTests := true, laidLooks := .later }
def ScreenWrapsUptoCardSaid : Prop := Claim7.holds Tryz.pinned (.plain (OpenSpec.upto screenWrapsSpec)) screenWrapsUptoCard

/-- THE SECOND FORM's CARD OF 'repriselaw9.ScreenScrolls'. -/
def screenScrollsUptoCard : Claim7 := { stood := { row := screenScrollsUptoRow, standIns := [], harness := (true, "b346e0f470a601265a18fdd31c55cf567fa5f6f0df7d3433e632e301b650ad86"), looks := false }, kinds := [], alts := [], laidByText := true, laidKinds := [.data], laidTests := true, laidLooks := .later }
def ScreenScrollsUptoCardSaid : Prop := Claim7.holds Tryz.pinned (.plain (OpenSpec.upto screenScrollsSpec)) screenScrollsUptoCard

/-- THE SECOND FORM's CARD OF 'repriselaw9.ScreenMoves'. -/
def screenMovesUptoCard : Claim7 := { stood := { row := screenMovesUptoRow, standIns := [], harness := (true, "b346e0f470a601265a18fdd31c55cf567fa5f6f0df7d3433e632e301b650ad86"), looks := false }, kinds := [], alts := [], laidByText := true, laidKinds := [.data], laidTests := true, laidLooks := .later }
def ScreenMovesUptoCardSaid : Prop := Claim7.holds Tryz.pinned (.plain (OpenSpec.upto screenMovesSpec)) screenMovesUptoCard

/-- THE SECOND FORM's CARD OF 'repriselaw9.ScreenAlts'. -/
def screenAltsUptoCard : Claim7 := { stood := { row := screenAltsUptoRow, standIns := [], harness := (true, "b346e0f470a601265a18fdd31c55cf567fa5f6f0df7d3433e632e301b650ad86"), looks := false }, kinds := [], alts := [], laidByText := true, laidKinds := [.data], laidTests := true, laidLooks := .later }
def ScreenAltsUptoCardSaid : Prop := Claim7.holds Tryz.pinned (.plain (OpenSpec.upto screenAltsSpec)) screenAltsUptoCard

/-- THE SECOND FORM's CARD OF 'repriselaw9.ScreenLooks'. -/
def screenLooksUptoCard : Claim7 := { stood := { row := screenLooksUptoRow, standIns := [], harness := (true, "b346e0f470a601265a18fdd31c55cf567fa5f6f0df7d3433e632e301b650ad86"), looks := false }, kinds := [], alts := [], laidByText := true, laidKinds := [.data], laidTests := true, laidLooks := .later }
def ScreenLooksUptoCardSaid : Prop := Claim7.holds Tryz.pinned (.plain (OpenSpec.upto screenLooksSpec)) screenLooksUptoCard

/-- THE SECOND FORM's CARD OF 'repriselaw9.ScreenParts'. -/
def screenPartsUptoCard : Claim7 := { stood := { row := screenPartsUptoRow, standIns := [], harness := (true, "b346e0f470a601265a18fdd31c55cf567fa5f6f0df7d3433e632e301b650ad86"), looks := false }, kinds := [], alts := [], laidByText := true, laidKinds := [.data], laidTests := true, laidLooks := .later }
def ScreenPartsUptoCardSaid : Prop := Claim7.holds Tryz.pinned (.plain (OpenSpec.upto screenPartsSpec)) screenPartsUptoCard
end Rows
end Go.Proofs.YtlolgfgcgfjdjaaGreatDoor
