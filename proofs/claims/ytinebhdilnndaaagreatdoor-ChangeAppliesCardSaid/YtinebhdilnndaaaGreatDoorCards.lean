/-
  DERIVED. GIVEN WITH THE SEED: THE CARDS: each row of YtinebhdilnndaaaGreatDoorRows.lean that lists a variable, with what it lists TIED to the program's text (the seventh form; the later family's looks); each row that meets fmt, with fmt's text TOLD by the authors' own Lean function (tested against real Go, not proved from fmt's source: count such statements apart). THE CARD IS WHAT COUNTS. Prove the row's statement (the work); the ties are given (YtinebhdilnndaaaGreatDoorTie.lean); close each card by the builder's one call (the guide's Derived/Test/ToyasCard.lean, 'card_holds'). Laid BY PROGRAM, IN A SANDBOX (cutbox-door.mjs). By AI agents, Wed Nov 11 2026. No macro, syntax, notation, axiom, sorry.
-/
import Derived.Test.YtinebhdilnndaaaGreatDoorRows
import GoSem.ClaimSeven
namespace Go.Proofs.YtinebhdilnndaaaGreatDoor
namespace Rows

/-- THE TIED CARD OF 'bevylaw10.ChangeNames'. -/
def changeNamesCard : Claim7 := { stood := { row := changeNamesRow, standIns := [], harness := (true, "4a2a7d3dbc256da26ac3704bf64e30ab765b5106a2e01f4a2d8a07eeb814df24"), looks := false }, kinds := [], alts := [], laidByText := true, laidKinds := [.data], laidTests := true, laidLooks := .later }
def ChangeNamesCardSaid : Prop := Claim7.holds Tryz.pinned (.plain (OpenSpec.ofChange changeNamesSpec)) changeNamesCard

/-- THE TIED CARD OF 'bevylaw10.ChangeFits'. -/
def changeFitsCard : Claim7 := { stood := { row := changeFitsRow, standIns := [], harness := (true, "4a2a7d3dbc256da26ac3704bf64e30ab765b5106a2e01f4a2d8a07eeb814df24"), looks := false }, kinds := [], alts := [], laidByText := true, laidKinds := [.data], laidTests := true, laidLooks := .later }
def ChangeFitsCardSaid : Prop := Claim7.holds Tryz.pinned (.plain (OpenSpec.ofChange changeFitsSpec)) changeFitsCard

/-- THE TIED CARD OF 'bevylaw10.ChangePicks'. -/
def changePicksCard : Claim7 := { stood := { row := changePicksRow, standIns := [], harness := (true, "4a2a7d3dbc256da26ac3704bf64e30ab765b5106a2e01f4a2d8a07eeb814df24"), looks := false }, kinds := [], alts := [], laidByText := true, laidKinds := [.data], laidTests := true, laidLooks := .later }
def ChangePicksCardSaid : Prop := Claim7.holds Tryz.pinned (.plain (OpenSpec.ofChange changePicksSpec)) changePicksCard

/-- THE TIED CARD OF 'bevylaw10.ChangeApplies'. -/
def changeAppliesCard : Claim7 := { stood := { row := changeAppliesRow, standIns := [], harness := (true, "4a2a7d3dbc256da26ac3704bf64e30ab765b5106a2e01f4a2d8a07eeb814df24"), looks := false }, kinds := [], alts := [], laidByText := true, laidKinds := [.data], laidTests := true, laidLooks := .later }
def ChangeAppliesCardSaid : Prop := Claim7.holds Tryz.pinned (.plain (OpenSpec.ofChange changeAppliesSpec)) changeAppliesCard

/-- THE SECOND FORM's CARD OF 'bevylaw10.ChangeNames'. -/
def changeNamesUptoCard : Claim7 := { stood := { row := changeNamesUptoRow, standIns := [], harness := (true, "4a2a7d3dbc256da26ac3704bf64e30ab765b5106a2e01f4a2d8a07eeb814df24"), looks := false }, kinds := [], alts := [], laidByText := true, laidKinds := [.data], laidTests := true, laidLooks := .later }
def ChangeNamesUptoCardSaid : Prop := Claim7.holds Tryz.pinned (.plain (OpenSpec.upto changeNamesSpec)) changeNamesUptoCard

/-- THE SECOND FORM's CARD OF 'bevylaw10.ChangeFits'. -/
def changeFitsUptoCard : Claim7 := { stood := { row := changeFitsUptoRow, standIns := [], harness := (true, "4a2a7d3dbc256da26ac3704bf64e30ab765b5106a2e01f4a2d8a07eeb814df24"), looks := false }, kinds := [], alts := [], laidByText := true, laidKinds := [.data], laidTests := true, laidLooks := .later }
def ChangeFitsUptoCardSaid : Prop := Claim7.holds Tryz.pinned (.plain (OpenSpec.upto changeFitsSpec)) changeFitsUptoCard

/-- THE SECOND FORM's CARD OF 'bevylaw10.ChangePicks'. -/
def changePicksUptoCard : Claim7 := { stood := { row := changePicksUptoRow, standIns := [], harness := (true, "4a2a7d3dbc256da26ac3704bf64e30ab765b5106a2e01f4a2d8a07eeb814df24"), looks := false }, kinds := [], alts := [], laidByText := true, laidKinds := [.data], laidTests := true, laidLooks := .later }
def ChangePicksUptoCardSaid : Prop := Claim7.holds Tryz.pinned (.plain (OpenSpec.upto changePicksSpec)) changePicksUptoCard

/-- THE SECOND FORM's CARD OF 'bevylaw10.ChangeApplies'. -/
def changeAppliesUptoCard : Claim7 := { stood := { row := changeAppliesUptoRow, standIns := [], harness := (true, "4a2a7d3dbc256da26ac3704bf64e30ab765b5106a2e01f4a2d8a07eeb814df24"), looks := false }, kinds := [], alts := [], laidByText := true, laidKinds := [.data], laidTests := true, laidLooks := .later }
def ChangeAppliesUptoCardSaid : Prop := Claim7.holds Tryz.pinned (.plain (OpenSpec.upto changeAppliesSpec)) changeAppliesUptoCard
end Rows
end Go.Proofs.YtinebhdilnndaaaGreatDoor
