/-
  DERIVED. GIVEN WITH THE SEED: THE CARDS: each row of YtcjcomeakkjiiaaDoorRows.lean that lists a variable, with what it lists TIED to the program's text (the seventh form; the later family's looks); each row that meets fmt, with fmt's text TOLD by the authors' own Lean function (tested against real Go, not proved from fmt's source: count such statements apart). THE CARD IS WHAT COUNTS. Prove the row's statement (the work); the ties are given (YtcjcomeakkjiiaaDoorTie.lean); close each card by the builder's one call (the guide's Derived/Test/ToyasCard.lean, 'card_holds'). Laid BY PROGRAM, IN A SANDBOX (cutbox-door.mjs). By AI agents, Wed Nov 11 2026. No macro, syntax, notation, axiom, sorry.
-/
import Derived.Test.YtcjcomeakkjiiaaDoorRows
import GoSem.ClaimSeven
namespace Go.Proofs.YtcjcomeakkjiiaaDoor
namespace Rows

/-- THE TIED CARD OF 'bevylaw10.ChangeOne'. -/
def changeOneCard : Claim7 := { stood := { row := changeOneRow, standIns := [], harness := (true, "dadd69fe0ade440249d2c204c925bc08e4a46f6c86eba0ac1725f439e853a22d"), looks := true }, kinds := [], alts := [], laidByText := true, laidKinds := [.data], laidTests := true, laidLooks := .later }
def ChangeOneCardSaid : Prop := Claim7.holds Tryd.pinned (.plain (OpenSpec.ofChange changeOneSpec)) changeOneCard

/-- THE TIED CARD OF 'bevylaw10.ChangeReads'. -/
def changeReadsCard : Claim7 := { stood := { row := changeReadsRow, standIns := [], harness := (true, "dadd69fe0ade440249d2c204c925bc08e4a46f6c86eba0ac1725f439e853a22d"), looks := true }, kinds := [], alts := [], laidByText := true, laidKinds := [.data], laidTests := true, laidLooks := .later }
def ChangeReadsCardSaid : Prop := Claim7.holds Tryd.pinned (.plain (OpenSpec.ofChange changeReadsSpec)) changeReadsCard

/-- THE TIED CARD OF 'bevylaw10.ChangeRights'. -/
def changeRightsCard : Claim7 := { stood := { row := changeRightsRow, standIns := [], harness := (true, "dadd69fe0ade440249d2c204c925bc08e4a46f6c86eba0ac1725f439e853a22d"), looks := true }, kinds := [], alts := [], laidByText := true, laidKinds := [.data], laidTests := true, laidLooks := .later }
def ChangeRightsCardSaid : Prop := Claim7.holds Tryd.pinned (.plain (OpenSpec.ofChange changeRightsSpec)) changeRightsCard

/-- THE TIED CARD OF 'bevylaw10.ChangeOrders'. -/
def changeOrdersCard : Claim7 := { stood := { row := changeOrdersRow, standIns := [], harness := (true, "dadd69fe0ade440249d2c204c925bc08e4a46f6c86eba0ac1725f439e853a22d"), looks := true }, kinds := [], alts := [], laidByText := true, laidKinds := [.data], laidTests := true, laidLooks := .later }
def ChangeOrdersCardSaid : Prop := Claim7.holds Tryd.pinned (.plain (OpenSpec.ofChange changeOrdersSpec)) changeOrdersCard

/-- THE TIED CARD OF 'bevylaw10.ChangeSigns'. -/
def changeSignsCard : Claim7 := { stood := { row := changeSignsRow, standIns := [], harness := (true, "dadd69fe0ade440249d2c204c925bc08e4a46f6c86eba0ac1725f439e853a22d"), looks := true }, kinds := [], alts := [], laidByText := true, laidKinds := [.data], laidTests := true, laidLooks := .later }
def ChangeSignsCardSaid : Prop := Claim7.holds Tryd.pinned (.plain (OpenSpec.ofChange changeSignsSpec)) changeSignsCard

/-- THE SECOND FORM's CARD OF 'bevylaw10.ChangeOne'. -/
def changeOneUptoCard : Claim7 := { stood := { row := changeOneUptoRow, standIns := [], harness := (true, "dadd69fe0ade440249d2c204c925bc08e4a46f6c86eba0ac1725f439e853a22d"), looks := true }, kinds := [], alts := [], laidByText := true, laidKinds := [.data], laidTests := true, laidLooks := .later }
def ChangeOneUptoCardSaid : Prop := Claim7.holds Tryd.pinned (.plain (OpenSpec.upto changeOneSpec)) changeOneUptoCard

/-- THE SECOND FORM's CARD OF 'bevylaw10.ChangeReads'. -/
def changeReadsUptoCard : Claim7 := { stood := { row := changeReadsUptoRow, standIns := [], harness := (true, "dadd69fe0ade440249d2c204c925bc08e4a46f6c86eba0ac1725f439e853a22d"), looks := true }, kinds := [], alts := [], laidByText := true, laidKinds := [.data], laidTests := true, laidLooks := .later }
def ChangeReadsUptoCardSaid : Prop := Claim7.holds Tryd.pinned (.plain (OpenSpec.upto changeReadsSpec)) changeReadsUptoCard

/-- THE SECOND FORM's CARD OF 'bevylaw10.ChangeRights'. -/
def changeRightsUptoCard : Claim7 := { stood := { row := changeRightsUptoRow, standIns := [], harness := (true, "dadd69fe0ade440249d2c204c925bc08e4a46f6c86eba0ac1725f439e853a22d"), looks := true }, kinds := [], alts := [], laidByText := true, laidKinds := [.data], laidTests := true, laidLooks := .later }
def ChangeRightsUptoCardSaid : Prop := Claim7.holds Tryd.pinned (.plain (OpenSpec.upto changeRightsSpec)) changeRightsUptoCard

/-- THE SECOND FORM's CARD OF 'bevylaw10.ChangeOrders'. -/
def changeOrdersUptoCard : Claim7 := { stood := { row := changeOrdersUptoRow, standIns := [], harness := (true, "dadd69fe0ade440249d2c204c925bc08e4a46f6c86eba0ac1725f439e853a22d"), looks := true }, kinds := [], alts := [], laidByText := true, laidKinds := [.data], laidTests := true, laidLooks := .later }
def ChangeOrdersUptoCardSaid : Prop := Claim7.holds Tryd.pinned (.plain (OpenSpec.upto changeOrdersSpec)) changeOrdersUptoCard

/-- THE SECOND FORM's CARD OF 'bevylaw10.ChangeSigns'. -/
def changeSignsUptoCard : Claim7 := { stood := { row := changeSignsUptoRow, standIns := [], harness := (true, "dadd69fe0ade440249d2c204c925bc08e4a46f6c86eba0ac1725f439e853a22d"), looks := true }, kinds := [], alts := [], laidByText := true, laidKinds := [.data], laidTests := true, laidLooks := .later }
def ChangeSignsUptoCardSaid : Prop := Claim7.holds Tryd.pinned (.plain (OpenSpec.upto changeSignsSpec)) changeSignsUptoCard
end Rows
end Go.Proofs.YtcjcomeakkjiiaaDoor
