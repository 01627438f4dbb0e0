/-
  DERIVED. GIVEN WITH THE SEED: THE CARDS: each row of YtnlbgggnpoeleaaGreatDoorRows.lean that lists a variable, with what it lists TIED to the program's text (the seventh form; the later family's looks); each row that meets fmt, with fmt's text TOLD by the authors' own Lean function (tested against real Go, not proved from fmt's source: count such statements apart). THE CARD IS WHAT COUNTS. Prove the row's statement (the work); the ties are given (YtnlbgggnpoeleaaGreatDoorTie.lean); close each card by the builder's one call (the guide's Derived/Test/ToyasCard.lean, 'card_holds'). Laid BY PROGRAM, IN A SANDBOX (cutbox-door.mjs). By AI agents, Wed Nov 11 2026. No macro, syntax, notation, axiom, sorry.
-/
import Derived.Test.YtnlbgggnpoeleaaGreatDoorRows
import GoSem.ClaimSeven
namespace Go.Proofs.YtnlbgggnpoeleaaGreatDoor
namespace Rows

/-- THE TIED CARD OF 'bevylaw14.ChatForms'. -/
def chatFormsCard : Claim7 := { stood := { row := chatFormsRow, standIns := [], harness := (true, "3bed81293b40d02b481a7dc3b9b5517b0b3d8ebd9581605e713f7b7d0a17c12e"), looks := false }, kinds := [], alts := [], laidByText := true, laidKinds := [.data, .data, .data, .data], laidTests := true, laidLooks := .later }
def ChatFormsCardSaid : Prop := Claim7.holds Tryz.pinned (.plain (OpenSpec.ofChange chatFormsSpec)) chatFormsCard

/-- THE TIED CARD OF 'bevylaw14.ChatNames'. -/
def chatNamesCard : Claim7 := { stood := { row := chatNamesRow, standIns := [], harness := (true, "3bed81293b40d02b481a7dc3b9b5517b0b3d8ebd9581605e713f7b7d0a17c12e"), looks := false }, kinds := [], alts := [], laidByText := true, laidKinds := [.data, .data, .data, .data], laidTests := true, laidLooks := .later }
def ChatNamesCardSaid : Prop := Claim7.holds Tryz.pinned (.plain (OpenSpec.ofChange chatNamesSpec)) chatNamesCard

/-- THE TIED CARD OF 'bevylaw14.ChatRights'. -/
def chatRightsCard : Claim7 := { stood := { row := chatRightsRow, standIns := [], harness := (true, "3bed81293b40d02b481a7dc3b9b5517b0b3d8ebd9581605e713f7b7d0a17c12e"), looks := false }, kinds := [], alts := [], laidByText := true, laidKinds := [.data, .data, .data, .data], laidTests := true, laidLooks := .later }
def ChatRightsCardSaid : Prop := Claim7.holds Tryz.pinned (.plain (OpenSpec.ofChange chatRightsSpec)) chatRightsCard

/-- THE SECOND FORM's CARD OF 'bevylaw14.ChatForms'. -/
def chatFormsUptoCard : Claim7 := { stood := { row := chatFormsUptoRow, standIns := [], harness := (true, "3bed81293b40d02b481a7dc3b9b5517b0b3d8ebd9581605e713f7b7d0a17c12e"), looks := false }, kinds := [], alts := [], laidByText := true, laidKinds := [.data, .data, .data, .data], laidTests := true, laidLooks := .later }
def ChatFormsUptoCardSaid : Prop := Claim7.holds Tryz.pinned (.plain (OpenSpec.upto chatFormsSpec)) chatFormsUptoCard

/-- THE SECOND FORM's CARD OF 'bevylaw14.ChatNames'. -/
def chatNamesUptoCard : Claim7 := { stood := { row := chatNamesUptoRow, standIns := [], harness := (true, "3bed81293b40d02b481a7dc3b9b5517b0b3d8ebd9581605e713f7b7d0a17c12e"), looks := false }, kinds := [], alts := [], laidByText := true, laidKinds := [.data, .data, .data, .data], laidTests := true, laidLooks := .later }
def ChatNamesUptoCardSaid : Prop := Claim7.holds Tryz.pinned (.plain (OpenSpec.upto chatNamesSpec)) chatNamesUptoCard

/-- THE SECOND FORM's CARD OF 'bevylaw14.ChatRights'. -/
def chatRightsUptoCard : Claim7 := { stood := { row := chatRightsUptoRow, standIns := [], harness := (true, "3bed81293b40d02b481a7dc3b9b5517b0b3d8ebd9581605e713f7b7d0a17c12e"), looks := false }, kinds := [], alts := [], laidByText := true, laidKinds := [.data, .data, .data, .data], laidTests := true, laidLooks := .later }
def ChatRightsUptoCardSaid : Prop := Claim7.holds Tryz.pinned (.plain (OpenSpec.upto chatRightsSpec)) chatRightsUptoCard
end Rows
end Go.Proofs.YtnlbgggnpoeleaaGreatDoor
