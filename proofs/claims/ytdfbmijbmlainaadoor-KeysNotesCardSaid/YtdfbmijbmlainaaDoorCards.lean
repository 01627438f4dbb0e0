/-
  DERIVED. GIVEN WITH THE SEED: THE CARDS: each row of YtdfbmijbmlainaaDoorRows.lean that lists a variable, with what it lists TIED to the program's text (the seventh form; the later family's looks); each row that meets fmt, with fmt's text TOLD by the authors' own Lean function (tested against real Go, not proved from fmt's source: count such statements apart). THE CARD IS WHAT COUNTS. Prove the row's statement (the work); the ties are given (YtdfbmijbmlainaaDoorTie.lean); close each card by the builder's one call (the guide's Derived/Test/ToyasCard.lean, 'card_holds'). Laid BY PROGRAM, IN A SANDBOX (cutbox-door.mjs). By AI agents, Wed Nov 11 2026. No macro, syntax, notation, axiom, sorry.
-/
import Derived.Test.YtdfbmijbmlainaaDoorRows
import GoSem.ClaimSeven
namespace Go.Proofs.YtdfbmijbmlainaaDoor
namespace Rows

/-- THE TIED CARD OF 'bevylaw11.KeysMakes'. -/
def keysMakesCard : Claim7 := { stood := { row := keysMakesRow, standIns := [], harness := (true, "05225003bc2aaa3875c453f7e5695fea329cfcaeb70561c133c59f07e3dcdc8b"), looks := false }, kinds := [], alts := [], laidByText := true, laidKinds := [.data], laidTests := true, laidLooks := .later }
def KeysMakesCardSaid : Prop := Claim7.holds Tryd.pinned (.plain (OpenSpec.ofChange keysMakesSpec)) keysMakesCard

/-- THE TIED CARD OF 'bevylaw11.KeysSaid'. -/
def keysSaidCard : Claim7 := { stood := { row := keysSaidRow, standIns := [], harness := (true, "05225003bc2aaa3875c453f7e5695fea329cfcaeb70561c133c59f07e3dcdc8b"), looks := false }, kinds := [], alts := [], laidByText := true, laidKinds := [.data], laidTests := true, laidLooks := .later }
def KeysSaidCardSaid : Prop := Claim7.holds Tryd.pinned (.plain (OpenSpec.ofChange keysSaidSpec)) keysSaidCard

/-- THE TIED CARD OF 'bevylaw11.KeysNotes'. -/
def keysNotesCard : Claim7 := { stood := { row := keysNotesRow, standIns := [], harness := (true, "05225003bc2aaa3875c453f7e5695fea329cfcaeb70561c133c59f07e3dcdc8b"), looks := false }, kinds := [], alts := [], laidByText := true, laidKinds := [.data], laidTests := true, laidLooks := .later }
def KeysNotesCardSaid : Prop := Claim7.holds Tryd.pinned (.plain (OpenSpec.ofChange keysNotesSpec)) keysNotesCard

/-- THE TIED CARD OF 'bevylaw11.KeysSpots'. -/
def keysSpotsCard : Claim7 := { stood := { row := keysSpotsRow, standIns := [], harness := (true, "05225003bc2aaa3875c453f7e5695fea329cfcaeb70561c133c59f07e3dcdc8b"), looks := false }, kinds := [], alts := [], laidByText := true, laidKinds := [.data], laidTests := true, laidLooks := .later }
def KeysSpotsCardSaid : Prop := Claim7.holds Tryd.pinned (.plain (OpenSpec.ofChange keysSpotsSpec)) keysSpotsCard

/-- THE TIED CARD OF 'bevylaw11.KeysTags'. -/
def keysTagsCard : Claim7 := { stood := { row := keysTagsRow, standIns := [], harness := (true, "05225003bc2aaa3875c453f7e5695fea329cfcaeb70561c133c59f07e3dcdc8b"), looks := false }, kinds := [], alts := [], laidByText := true, laidKinds := [.data], laidTests := true, laidLooks := .later }
def KeysTagsCardSaid : Prop := Claim7.holds Tryd.pinned (.plain (OpenSpec.ofChange keysTagsSpec)) keysTagsCard

/-- THE TIED CARD OF 'bevylaw11.KeysRoots'. -/
def keysRootsCard : Claim7 := { stood := { row := keysRootsRow, standIns := [], harness := (true, "05225003bc2aaa3875c453f7e5695fea329cfcaeb70561c133c59f07e3dcdc8b"), looks := false }, kinds := [], alts := [], laidByText := true, laidKinds := [.data], laidTests := true, laidLooks := .later }
def KeysRootsCardSaid : Prop := Claim7.holds Tryd.pinned (.plain (OpenSpec.ofChange keysRootsSpec)) keysRootsCard

/-- THE SECOND FORM's CARD OF 'bevylaw11.KeysMakes'. -/
def keysMakesUptoCard : Claim7 := { stood := { row := keysMakesUptoRow, standIns := [], harness := (true, "05225003bc2aaa3875c453f7e5695fea329cfcaeb70561c133c59f07e3dcdc8b"), looks := false }, kinds := [], alts := [], laidByText := true, laidKinds := [.data], laidTests := true, laidLooks := .later }
def KeysMakesUptoCardSaid : Prop := Claim7.holds Tryd.pinned (.plain (OpenSpec.upto keysMakesSpec)) keysMakesUptoCard

/-- THE SECOND FORM's CARD OF 'bevylaw11.KeysSaid'. -/
def keysSaidUptoCard : Claim7 := { stood := { row := keysSaidUptoRow, standIns := [], harness := (true, "05225003bc2aaa3875c453f7e5695fea329cfcaeb70561c133c59f07e3dcdc8b"), looks := false }, kinds := [], alts := [], laidByText := true, laidKinds := [.data], laidTests := true, laidLooks := .later }
def KeysSaidUptoCardSaid : Prop := Claim7.holds Tryd.pinned (.plain (OpenSpec.upto keysSaidSpec)) keysSaidUptoCard

/-- THE SECOND FORM's CARD OF 'bevylaw11.KeysNotes'. -/
def keysNotesUptoCard : Claim7 := { stood := { row := keysNotesUptoRow, standIns := [], harness := (true, "05225003bc2aaa3875c453f7e5695fea329cfcaeb70561c133c59f07e3dcdc8b"), looks := false }, kinds := [], alts := [], laidByText := true, laidKinds := [.data], laidTests := true, laidLooks := .later }
def KeysNotesUptoCardSaid : Prop := Claim7.holds Tryd.pinned (.plain (OpenSpec.upto keysNotesSpec)) keysNotesUptoCard

/-- THE SECOND FORM's CARD OF 'bevylaw11.KeysSpots'. -/
def keysSpotsUptoCard : Claim7 := { stood := { row := keysSpotsUptoRow, standIns := [], harness := (true, "05225003bc2aaa3875c453f7e5695fea329cfcaeb70561c133c59f07e3dcdc8b"), looks := false }, kinds := [], alts := [], laidByText := true, laidKinds := [.data], laidTests := true, laidLooks := .later }
def KeysSpotsUptoCardSaid : Prop := Claim7.holds Tryd.pinned (.plain (OpenSpec.upto keysSpotsSpec)) keysSpotsUptoCard

/-- THE SECOND FORM's CARD OF 'bevylaw11.KeysTags'. -/
def keysTagsUptoCard : Claim7 := { stood := { row := keysTagsUptoRow, standIns := [], harness := (true, "05225003bc2aaa3875c453f7e5695fea329cfcaeb70561c133c59f07e3dcdc8b"), looks := false }, kinds := [], alts := [], laidByText := true, laidKinds := [.data], laidTests := true, laidLooks := .later }
def KeysTagsUptoCardSaid : Prop := Claim7.holds Tryd.pinned (.plain (OpenSpec.upto keysTagsSpec)) keysTagsUptoCard

/-- THE SECOND FORM's CARD OF 'bevylaw11.KeysRoots'. -/
def keysRootsUptoCard : Claim7 := { stood := { row := keysRootsUptoRow, standIns := [], harness := (true, "05225003bc2aaa3875c453f7e5695fea329cfcaeb70561c133c59f07e3dcdc8b"), looks := false }, kinds := [], alts := [], laidByText := true, laidKinds := [.data], laidTests := true, laidLooks := .later }
def KeysRootsUptoCardSaid : Prop := Claim7.holds Tryd.pinned (.plain (OpenSpec.upto keysRootsSpec)) keysRootsUptoCard
end Rows
end Go.Proofs.YtdfbmijbmlainaaDoor
