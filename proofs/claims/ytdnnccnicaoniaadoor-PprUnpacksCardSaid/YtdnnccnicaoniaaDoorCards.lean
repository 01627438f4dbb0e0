/-
  DERIVED. GIVEN WITH THE SEED: THE CARDS: each row of YtdnnccnicaoniaaDoorRows.lean that lists a variable, with what it lists TIED to the program's text (the seventh form; the later family's looks); each row that meets fmt, with fmt's text TOLD by the authors' own Lean function (tested against real Go, not proved from fmt's source: count such statements apart). THE CARD IS WHAT COUNTS. Prove the row's statement (the work); the ties are given (YtdnnccnicaoniaaDoorTie.lean); close each card by the builder's one call (the guide's Derived/Test/ToyasCard.lean, 'card_holds'). Laid BY PROGRAM, IN A SANDBOX (cutbox-door.mjs). By AI agents, Wed Nov 11 2026. No macro, syntax, notation, axiom, sorry.
-/
import Derived.Test.YtdnnccnicaoniaaDoorRows
import GoSem.ClaimSeven
namespace Go.Proofs.YtdnnccnicaoniaaDoor
namespace Rows

/-- THE TIED CARD OF 'bevylaw06.PprPlays'. -/
def pprPlaysCard : Claim7 := { stood := { row := pprPlaysRow, standIns := [], harness := (true, "d51cdcb3338bf6798d593adb890d9727eec1fc545e930874a24696034e76752f"), looks := false }, kinds := [], alts := [], laidByText := true, laidKinds := [.data], laidTests := true, laidLooks := .later }
def PprPlaysCardSaid : Prop := Claim7.holds Tryd.pinned (.plain (OpenSpec.ofChange pprPlaysSpec)) pprPlaysCard

/-- THE TIED CARD OF 'bevylaw06.PprUnpacks'. -/
def pprUnpacksCard : Claim7 := { stood := { row := pprUnpacksRow, standIns := [], harness := (true, "d51cdcb3338bf6798d593adb890d9727eec1fc545e930874a24696034e76752f"), looks := false }, kinds := [], alts := [], laidByText := true, laidKinds := [.data], laidTests := true, laidLooks := .later }
def PprUnpacksCardSaid : Prop := Claim7.holds Tryd.pinned (.plain (OpenSpec.ofChange pprUnpacksSpec)) pprUnpacksCard

/-- THE TIED CARD OF 'bevylaw06.PprTakes'. -/
def pprTakesCard : Claim7 := { stood := { row := pprTakesRow, standIns := [], harness := (true, "d51cdcb3338bf6798d593adb890d9727eec1fc545e930874a24696034e76752f"), looks := false }, kinds := [], alts := [], laidByText := true, laidKinds := [.data], laidTests := true, laidLooks := .later }
def PprTakesCardSaid : Prop := Claim7.holds Tryd.pinned (.plain (OpenSpec.ofChange pprTakesSpec)) pprTakesCard

/-- THE SECOND FORM's CARD OF 'bevylaw06.PprPlays'. -/
def pprPlaysUptoCard : Claim7 := { stood := { row := pprPlaysUptoRow, standIns := [], harness := (true, "d51cdcb3338bf6798d593adb890d9727eec1fc545e930874a24696034e76752f"), looks := false }, kinds := [], alts := [], laidByText := true, laidKinds := [.data], laidTests := true, laidLooks := .later }
def PprPlaysUptoCardSaid : Prop := Claim7.holds Tryd.pinned (.plain (OpenSpec.upto pprPlaysSpec)) pprPlaysUptoCard

/-- THE SECOND FORM's CARD OF 'bevylaw06.PprUnpacks'. -/
def pprUnpacksUptoCard : Claim7 := { stood := { row := pprUnpacksUptoRow, standIns := [], harness := (true, "d51cdcb3338bf6798d593adb890d9727eec1fc545e930874a24696034e76752f"), looks := false }, kinds := [], alts := [], laidByText := true, laidKinds := [.data], laidTests := true, laidLooks := .later }
def PprUnpacksUptoCardSaid : Prop := Claim7.holds Tryd.pinned (.plain (OpenSpec.upto pprUnpacksSpec)) pprUnpacksUptoCard

/-- THE SECOND FORM's CARD OF 'bevylaw06.PprTakes'. -/
def pprTakesUptoCard : Claim7 := { stood := { row := pprTakesUptoRow, standIns := [], harness := (true, "d51cdcb3338bf6798d593adb890d9727eec1fc545e930874a24696034e76752f"), looks := false }, kinds := [], alts := [], laidByText := true, laidKinds := [.data], laidTests := true, laidLooks := .later }
def PprTakesUptoCardSaid : Prop := Claim7.holds Tryd.pinned (.plain (OpenSpec.upto pprTakesSpec)) pprTakesUptoCard
end Rows
end Go.Proofs.YtdnnccnicaoniaaDoor
