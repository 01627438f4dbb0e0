/-
 The table of the four bounds, out of what a row lists; a world for a row's witness.
-/
import Derived.Test.YtinebhdilnndaaaGreatDoorCards
import Derived.Test.YtinebhdilnndaaaGreatDoorTie
import Derived.Test.YtinebhdilnndaaaGreatDoorGV
import Derived.ProofKit
import Derived.OpenShut
import Derived.Deep.DeepHandedRow
import Derived.Lib.LaidTab
namespace Go.Proofs.YtinebhdilnndaaaGreatDoor
open Go.ChangeShapes Go.WideShapes Go.ChangeAt Go.RowKit
theorem wireOwn:ownKnob Tryz.prog.godebug = none:=by kernel_rfl
theorem gTab : Tryz.prog.globalNamed "bevy/wire.bounds" = some 0 := by kernel_rfl
theorem gTabType:(Tryz.prog.globals[0]?).map (·.type) = some 145:=by kernel_rfl
theorem wireCellsTab:Tryz.prog.cellsOf 145 = 4:=by kernel_rfl
theorem wireCellsInt:Tryz.prog.cellsOf 3 = 1:=by kernel_rfl
theorem wireTable {W : World} (h : laidMetH Tryz.prog [("bevy/wire.bounds", Rows.laid_bevy_wire_bounds)] W) : Tab W := by
 have t:=Lib.tabIs_of_head (k:=.i64) (zs:=[63,16383,1073741823,4611686018427387903]) (rest:=[]) gTab gTabType Tryz.underlying145 Tryz.underlying3 wireCellsInt wireCellsTab h
 exact⟨t.cell gTab 0 (by decide),t.cell gTab 1 (by decide),t.cell gTab 2 (by decide),t.cell gTab 3 (by decide)⟩
noncomputable def laidWorld (os:Os):World:=
 { World.holding Tryz.prog os ⟨#[],#[],[]⟩ with heap:=(World.holding Tryz.prog os ⟨#[],#[],[]⟩).heap.modify 0 fun
   | .cells _ t frozen=>.cells #[.int .i64 63,.int .i64 16383,.int .i64 1073741823,.int .i64 4611686018427387903] t frozen
   | o=>o }
end Go.Proofs.YtinebhdilnndaaaGreatDoor
