/-
 The table of the four bounds, out of what a row lists; a world for a row's witness.
-/
import Derived.Test.YtnlbgggnpoeleaaGreatDoorCards
import Derived.Test.YtnlbgggnpoeleaaGreatDoorTie
import Derived.Test.YtnlbgggnpoeleaaGreatDoorGV
import Derived.Deep.DeepHandedRow
import Derived.Lib.LaidTab
namespace Go.Proofs.YtnlbgggnpoeleaaGreatDoor
open Go.ChangeShapes Go.WideShapes Go.ChangeAt Go.RowKit
theorem wireOwn:ownKnob Tryz.prog.godebug=none:=by kernel_rfl
theorem gTab : Tryz.prog.globalNamed "bevy/wire.bounds" = some 0 := by kernel_rfl
theorem gTabType:(Tryz.prog.globals[0]?).map (·.type)=some 112:=by kernel_rfl
theorem wireCellsTab:Tryz.prog.cellsOf 112=4:=by kernel_rfl
theorem wireCellsInt:Tryz.prog.cellsOf 3=1:=by kernel_rfl
noncomputable def laidWorld (os:Os):World:=
 { World.holding Tryz.prog os ⟨#[],#[],[]⟩ with heap:=(World.holding Tryz.prog os ⟨#[],#[],[]⟩).heap.modify 0 fun
   | .cells _ t frozen=>.cells #[.int .i64 63,.int .i64 16383,.int .i64 1073741823,.int .i64 4611686018427387903] t frozen
   | o=>o }
end Go.Proofs.YtnlbgggnpoeleaaGreatDoor
