/-
 MacRefCode; MacRefDerive: several texts in one.
-/
import Derived.Test.YtinebhdilnndaaaGreatDoorGI
import Derived.Test.YtinebhdilnndaaaGreatDoorGJ
namespace Go.Proofs.YtinebhdilnndaaaGreatDoor
open Go.RowKit
theorem macInfo24:(Tryz.prog.info? 29).map (·.size) = some 32:=by kernel_rfl
end Go.Proofs.YtinebhdilnndaaaGreatDoor
