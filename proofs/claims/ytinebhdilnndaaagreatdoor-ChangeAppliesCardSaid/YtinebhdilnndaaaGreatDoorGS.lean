/-
 Numbers that come in as a slice.
-/
import Derived.Test.YtinebhdilnndaaaGreatDoorGA
import Derived.Test.YtinebhdilnndaaaGreatDoorChecked
import Derived.ChangeSlices
import Derived.ProofKit
import Derived.OpenShut
namespace Go.Proofs.YtinebhdilnndaaaGreatDoor
open Go.ChangeShapes Go.WideShapes Go.ChangeAt Go.RowKit
def Nums (w:World)(v:Value)(L:List Int):Prop:=∃ ad c g o,v = .slice ad L.length c/\∀ i (hi:i < L.length),ad = some ⟨g,o,none⟩/\g < w.heap.size/\w.cell? ⟨g,o + i,none⟩ = some (.int .i64 L[i])
end Go.Proofs.YtinebhdilnndaaaGreatDoor
