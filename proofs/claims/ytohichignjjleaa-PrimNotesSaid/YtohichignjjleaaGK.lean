/-
  MacRefCode; MacRefDerive: several texts in one.
-/
import Derived.Test.YtohichignjjleaaGI
import Derived.Test.YtohichignjjleaaGJ

namespace Go.Proofs.Ytohichignjjleaa
open Go.RowKit

theorem macInfo24 : (Try.prog.info? 25).map (·.size) = some 32 := by kernel_rfl
end Go.Proofs.Ytohichignjjleaa

namespace Go.Proofs.Ytohichignjjleaa
open Go.RowKit

end Go.Proofs.Ytohichignjjleaa
