/-
 A writer that is being written.
-/
import Derived.Test.YtlpabcnhcbgfjaaGV
namespace Go.Proofs.Ytlpabcnhcbgfjaa
open Go.RowKit
section
variable {w0 w w1:World} {base b:Nat} {s:List UInt8}
end
end Go.Proofs.Ytlpabcnhcbgfjaa
