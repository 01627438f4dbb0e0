/-
 MacRefCode; MacRefDerive: several texts in one.
-/
import Derived.Test.YtanfnafiofkihaaGI
import Derived.Test.YtanfnafiofkihaaGJ
namespace Go.Proofs.Ytanfnafiofkihaa
open Go.RowKit
end Go.Proofs.Ytanfnafiofkihaa
