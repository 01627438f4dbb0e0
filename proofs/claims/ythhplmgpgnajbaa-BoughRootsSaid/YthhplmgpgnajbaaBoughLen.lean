/-
  What math/bits.Len answers, off the shelf.
-/
import Derived.Test.YthhplmgpgnajbaaBoughSide
import Derived.Test.YthhplmgpgnajbaaShelf
namespace Go.Proofs.Ythhplmgpgnajbaa
theorem lenIs : LenIs := fun x w h0 h1 => Try.bits_Len x w h0 h1
end Go.Proofs.Ythhplmgpgnajbaa
