/-
 The document's Right.
-/
import Derived.Test.YtlpabcnhcbgfjaaTreeFew
namespace Go.Proofs.Ytlpabcnhcbgfjaa
open Go.RowKit Go.Lib
open List renaming setIfInBounds_toArray → sA, set_cons_zero → sB, set_cons_succ → sC
open BigFrame renaming wpList_want → wQ
namespace Tt
end Tt
end Go.Proofs.Ytlpabcnhcbgfjaa
