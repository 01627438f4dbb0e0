/-
 PrimTag; PrimMask; PrimSeal; PrimOpen; PrimUnwrap; PrimWrap: several texts in one.
-/
import Derived.Test.YtanfnafiofkihaaGM
import Derived.StillTailTactics
import Derived.Laws.CopyRow
import Derived.Test.YtanfnafiofkihaaGL
import Derived.Test.YtanfnafiofkihaaGI
import Derived.Test.YtanfnafiofkihaaGB
import Derived.Deep.OwnRows
namespace Go.Proofs.Ytanfnafiofkihaa
open Go.RowKit Go.Lib
open List renaming setIfInBounds_toArray -> sA, set_cons_zero -> sB, set_cons_succ -> sC
open BigFrame renaming wpList_want -> wQ
def zeros16:Array Value:=(bcells (List.replicate 16 0)).toArray
end Go.Proofs.Ytanfnafiofkihaa
namespace Go.Proofs.Ytanfnafiofkihaa
open Go.RowKit
def mixed (s st:List UInt8)(j:Nat):List UInt8:=Pm.both (s.take j) (st.take j) ++ st.drop j
end Go.Proofs.Ytanfnafiofkihaa
namespace Go.Proofs.Ytanfnafiofkihaa
open Go.RowKit Go.Lib
open List renaming setIfInBounds_toArray -> sA, set_cons_zero -> sB, set_cons_succ -> sC
open BigFrame renaming wpList_want -> wQ
end Go.Proofs.Ytanfnafiofkihaa
