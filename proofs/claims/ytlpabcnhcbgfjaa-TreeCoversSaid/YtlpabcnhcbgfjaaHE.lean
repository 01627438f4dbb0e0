/-
 Opening a tree that comes in.
-/
import Derived.Test.YtlpabcnhcbgfjaaTreeRight
import Derived.Test.YtlpabcnhcbgfjaaGD
import Derived.Test.YtlpabcnhcbgfjaaGS
import Derived.Lib.SmallJoins
namespace Go.Proofs.Ytlpabcnhcbgfjaa
open Go.ChangeShapes Go.WideShapes Go.ChangeAt Go.RowKit Go.Deep Go.Lib Go.Joins
instance:Inhabited Lf:=⟨Lf.zero⟩
instance:Inhabited Pr:=⟨Pr.zero⟩
theorem part_at8 {es X:List Value}{off n j:Nat}{v:Value}(h:(es.drop off).take n = X)(hj:X[j]? = some v):es[off + j]? = some v:=by
 rw [← h,List.getElem?_take] at hj
 split at hj
 ·rwa [List.getElem?_drop] at hj
 ·cases hj
theorem intCells8:Try.prog.cellsOf 3 = 1:=by kernel_rfl
section
variable {H:Type} {enc:TypeId × Value→H} {w:World} {fuel:Nat} {cs:List Value} {x:DataW H × List MemPlace}
end
end Go.Proofs.Ytlpabcnhcbgfjaa
