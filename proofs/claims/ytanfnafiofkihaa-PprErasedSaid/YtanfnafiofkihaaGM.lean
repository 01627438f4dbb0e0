/-
 PrimTwo; PrimPub: several texts in one.
-/
import Derived.Test.YtanfnafiofkihaaGL
import Derived.Test.YtanfnafiofkihaaGF
import Derived.Test.YtanfnafiofkihaaGH
namespace Go.Proofs.Ytanfnafiofkihaa
open Go.RowKit Go.Lib
open List renaming setIfInBounds_toArray -> sA, set_cons_zero -> sB, set_cons_succ -> sC
open BigFrame renaming wpList_want -> wQ
theorem keyInfo {l:List UInt8}(h:l.length = 32):(Try.prog.info? 26).map (·.size) = some (bcells l).toArray.size:=by rw [shaInfo30,List.size_toArray,bcells_length,h]
theorem keySize {l:List UInt8}(h:l.length = 32):zeros32.size = (bcells l).toArray.size:=by rw [zeros32_size,List.size_toArray,bcells_length,h]
theorem wp_build_one {P:Program}{o:Oper}{a:Act}{w:World}{K:Act->World->Prop}{Q:Exit->Act->World->Prop}(x:Operand)(t e:TypeId)(ho:o.op = .buildSlice t 1 #[(0,x)])(i:TypeInfo)(z:Value)(ht:P.underlying t = some (.slice e))(hi:P.info? e = some i)(hz:i.zero = some z)
  (cs:Array Value) (hx:a.eval x = .agg cs) (hs:cs.size = i.size) (hpos:0 < i.size) (hmax:i.size<=16777216) (hk:K (a.put o.dst (.slice (some ⟨w.heap.size,0,none⟩) 1 1)) (w.alloc (.cells cs e))):o.wp P a w K Q:=by
 have hr:=run_build_one (P:=P) w t e i z ht hi hz cs hs hpos hmax;unfold Oper.wp execOp;simp only [ho,List.map_toArray,List.map_cons,List.map_nil,hx,Sem.run_bind,hr,Result.andThen_ok,Sem.run_pure];exact hk
end Go.Proofs.Ytanfnafiofkihaa
