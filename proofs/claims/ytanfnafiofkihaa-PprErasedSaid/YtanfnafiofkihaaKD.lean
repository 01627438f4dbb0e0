/-
 Slices built of several arrays. No function of the program is named here.
-/
import Derived.Test.YtanfnafiofkihaaGD
namespace Go.Proofs.Ytanfnafiofkihaa
open Go.RowKit
section
variable {P:Program} {ops:Array Oper} {rest:List Oper} {o:Oper} {a:Act} {w w':World} {Q:Exit->Act->World->Prop}
theorem wp_sliceN {K:Act->World->Prop}(t:TypeId)(n:Nat)(xs:Array (Nat × Operand))(ho:o.op = .buildSlice t n xs)(vs:Array (Nat × Value))(hv:(xs.map λ(i,x)=>(i,a.eval x)) = vs){u:Value}(hr:(Instr.buildSlice t n vs).run P w = .ok u w')(hk:K (a.put o.dst u) w'):o.wp P a w K Q:=by
 subst hv;unfold Oper.wp execOp;simp only [ho,Sem.run_bind,hr,Result.andThen_ok,Sem.run_pure];exact hk
end
end Go.Proofs.Ytanfnafiofkihaa
