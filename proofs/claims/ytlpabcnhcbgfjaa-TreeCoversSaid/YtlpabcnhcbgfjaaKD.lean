/-
 Slices built of several arrays. No function of the program is named here.
-/
import Derived.Test.YtlpabcnhcbgfjaaGD
namespace Go.Proofs.Ytlpabcnhcbgfjaa
open Go.RowKit
section
variable {P:Program} {ops:Array Oper} {rest:List Oper} {o:Oper} {a:Act} {w w':World} {Q:Exit→Act→World→Prop}
theorem wpL_sliceN (hw:Region.wanted o (yielded ops a.tmps) = true)(t:TypeId)(n:Nat)(xs:Array (Nat × Operand))(ho:o.op = .buildSlice t n xs)(vs:Array (Nat × Value))(hv:(xs.map fun(i,x)=>(i,a.eval x)) = vs){u:Value}(hr:(Instr.buildSlice t n vs).run P w = .ok u w')(hk:wpList P ops Q rest (a.put o.dst u) w'):wpList P ops Q (o :: rest) a w:=by
 subst hv;refine wpList_step fun K hK=>?_
 rw [if_pos hw];unfold Oper.wp execOp;simp only [ho,Sem.run_bind,hr,Result.andThen_ok,Sem.run_pure];exact hK _ _ hk
end
end Go.Proofs.Ytlpabcnhcbgfjaa
