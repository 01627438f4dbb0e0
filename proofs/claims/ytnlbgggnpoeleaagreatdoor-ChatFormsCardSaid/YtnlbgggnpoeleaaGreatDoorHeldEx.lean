/-
 A region that draws its order: an operation that only reads taken first, its value found by the walk. No function of the program is named here.
-/
import Derived.Test.YtnlbgggnpoeleaaGreatDoorGA
namespace Go.Proofs.YtnlbgggnpoeleaaGreatDoor
open Go.RowKit
theorem Qj6 {P:Program}{ops:Array Oper}{Q:Exit->Act->World->Prop}{md:Region.Mode}{S:World->Prop}{i:Nat}{oi:Oper}(d:Tmp){fuel:Nat}{listed:Array Bool}{tm:Array Value}{df:List Deferred}{w:World}(hi:ops[i]?=some oi)(hd:oi.dst=some d)
  (hs:Region.noSelect ops=true) (hf:Region.free md ops listed i=true) (hr:(Region.ready md ops listed).contains i=true)
  (hQ:∀(c:_) (a:Act) (v:Value) w,Q (.panic c) (a.put oi.dst v) w->Q (.panic c) a w) (hw:Region.wanted oi (yielded ops tm)=true) (hS:S w)
  (h:∃v,(∀w,S w->(execOp (Act.mk tm df).eval oi).run P w=.ok (.value v) w)/\wpAnyH P md ops Q S fuel (listed.setIfInBounds i true) ⟨tm.setIfInBounds d v,df⟩ w):wpAnyH P md ops Q S (fuel+1) listed ⟨tm,df⟩ w:=by
 obtain⟨v,h1,h2⟩:=h;exact Qfr d v hi hd hs hf hr (λc a w=>hQ c a v w) (.inl ⟨hw,h1⟩) hS h2
theorem tkE {P:Program}{ops:Array Oper}{Q:Exit->Act->World->Prop}{md:Region.Mode}{S:World->Prop}{i:Nat}{oi:Oper}(d:Tmp){fuel:Nat}{listed:Array Bool}{tm:Array Value}{df:List Deferred}{w:World}(hi:ops[i]?=some oi)(hS:S w)
  (h:∃v,(∀w,S w->(execOp (Act.mk tm df).eval oi).run P w=.ok (.value v) w)/\wpAnyH P md ops Q S fuel (listed.setIfInBounds i true) ⟨tm.setIfInBounds d v,df⟩ w)(hd:oi.dst=some d:=by rfl)(hs:Region.noSelect ops=true:=by kernel_rfl)(hf:Region.free md ops listed i=true:=by kernel_rfl)(hr:(Region.ready md ops listed).contains i=true:=by kernel_rfl)(hQ:∀(c:_) (a:Act) (v:Value) w,Q (.panic c) (a.put oi.dst v) w->Q (.panic c) a w:=by exact λ_ _ _ _ h=>h)(hw:Region.wanted oi (yielded ops tm)=true:=by kernel_rfl):wpAnyH P md ops Q S (fuel+1) listed ⟨tm,df⟩ w:=
 Qj6 d hi hd hs hf hr hQ hw hS h
section
variable {P:Program} {ops:Array Oper} {rest:List Oper} {o:Oper} {a:Act} {w w':World} {Q:Exit->Act->World->Prop}
theorem Qas (hw:Region.wanted o (yielded ops a.tmps)=true)(t:TypeId)(ho:o.op=.alloc t){u:Value}(hr:(Instr.alloc t true (.tuple #[])).run P w=.ok u w')(hk:wpList P ops Q rest (a.put o.dst u) w'):wpList P ops Q (o::rest) a w:=by
 refine wpList_step λK hK=>?_
 rw[zG hw];unfold Oper.wp execOp;simp only[ho,Sem.run_bind,hr,Result.andThen_ok,Sem.run_pure];exact hK _ _ hk
theorem Qap (hw:Region.wanted o (yielded ops a.tmps)=true)(t:TypeId)(ho:o.op=.build t #[]){u:Value}(hr:(Instr.build t #[]).run P w=.ok u w)(hk:wpList P ops Q rest (a.put o.dst u) w):wpList P ops Q (o::rest) a w:=by
 refine wpList_step λK hK=>?_
 rw[zG hw];unfold Oper.wp execOp;simp only[ho,List.map_toArray,List.map_nil,Sem.run_bind,hr,Result.andThen_ok,Sem.run_pure];exact hK _ _ hk
end
end Go.Proofs.YtnlbgggnpoeleaaGreatDoor
