/-
 Slices built of several arrays. No function of the program is named here.
-/
import Derived.Test.YtnlbgggnpoeleaaGreatDoorGD
namespace Go.Proofs.YtnlbgggnpoeleaaGreatDoor
open Go.RowKit
theorem Qnu (size:Nat):∀(L:List (Array Value)) (k:Nat) (old:Array Value),(∀c∈L,c.size=size)->(k+L.length)*size<=old.size->Instr.fill (λi=>some (i*size,size)) old ((L.zipIdx k).map λx=>(x.2,Value.agg x.1))=some (old.toList.take (k*size)++(L.map (·.toList)).flatten++old.toList.drop ((k+L.length)*size)).toArray
 | [],k,old,_,_=>by
  rw[List.zipIdx_nil,List.map_nil,Instr.fill];simp
 | c::L,k,old,hs,ho=>by
  have hc:c.size=size:=hs c (List.mem_cons_self ..);have e0:(k+(c::L).length)*size=k*size+size+L.length*size:=by rw[List.length_cons,Nat.add_mul,Nat.add_mul];omega
  have h1:k*size+size<=old.size:=by omega
  rw[List.zipIdx_cons,List.map_cons,Qjs _ _ _ _ _ (k*size) size rfl hc h1,Qps c old (k*size) (by omega)]
  have hlen:(old.toList.take (k*size)++c.toList).length=(k+1)*size:=by
   rw[zE,List.length_take,Nat.min_eq_left (by simp;omega),Nat.add_mul]
   simp
   omega
  rw[Qnu size L (k+1) _ (λd hd=>hs d (List.mem_cons_of_mem _ hd)) (by simp;rw[Nat.add_mul,Nat.add_mul];omega)]
  congr 1
  apply Array.ext';simp only[hc];rw[List.take_append_of_le_length (by omega),List.take_of_length_le (by omega),List.map_cons,List.flatten_cons]
  rw[List.drop_append,List.drop_of_length_le (by rw[hlen];apply Nat.mul_le_mul_right;omega),hlen,List.nil_append,List.drop_drop]
  have e2:k*size+size+((k+1+L.length)*size-(k+1)*size)=(k+(c::L).length)*size:=by
   rw[e0,Nat.add_mul (k+1),Nat.add_sub_cancel_left]
  rw[e2];simp only[List.append_assoc]
theorem Qnt (size:Nat)(L:List (Array Value))(hs:∀c∈L,c.size=size)(old:Array Value)(ho:old.size=L.length*size):Instr.fill (λi=>some (i*size,size)) old (L.zipIdx.map λx=>(x.2,Value.agg x.1))=some (L.map (·.toList)).flatten.toArray:=by
 rw[Qnu size L 0 old hs (by rw[Nat.zero_add];omega)]
 congr 1
 apply Array.ext';simp[ho]
theorem Qit {P:Program}(w:World)(t e:TypeId)(i:TypeInfo)(z:Value)(ht:P.underlying t=some (.slice e))(hi:P.info? e=some i)(hz:i.zero=some z)(c0 c1 c2:Array Value)(h0:c0.size=i.size)(h1:c1.size=i.size)(h2:c2.size=i.size)(hpos:0<i.size)(hmax:3*i.size<=16777216):
  (Instr.buildSlice t 3 #[(0,.agg c0),(1,.agg c1),(2,.agg c2)]).run P w=.ok (.slice (some ⟨w.heap.size,0,none⟩) 3 3) (w.alloc (.cells (c0.toList++c1.toList++c2.toList).toArray e)):=by
 have n0:¬(3*i.size=0):=by omega
 have n1:¬(16777216<3*i.size):=by omega
 have hf:∀old:Array Value,old.size=3*i.size->Instr.fill (λk=>some (k*i.size,i.size)) old [(0,.agg c0),(1,.agg c1),(2,.agg c2)]=some (c0.toList++c1.toList++c2.toList).toArray:=λold ho=>by
  have:=Qnt i.size [c0,c1,c2] (by intro c hc;simp only[List.mem_cons,List.not_mem_nil,or_false] at hc;rcases hc with rfl|rfl|rfl <;> assumption) old (by rw[ho];rfl)
  rw[show([c0,c1,c2].zipIdx.map λx=>(x.2,Value.agg x.1))=[(0,.agg c0),(1,.agg c1),(2,.agg c2)] from rfl,show([c0,c1,c2].map (·.toList)).flatten=c0.toList++c1.toList++c2.toList by simp] at this
  exact this
 simp only[Instr.buildSlice];simp[run_underlying ht,sizeOf,typeInfo,hi,zeroValue,hz,n1,newRow];rw[if_neg n0,hf _ (by simp)]
 simp
theorem Qj9 {P:Program}(w:World)(t e:TypeId)(i:TypeInfo)(z:Value)(ht:P.underlying t=some (.slice e))(hi:P.info? e=some i)(hz:i.zero=some z)(c0 c1 c2 c3:Array Value)(h0:c0.size=i.size)(h1:c1.size=i.size)(h2:c2.size=i.size)(h3:c3.size=i.size)(hpos:0<i.size)(hmax:4*i.size<=16777216):
  (Instr.buildSlice t 4 #[(0,.agg c0),(1,.agg c1),(2,.agg c2),(3,.agg c3)]).run P w=.ok (.slice (some ⟨w.heap.size,0,none⟩) 4 4) (w.alloc (.cells (c0.toList++c1.toList++c2.toList++c3.toList).toArray e)):=by
 have n0:¬(4*i.size=0):=by omega
 have n1:¬(16777216<4*i.size):=by omega
 have hf:∀old:Array Value,old.size=4*i.size->Instr.fill (λk=>some (k*i.size,i.size)) old [(0,.agg c0),(1,.agg c1),(2,.agg c2),(3,.agg c3)]=some (c0.toList++c1.toList++c2.toList++c3.toList).toArray:=λold ho=>by
  have:=Qnt i.size [c0,c1,c2,c3] (by intro c hc;simp only[List.mem_cons,List.not_mem_nil,or_false] at hc;rcases hc with rfl|rfl|rfl|rfl <;> assumption) old (by rw[ho];rfl)
  rw[show([c0,c1,c2,c3].zipIdx.map λx=>(x.2,Value.agg x.1))=[(0,.agg c0),(1,.agg c1),(2,.agg c2),(3,.agg c3)] from rfl,show([c0,c1,c2,c3].map (·.toList)).flatten=c0.toList++c1.toList++c2.toList++c3.toList by simp] at this
  exact this
 simp only[Instr.buildSlice];simp[run_underlying ht,sizeOf,typeInfo,hi,zeroValue,hz,n1,newRow];rw[if_neg n0,hf _ (by simp)]
 simp
section
variable {P:Program} {ops:Array Oper} {rest:List Oper} {o:Oper} {a:Act} {w w':World} {Q:Exit->Act->World->Prop}
theorem Qkn (hw:Region.wanted o (yielded ops a.tmps)=true)(t:TypeId)(n:Nat)(xs:Array (Nat × Operand))(ho:o.op=.buildSlice t n xs)(vs:Array (Nat × Value))(hv:(xs.map λ(i,x)=>(i,a.eval x))=vs){u:Value}(hr:(Instr.buildSlice t n vs).run P w=.ok u w')(hk:wpList P ops Q rest (a.put o.dst u) w'):wpList P ops Q (o::rest) a w:=by
 subst hv;refine wpList_step λK hK=>?_
 rw[zG hw];unfold Oper.wp execOp;simp only[ho,Sem.run_bind,hr,Result.andThen_ok,Sem.run_pure];exact hK _ _ hk
end
end Go.Proofs.YtnlbgggnpoeleaaGreatDoor
