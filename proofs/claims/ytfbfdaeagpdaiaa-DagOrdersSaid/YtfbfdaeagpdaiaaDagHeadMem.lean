/-
 What the law DagHead carries round its loop.
-/
import Derived.Test.YtfbfdaeagpdaiaaDagAwake
import Derived.Test.YtfbfdaeagpdaiaaRoundHeld
namespace Go.Proofs.Ytfbfdaeagpdaiaa
open Go.RowKit Go.Lib
open List renaming setIfInBounds_toArray → sA, set_cons_zero → sB, set_cons_succ → sC
open BigFrame renaming wpList_want → wQ
theorem yieldsIf_buildN15 {P:Program}{ops:Array Oper}{S:World→Prop}{op:Oper}{a:Act}(hw:Region.wanted op (yielded ops a.tmps) = true)(t:TypeId)(xs:Array (Nat × Operand))(ho:op.op = .build t xs)(vs:Array (Nat × Value))(hv:(xs.map fun(i,x)=>(i,a.eval x)) = vs)(u:Value)(hr:∀ w,(Instr.build t vs).run P w = .ok u w):YieldsIf P ops S op u a:=by
 subst hv
 exact .inl ⟨hw,fun w _=>by
  unfold execOp
  simp only [ho,Sem.run_bind,hr,Result.andThen_ok,Sem.run_pure]⟩
def Va (w:World)(v:Value)(M:List Vx):Prop:=(∀ x∈M,x.Ok)∧∃ ad g o c,v = .slice ad M.length c∧∀ i (hi:i < M.length),ad = some ⟨g,o,none⟩∧g < w.heap.size∧w.rangeAt g (o + i * 66) M[i].cells
theorem Va.kept {w w':World}{v:Value}{M:List Vx}(h:Va w v M)(k:Kept w.heap.size w.heap.size w w'):Va w' v M:=by
 obtain⟨h0,ad,g,o,c,rfl,h1⟩:=h;refine⟨h0,ad,g,o,c,rfl,fun i hi=>?_⟩
 obtain⟨a,b,d⟩:=h1 i hi;exact⟨a,Nat.lt_of_lt_of_le b k.size,rangeAt_kept k d b (Nat.ne_of_lt b)⟩
theorem range_id15 {w:World}{g o:Nat}{v:Vx}(h:w.rangeAt g o v.cells):w.rangeAt g o (bcells v.id):=fun j u hu=>h j u (by
 unfold Vx.cells;rw [List.getElem?_append_left (List.getElem?_eq_some_iff.1 hu).1]
 exact hu)
theorem range_par15 {w:World}{g o:Nat}{v:Vx}(hv:v.Ok)(h:w.rangeAt g o v.cells):w.rangeAt g (o + 32) (bcells v.par):=fun j u hu=>by
 have:=h (32 + j) u (by
  unfold Vx.cells;rw [List.getElem?_append_right (by rw [bcells_length,hv.1]; omega),bcells_length,hv.1,show 32 + j - 32 = j by omega,List.getElem?_append_left (List.getElem?_eq_some_iff.1 hu).1]
  exact hu)
 rwa [← Nat.add_assoc] at this
theorem range_dep15 {w:World}{g o:Nat}{v:Vx}(hv:v.Ok)(h:w.rangeAt g o v.cells):w.cell? ⟨g,o + 64,none⟩ = some (.int .i64 v.dep):=h 64 _ (vx_tail hv 0)
theorem range_dat15 {w:World}{g o:Nat}{v:Vx}(hv:v.Ok)(h:w.rangeAt g o v.cells):w.cell? ⟨g,o + 65,none⟩ = some (.int .i64 v.dat):=h 65 _ (vx_tail hv 1)
def dep0:Option Vx→Int
 | none=>-1
 | some v=>v.dep
theorem dep0_grows (h:Option Vx){v:Vx}(h0:0≤v.dep):dep0 h≤dep0 (some (Dg.newTop h v)):=by
 cases h with
 | none=>show -1≤v.dep; omega
 | some t=>exact Dg.newTop_dep t v
structure HdI (w wr:World) (rb cb sb:Nat) (keep:Int) (i:Nat) (dp:Int) (n:Nat) (F:Nat→Prop) (L:List Vx) (h:Option Vx) (Ps:List (List UInt8)) (ds:List Nat):Prop where
 res:Boxed wr rb 4 (.bool false)
 box:Boxed wr cb 25 (.pointer (some ⟨sb,0,none⟩))
 dst:Dst wr sb F keep n L h Ps
 st:Dg.St keep L h
 nle:n≤i
 old:∀ k,F k→w.heap.size≤k∧k≠rb∧k≠cb
 new:w.heap.size≤rb
 kp:Kept w.heap.size w.heap.size w wr
 dep:dp≤dep0 h
 marks:∀ d∈ds,w.heap.size≤d∧wr.heap[d]? = some (.deferred (some []))∧¬ F d
 nd:ds.Nodup
section
variable {w wr w':World} {rb cb sb i n:Nat} {keep dp:Int} {F:Nat→Prop} {L:List Vx} {h:Option Vx} {Ps:List (List UInt8)} {ds:List Nat}
theorem HdI.kept (H:HdI w wr rb cb sb keep i dp n F L h Ps ds)(k:Kept wr.heap.size wr.heap.size wr w'):HdI w w' rb cb sb keep i dp n F L h Ps ds:=
 ⟨row_kept H.res k,row_kept H.box k,H.dst.kept k,H.st,H.nle,H.old,H.new,H.kp.onto k,H.dep,fun d hd=>⟨(H.marks d hd).1,(k.block d (lt_of_block (H.marks d hd).2.1) (Nat.ne_of_lt (lt_of_block (H.marks d hd).2.1))).trans (H.marks d hd).2.1,(H.marks d hd).2.2⟩,H.nd⟩
theorem HdI.grown (H:HdI w wr rb cb sb keep i dp n F L h Ps ds){F':Nat→Prop}(hs:∀ k,F' k→F k∨wr.heap.size≤k)(d:Dfr F wr w'){n':Nat}{L':List Vx}{h':Option Vx}{Ps':List (List UInt8)}(hd:Dst w' sb F' keep n' L' h' Ps')(hst:Dg.St keep L' h')(hn:n'≤i + 1)(hdp:dp≤dep0 h'):HdI w w' rb cb sb keep (i + 1) dp n' F' L' h' Ps' ds:=by
 have hr:=lt_of_block H.res;have hc:=lt_of_block H.box;have hsz:=H.kp.size;refine⟨(d.block rb hr (fun hf=>(H.old rb hf).2.1 rfl)).trans H.res,(d.block cb hc (fun hf=>(H.old cb hf).2.2 rfl)).trans H.box,hd,hst,hn,fun k hk=>?_,H.new,?_,hdp,fun x hx=>?_,H.nd⟩
 ·rcases hs k hk with h1 | h1
  ·exact H.old k h1
  ·refine⟨by omega,?_,?_⟩
   ·rintro rfl; omega
   ·rintro rfl; omega
 ·exact far15 H.kp d (fun k hk=>(H.old k hk).1)
 ·obtain⟨a,b,c⟩:=H.marks x hx
  refine⟨a,(d.block x (lt_of_block b) c).trans b,fun hf=>?_⟩
  rcases hs x hf with h1 | h1
  ·exact c h1
  ·have:=lt_of_block b
   omega
theorem HdI.insert (H:HdI w wr rb cb sb keep i dp n F L h Ps ds){x:World}(k:Kept wr.heap.size wr.heap.size wr x){v:Vx}(hv:v.Ok){e:Ending}(hI:InsP x sb F keep n L h Ps v e w'):(∃ u:Value,e = .returned u)∧∃ (n':Nat) (F':Nat→Prop) (L':List Vx) (h':Option Vx) (Ps':List (List UInt8)),HdI w w' rb cb sb keep (i + 1) dp n' F' L' h' Ps' ds:=by
 have H2:=H.kept k;obtain⟨hk1,hk2⟩:=H.dst.keeps;obtain⟨F',h1,h2,h3⟩:=hI
 rcases h3 with ⟨er,_,rfl,hn,hd⟩ | ⟨ad,ln,c,rfl,rfl,hn,hd⟩
 ·exact⟨⟨_,rfl⟩,n,F',L,h,Ps,H2.grown h1 h2 hd H.st (by have:=H.nle; omega) H.dep⟩
 ·exact⟨⟨_,rfl⟩,n + 1,F',_,_,_,H2.grown h1 h2 hd (H.st.insert (by omega) hv hn.1 hn.2.1 hn.2.2.1) (by have:=H.nle; omega) (Int.le_trans H.dep (dep0_grows h hn.1))⟩
end
theorem Kept.setCell15 {w w':World}(h:Kept w.heap.size w.heap.size w w'){a:Addr}(ha:w.heap.size≤a.block)(v:Value):Kept w.heap.size w.heap.size w (w'.setCell a v):=by
 refine⟨h.os,h.tape,h.output,?_,fun i hi hn=>?_⟩
 ·show w.heap.size≤(w'.heap.modify _ _).size
  rw [Array.size_modify];exact h.size
 ·obtain⟨b,o,s⟩:=a
  have hne:b≠i:=by simp at ha; omega
  refine Eq.trans ?_ (h.block i hi hn);simp [World.setCell,Array.getElem?_modify,hne]
theorem results_cell1_15 {P:Program}{fn:Func}{p:Tmp}{ty:TypeId}(h:fn.results = #[.cell p ty])(tmps:Array Value)(w:World){rb:Nat}{v:Bool}(hb:Boxed w rb 4 (.bool v))(hp:tmps.getD p undef = .pointer (some ⟨rb,0,none⟩))(hty:ty = 4)(hP:P = Try.prog):(results fn tmps).run P w = .ok (.bool v) w:=by
 subst hty hP;have hp':tmps[p]?.getD undef = .pointer (some ⟨rb,0,none⟩):=by simpa using hp
 have hc:=hb.cell;simp [results,h,hp',asAddr];go_simp
theorem range_dfr15 {F:Nat→Prop}{w w':World}{g o:Nat}{cs:List Value}(h:w.rangeAt g o cs)(hg:g < w.heap.size)(k:Dfr F w w')(hn:¬ F g):w'.rangeAt g o cs:=fun j u hu=>by
 rw [World.cell?_of_block (a:=⟨g,o + j,none⟩) (w:=w) (k.block g hg hn)];exact h j u hu
theorem InsP.dfr15 {w w':World}{sb n:Nat}{F:Nat→Prop}{keep:Int}{L:List Vx}{h:Option Vx}{P:List (List UInt8)}{v:Vx}{e:Ending}(hI:InsP w sb F keep n L h P v e w'):Dfr F w w':=by
 obtain⟨_,_,h,_⟩:=hI;exact h
def mks (ds:List Nat):List Deferred:=ds.map fun d=>{ target:=.collected d,args:=#[] }
theorem leaves_marks15 {F:Fence}{n:Nat}{P:Program}{fn:Func}{tmps:Array Value}{w0:World}{rb:Nat}{t:TypeId}{v:Value}(hres:∀ w,Boxed w rb t v→(results fn tmps).run P w = .ok v w){R:Ending→World→Prop}(hR:∀ w,Kept w0.heap.size w0.heap.size w0 w→R (.returned v) w):
  ∀ (ds:List Nat) (w:World),Boxed w rb t v→(∀ d∈ds,w0.heap.size≤d∧w.heap[d]? = some (.deferred (some [])))→ds.Nodup→Kept w0.heap.size w0.heap.size w0 w→LeavesInM F n P fn tmps R (mks ds) .returning w
 | [],w,hb,_,_,hk=>⟨v,hres w hb,hR w hk⟩
 | d :: ds,w,hb,hd,hn,hk=>by
  obtain⟨h1,h2⟩:=hd d (by simp)
  obtain⟨n1,n2⟩:=List.nodup_cons.1 hn
  have hne:rb≠d:=by
   rintro rfl;rw [show w.heap[rb]? = _ from hb] at h2
   cases h2
  refine⟨by simp,.inl ⟨d,_,rfl,run_takeDeferred h2,?_⟩⟩;refine leaves_marks15 hres hR ds _ ((World.putObj_heap_other hne).trans hb) (fun x hx=>⟨(hd x (by simp [hx])).1,(World.putObj_heap_other (by rintro rfl; exact n1 hx)).trans (hd x (by simp [hx])).2⟩) n2 ?_
  exact⟨hk.os,hk.tape,hk.output,by rw [World.putObj_size]; exact hk.size,fun i hi hne=>(World.putObj_heap_other (by omega)).trans (hk.block i hi hne)⟩
end Go.Proofs.Ytfbfdaeagpdaiaa
