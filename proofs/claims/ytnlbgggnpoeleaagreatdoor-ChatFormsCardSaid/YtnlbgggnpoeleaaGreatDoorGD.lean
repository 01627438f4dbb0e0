/-
 BookRow; BookOwn; BookHash; BuildTwo; BookMap; BookHas; BookPutter; BookMath; BookPut; BookFacts; BookInv; BookKnown; BookNote: several texts in one.
-/
import Derived.Laws.AppendOwn
import Derived.Laws.OwnMore
import Derived.Maps.AppendAt
import Derived.Maps.RangeWalk
import Derived.WideKeyEntry
import Derived.DeepKeys4
import Derived.Lib.LaidTab
import Derived.Test.YtnlbgggnpoeleaaGreatDoorGB
import Derived.Deep.CutBlock
import Derived.Deep.DeepCutAuto
namespace Go.Proofs.YtnlbgggnpoeleaaGreatDoor
open Go.RowKit Go.Lib
open List renaming setIfInBounds_toArray -> sA, set_cons_zero -> sB, set_cons_succ -> sC
open BigFrame renaming wpList_want -> wQ
def Hs (w:World)(v:Value)(L:List (List UInt8)):Prop:=
 (∀x∈L,x.length=32)/\∃ad g o c,v=.slice ad L.length c/\∀i (hi:i<L.length),ad=some ⟨g,o,none⟩/\g<w.heap.size/\w.rangeAt g (o+i*32) (bY L[i])
theorem Qaf {base b:Nat}{w w':World}(k:Kept base b w w'){g o:Nat}{cs:List Value}(h:w.rangeAt g o cs)(hg:g<base)(hb:g≠b):w'.rangeAt g o cs:=λj v hv=>(k.cell (p:=⟨g,o+j,none⟩) hg hb).trans (h j v hv)
theorem Hs.kept {w w':World}{v:Value}{L:List (List UInt8)}(h:Hs w v L)(k:Kept w.heap.size w.heap.size w w'):Hs w' v L:=by
 obtain⟨h0,ad,g,o,c,rfl,h1⟩:=h;refine⟨h0,ad,g,o,c,rfl,λi hi=>?_⟩
 obtain⟨a,b,d⟩:=h1 i hi;exact⟨a,zC b k.size,Qaf k d b (zD b)⟩
theorem Hs.nil (w:World):Hs w (.slice none 0 0) []:=⟨(λ_ h=>nomatch h),none,0,0,0,rfl,λ_ h=>absurd h (Nat.not_lt_zero _)⟩
def Own (w:World)(base:Nat)(v:Value)(M:List (List UInt8)):Prop:=(∀x∈M,x.length=32)/\w.ownsRow base 22 32 v M.length (bY M.flatten)
theorem Own.nil (w:World)(base:Nat):Own w base (.slice none 0 0) []:=⟨(λ_ h=>nomatch h),World.ownsRow_nil w base 22 32⟩
theorem Qhh:∀ (M:List (List UInt8)),(∀x∈M,x.length=32)->∀i (hi:i<M.length) j,j<32->M.flatten[i*32+j]?=M[i][j]?
 | [],_,i,hi,_,_=>absurd hi (Nat.not_lt_zero _)
 | x::M,h,0,_,j,hj=>by
  have hx:=h x (by simp)
  rw[List.flatten_cons,Nat.zero_mul,Nat.zero_add,List.getElem?_append_left (by omega)]
  rfl
 | x::M,h,i+1,hi,j,hj=>by
  have hx:=h x (by simp)
  rw[List.flatten_cons,List.getElem?_append_right (by omega),show(i+1)*32+j-x.length=i*32+j by omega]
  exact Qhh M (λy hy=>h y (by simp[hy])) i (by simpa using hi) j hj
theorem Qd1:∀ (M:List (List UInt8)),(∀x∈M,x.length=32)->M.flatten.length=M.length*32
 | [],_=>rfl
 | x::M,h=>by
  rw[List.flatten_cons,zE,Qd1 M (λy hy=>h y (by simp[hy])),h x (by simp),List.length_cons]
  omega
theorem Own.hs {w:World}{base:Nat}{v:Value}{M:List (List UInt8)}(h:Own w base v M):Hs w v M:=by
 obtain⟨h32,ho⟩:=h;refine⟨h32,?_⟩;have hlt:=ho.lt;have h0:=ho
 rcases ho.2 with⟨rfl,hn⟩|⟨g,cap,cur,rfl,hb,_⟩
 ·obtain rfl:=List.length_eq_zero_iff.1 hn
  exact⟨none,0,0,0,rfl,λ_ h=>absurd h (Nat.not_lt_zero _)⟩
 ·refine⟨some ⟨g,0,none⟩,g,0,cap,rfl,λi hi=>⟨rfl,(hlt g rfl).2,λj u hu=>?_⟩⟩
  have hx:=h32 M[i] (List.getElem_mem hi)
  have hj:j<32:=by
   rcases Nat.lt_or_ge j 32 with h1|h1
   ·exact h1
   ·rw[List.getElem?_eq_none (by rw[bZ,hx];exact h1)] at hu;cases hu
  have h2:=h0.cells (g:=g) rfl (i*32+j) u (by
   rw[bY,List.getElem?_map] at hu |-;rw[Qhh M h32 i hi j hj]
   exact hu)
  rw[Addr.add_lit,Nat.zero_add] at h2;rw[Nat.zero_add];exact h2
theorem Own.alloc {w:World}{base:Nat}{v:Value}{M:List (List UInt8)}(h:Own w base v M)(o:Obj):Own (w.alloc o) base v M:=⟨h.1,h.2.alloc o⟩
theorem Own.kept {w w':World}{base b:Nat}{v:Value}{M:List (List UInt8)}(h:Own w base v M)(k:Kept w.heap.size b w w')(hb:w.heap.size<=b):Own w' base v M:=
 ⟨h.1,h.2.kept (row:=none) ⟨k.os,k.tape,k.output,k.size,λi hi _=>k.block i hi (by omega)⟩ (by cases hv:v.ownBlock <;> simp)⟩
theorem Own.low {w:World}{base:Nat}{v:Value}{M:List (List UInt8)}(h:Own w base v M):∀k,v.ownBlock=some k->base<=k/\k<w.heap.size:=h.2.lt
theorem hashInfoAll:(Tryz.prog.info? 23).map (λi=>(i.zero.map (·.cells.size),i.size,i.bytes))=some (some 32,32,32):=by kernel_rfl
theorem Qgr:∃ i z,Tryz.prog.info? 23=some i/\i.zero=some z/\z.cells.size=32/\i.size=32/\i.bytes=32:=by
 have h:=hashInfoAll
 cases hq:Tryz.prog.info? 23 with
 | none=>rw[hq] at h;cases h
 | some i=>
  rw[hq] at h;simp only[Option.map_some,Option.some.injEq,Prod.mk.injEq] at h
  cases hz:i.zero with
  | none=>rw[hz] at h;cases h.1
  | some z=>
   rw[hz] at h;simp only[Option.map_some,Option.some.injEq] at h;exact⟨i,z,rfl,hz,h.1,h.2.1,h.2.2⟩
def OwnH (w:World)(base:Nat)(v:Value)(M:List (List UInt8)):Prop:=(∀x∈M,x.length=32)/\w.ownsRow base 23 32 v M.length (bY M.flatten)
theorem OwnH.nil (w:World)(base:Nat):OwnH w base (.slice none 0 0) []:=⟨(λ_ h=>nomatch h),World.ownsRow_nil w base 23 32⟩
theorem OwnH.hs {w:World}{base:Nat}{v:Value}{M:List (List UInt8)}(h:OwnH w base v M):Hs w v M:=by
 obtain⟨h32,ho⟩:=h;refine⟨h32,?_⟩;have hlt:=ho.lt;have h0:=ho
 rcases ho.2 with⟨rfl,hn⟩|⟨g,cap,cur,rfl,hb,_⟩
 ·obtain rfl:=List.length_eq_zero_iff.1 hn
  exact⟨none,0,0,0,rfl,λ_ h=>absurd h (Nat.not_lt_zero _)⟩
 ·refine⟨some ⟨g,0,none⟩,g,0,cap,rfl,λi hi=>⟨rfl,(hlt g rfl).2,λj u hu=>?_⟩⟩
  have hx:=h32 M[i] (List.getElem_mem hi)
  have hj:j<32:=by
   rcases Nat.lt_or_ge j 32 with h1|h1
   ·exact h1
   ·rw[List.getElem?_eq_none (by rw[bZ,hx];exact h1)] at hu;cases hu
  have h2:=h0.cells (g:=g) rfl (i*32+j) u (by
   rw[bY,List.getElem?_map] at hu |-;rw[Qhh M h32 i hi j hj]
   exact hu)
  rw[Addr.add_lit,Nat.zero_add] at h2;rw[Nat.zero_add];exact h2
theorem OwnH.alloc {w:World}{base:Nat}{v:Value}{M:List (List UInt8)}(h:OwnH w base v M)(o:Obj):OwnH (w.alloc o) base v M:=⟨h.1,h.2.alloc o⟩
theorem OwnH.kept {w w':World}{base b:Nat}{v:Value}{M:List (List UInt8)}(h:OwnH w base v M)(k:Kept w.heap.size b w w')(hb:w.heap.size<=b):OwnH w' base v M:=
 ⟨h.1,h.2.kept (row:=none) ⟨k.os,k.tape,k.output,k.size,λi hi _=>k.block i hi (by omega)⟩ (by cases hv:v.ownBlock <;> simp)⟩
theorem OwnH.low {w:World}{base:Nat}{v:Value}{M:List (List UInt8)}(h:OwnH w base v M):∀k,v.ownBlock=some k->base<=k/\k<w.heap.size:=h.2.lt
theorem OwnH.init {w:World}{base g c:Nat}{n:Nat}{M:List (List UInt8)}(h:OwnH w base (.slice (some ⟨g,0,none⟩) n c) M)(hn:n=M.length):OwnH w base (.slice (some ⟨g,0,none⟩) (n-1) c) M.dropLast:=by
 obtain⟨h32,ho⟩:=h;subst hn;refine⟨λx hx=>h32 x (List.dropLast_subset M hx),?_⟩
 have hfl:M.dropLast.flatten=M.flatten.take ((M.length-1)*32):=by
  rcases List.eq_nil_or_concat M with rfl|⟨L,x,rfl⟩
  ·rfl
  ·have hl:=Qd1 L (λy hy=>h32 y (by simp[hy]))
   rw[List.concat_eq_append,List.dropLast_concat,List.flatten_append,zE,List.length_singleton,Nat.add_sub_cancel,<-hl,List.take_left]
 rcases ho.2 with⟨h,_⟩|⟨g',cap,cur,hv,hb,hh,h1,h2,h3,h4⟩
 ·cases h
 ·cases hv
  refine⟨?_,.inr ⟨g,c,cur,?_,hb,hh,by rw[List.length_dropLast];omega,h2,h3,?_⟩⟩
  ·rw[bZ,Qd1 _ (λx hx=>h32 x (List.dropLast_subset M hx))]
  ·rw[List.length_dropLast]
  ·rw[List.length_dropLast,hfl]
   have:bY (M.flatten.take ((M.length-1)*32))=(bY M.flatten).take ((M.length-1)*32):=by simp[bY,List.map_take]
   rw[this,<-h4,List.take_take,Nat.min_eq_left (Nat.mul_le_mul_right _ (by omega))]
theorem OwnH.grown {w w':World}{base:Nat}{v:Value}{M:List (List UInt8)}{row:Option Nat}(h:OwnH w base v M)(hg:w.grownBy w' row)(hne:v.ownBlock=none\/v.ownBlock≠row):OwnH w' base v M:=⟨h.1,h.2.kept hg hne⟩
theorem OwnH.mono {w:World}{base base':Nat}{v:Value}{M:List (List UInt8)}(h:OwnH w base v M)(hb:base'<=base):OwnH w base' v M:=by
 refine⟨h.1,h.2.1,?_⟩
 rcases h.2.2 with h1|⟨g,cap,cur,hv,hb2,rest⟩
 ·exact .inl h1
 ·exact .inr ⟨g,cap,cur,hv,Nat.le_trans hb hb2,rest⟩
theorem OwnH.stayAt {w w':World}{base:Nat}{v:Value}{M:List (List UInt8)}(h:OwnH w base v M)(hs:∀(k:Nat) (cs:Array Value) (fr:Nat × Nat),v.ownBlock=some k->w.heap[k]?=some (Obj.cells cs 23 fr)->w'.heap[k]?=some (Obj.cells cs 23 fr)):OwnH w' base v M:=by
 refine⟨h.1,h.2.1,?_⟩
 rcases h.2.2 with h1|⟨g,cap,cur,hv,hb2,hh,rest⟩
 ·exact .inl h1
 ·exact .inr ⟨g,cap,cur,hv,hb2,hs _ _ _ (by rw[hv];rfl) hh,rest⟩
theorem OwnH.stay {w w':World}{base:Nat}{v:Value}{M:List (List UInt8)}(h:OwnH w base v M)(hs:∀(k:Nat) (cs:Array Value) (fr:Nat × Nat),w.heap[k]?=some (Obj.cells cs 23 fr)->w'.heap[k]?=some (Obj.cells cs 23 fr)):OwnH w' base v M:=by
 refine⟨h.1,h.2.1,?_⟩
 rcases h.2.2 with h1|⟨g,cap,cur,hv,hb2,hh,rest⟩
 ·exact .inl h1
 ·exact .inr ⟨g,cap,cur,hv,hb2,hs _ _ _ hh,rest⟩
def ints (l:List Nat):List Value:=l.map λ(n:Nat)=>Value.int .i64 (n:Int)
theorem Qwj (l:List Nat)(i:Nat)(hi:i<l.length):(ints l)[i]?=some (.int .i64 (l[i]:Nat)):=by simp[ints,hi]
def OwnI (w:World)(base:Nat)(v:Value)(l:List Nat):Prop:=w.ownsRow base 3 1 v l.length (ints l)
theorem OwnI.nil (w:World)(base:Nat):OwnI w base (.slice none 0 0) []:=World.ownsRow_nil w base _ 1
theorem OwnI.shape {w:World}{base:Nat}{v:Value}{l:List Nat}(h:OwnI w base v l):∃ad g c,v=.slice ad l.length c/\(l≠[]->ad=some ⟨g,0,none⟩/\g<w.heap.size):=by
 have hlt:=h.lt
 rcases h.2 with⟨rfl,hn⟩|⟨g,cap,cur,rfl,_⟩
 ·refine⟨none,0,0,by rw[hn],λhl=>absurd (List.length_eq_zero_iff.1 hn) hl⟩
 ·exact⟨some ⟨g,0,none⟩,g,cap,rfl,λ_=>⟨rfl,(hlt g rfl).2⟩⟩
theorem OwnI.cell {w:World}{base g n c:Nat}{l:List Nat}(h:OwnI w base (.slice (some ⟨g,0,none⟩) n c) l)(i:Nat)(hi:i<l.length):w.cell? ⟨g,0+i,none⟩=some (.int .i64 (l[i]:Nat)):=by
 have:=h.cells (g:=g) rfl i _ (Qwj l i hi)
 rwa[Addr.add_lit] at this
theorem OwnI.stay {w w':World}{base:Nat}{v:Value}{l:List Nat}(h:OwnI w base v l)(hs:∀k,v.ownBlock=some k->w'.heap[k]?=w.heap[k]?):OwnI w' base v l:=by
 refine⟨h.1,?_⟩
 rcases h.2 with h1|⟨g,cap,cur,rfl,hb2,hh,rest⟩
 ·exact .inl h1
 ·exact .inr ⟨g,cap,cur,rfl,hb2,(hs g rfl).trans hh,rest⟩
open Go.RowKit
theorem Qk6:∀ (l:List Value) (k:Nat) (acc:Array Value) (o:Nat),o+k+l.length<=acc.size->(l.zipIdx k).foldl (λcs (x:Value × Nat)=>cs.setIfInBounds (o+x.2) x.1) acc=(acc.toList.take (o+k)++l++acc.toList.drop (o+k+l.length)).toArray
 | [],k,acc,o,h=>by
  apply Array.ext';simp
 | v::l,k,acc,o,h=>by
  rw[List.zipIdx_cons,List.foldl_cons,Qk6 l (k+1) _ o (by simp at h |-;omega)]
  apply Array.ext';simp only[Array.toList_setIfInBounds];have hk:o+k<acc.toList.length:=by simp at h |-;omega
  rw[show o+(k+1)=o+k+1 by omega,List.take_succ_eq_append_getElem (by rw[List.length_set];exact hk),List.getElem_set_self,List.take_set_of_le (zB _),List.drop_set_of_lt (by omega)]
  simp only[List.append_assoc,List.cons_append,List.nil_append,List.length_cons]
  congr 4
  omega
theorem Qps (cs old:Array Value)(o:Nat)(h:o+cs.size<=old.size):cs.zipIdx.foldl (λa (x:Value × Nat)=>a.setIfInBounds (o+x.2) x.1) old=(old.toList.take o++cs.toList++old.toList.drop (o+cs.size)).toArray:=by
 rw[<-Array.foldl_toList,Array.toList_zipIdx,Qk6 cs.toList 0 old o (by simpa using h)]
 simp
theorem Qjs (place:Nat->Option (Nat × Nat))(cells:Array Value)(i:Nat)(cs:Array Value)(rest:List (Nat × Value))(off size:Nat)(hp:place i=some (off,size))(hs:cs.size=size)(ho:off+size<=cells.size):Instr.fill place cells ((i,.agg cs)::rest)=Instr.fill place (cs.zipIdx.foldl (λa (x:Value × Nat)=>a.setIfInBounds (off+x.2) x.1) cells) rest:=by
 have h1:(Value.agg cs).cells.size=size:=hs;have h2:¬(cells.size<off+size):=by omega
 rw[Instr.fill,hp];simp only[h1,ne_eq,not_true_eq_false,decide_false,Bool.false_or,gt_iff_lt,h2]
 rfl
theorem Qwr (size:Nat)(cs ds old:Array Value)(hc:cs.size=size)(hd:ds.size=size)(ho:old.size=2*size):Instr.fill (λi=>some (i*size,size)) old [(0,.agg cs),(1,.agg ds)]=some (cs++ds):=by
 have e1:=Qps cs old (0*size) (by omega)
 have l1:((old.toList.take (0*size)++cs.toList++old.toList.drop (0*size+cs.size)).toArray:Array Value).size=2*size:=by simp;omega
 have hx:(old.toList.take (0*size)++cs.toList++old.toList.drop (0*size+cs.size))=cs.toList++old.toList.drop cs.size:=by simp
 have hfin:(((cs.toList++old.toList.drop cs.size).take (1*size)++ds.toList++(cs.toList++old.toList.drop cs.size).drop (1*size+ds.size)).toArray:Array Value)=cs++ds:=by
  apply Array.ext';rw[List.take_append_of_le_length (by simp;omega),List.take_of_length_le (by simp;omega),List.drop_of_length_le (by simp;omega)]
  simp
 rw[hx] at e1 l1;have e2:=Qps ds (cs.toList++old.toList.drop cs.size).toArray (1*size) (by rw[l1];omega)
 rw[Qjs _ _ _ _ _ (0*size) size rfl hc (by omega),e1,Qjs _ _ _ _ _ (1*size) size rfl hd (by rw[l1];omega),e2,hfin]
 rfl
theorem Qln {P:Program}(w:World)(t e:TypeId)(i:TypeInfo)(z:Value)(ht:P.underlying t=some (.slice e))(hi:P.info? e=some i)(hz:i.zero=some z)(cs ds:Array Value)(hs:cs.size=i.size)(hs2:ds.size=i.size)(hpos:0<i.size)(hmax:2*i.size<=16777216):
  (Instr.buildSlice t 2 #[(0,.agg cs),(1,.agg ds)]).run P w=.ok (.slice (some ⟨w.heap.size,0,none⟩) 2 2) (w.alloc (.cells (cs++ds) e)):=by
 have n0:¬(2*i.size=0):=by omega
 have n1:¬(16777216<2*i.size):=by omega
 have hf:=λold ho=>Qwr i.size cs ds old hs hs2 ho
 simp only[Instr.buildSlice];simp[run_underlying ht,sizeOf,typeInfo,hi,zeroValue,hz,n1,newRow];rw[if_neg n0,hf _ (by simp)]
 rfl
theorem Qf9 {P:Program}{ops:Array Oper}{rest:List Oper}{o:Oper}{a:Act}{w:World}{Q:Exit->Act->World->Prop}(hw:Region.wanted o (yielded ops a.tmps)=true)(x y:Operand)(t e:TypeId)(ho:o.op=.buildSlice t 2 #[(0,x),(1,y)])(i:TypeInfo)(z:Value)(ht:P.underlying t=some (.slice e))(hi:P.info? e=some i)(hz:i.zero=some z)
  (cs ds:Array Value) (hx:a.eval x=.agg cs) (hy:a.eval y=.agg ds) (hs:cs.size=i.size) (hs2:ds.size=i.size) (hpos:0<i.size) (hmax:2*i.size<=16777216) (hk:wpList P ops Q rest (a.put o.dst (.slice (some ⟨w.heap.size,0,none⟩) 2 2)) (w.alloc (.cells (cs++ds) e))):wpList P ops Q (o::rest) a w:=by
 refine wpList_step λK hK=>?_
 rw[zG hw];have hr:=Qln (P:=P) w t e i z ht hi hz cs ds hs hs2 hpos hmax;unfold Oper.wp execOp;simp only[ho,List.map_toArray,List.map_cons,List.map_nil,hx,hy,Sem.run_bind,hr,Result.andThen_ok,Sem.run_pure];exact hK _ _ hk
theorem Qbh {P:Program}{ops:Array Oper}{rest:List Oper}{o:Oper}{a:Act}{w:World}{Q:Exit->Act->World->Prop}(hw:Region.wanted o (yielded ops a.tmps)=true)(x:Operand)(t e:TypeId)(ho:o.op=.buildSlice t 1 #[(0,x)])(i:TypeInfo)(z:Value)(ht:P.underlying t=some (.slice e))(hi:P.info? e=some i)(hz:i.zero=some z)
  (cs:Array Value) (hx:a.eval x=.agg cs) (hs:cs.size=i.size) (hpos:0<i.size) (hmax:i.size<=16777216) (hk:wpList P ops Q rest (a.put o.dst (.slice (some ⟨w.heap.size,0,none⟩) 1 1)) (w.alloc (.cells cs e))):wpList P ops Q (o::rest) a w:=by
 refine wpList_step λK hK=>?_
 rw[zG hw];have hr:=Qcm (P:=P) w t e i z ht hi hz cs hs hpos hmax;unfold Oper.wp execOp;simp only[ho,List.map_toArray,List.map_cons,List.map_nil,hx,Sem.run_bind,hr,Result.andThen_ok,Sem.run_pure];exact hK _ _ hk
open Go.RowKit Go.Lib Go.WideElems
open Go.Maps (Keyed)
def anyR (v:Value):Option (DataW Value × List MemPlace):=some (.held v,[])
def Mp (w:World)(k:TypeId)(b n:Nat)(f:Lit->Option Value):Prop:=
 ∃D,w.ownsMap Tryz.prog k anyR b n D/\∀l,(f l=none->Maps.has D l=false)/\∀v,f l=some v->Maps.has D l=true/\∀z,D.atKey l z=.held v
noncomputable def upd (f:Lit->Option Value) (kl:Lit) (v:Value):Lit->Option Value:=λl=>@ite _ (l=kl) (Classical.propDecidable _) (some v) (f l)
theorem Qqh (f:Lit->Option Value)(kl:Lit)(v:Value):upd f kl v kl=some v:=by unfold upd;rw[zG rfl]
theorem Qmk (f:Lit->Option Value){l kl:Lit}(v:Value)(h:l≠kl):upd f kl v l=f l:=by unfold upd;rw[if_neg h]
section
variable {w:World} {k:TypeId} {b n:Nat} {f:Lit->Option Value}
theorem Mp.made (w:World)(k:TypeId):Mp (w.alloc (.map #[] 0)) k w.heap.size 0 λ_=>none:=
 ⟨.map [],World.ownsMap_made w _ k anyR,λl=>⟨λ_=>rfl,λv h=>by cases h⟩⟩
theorem Mp.mono (h:Mp w k b n f){n':Nat}(hn:n<=n'):Mp w k b n' f:=by
 obtain⟨D,h1,h2⟩:=h;exact⟨D,h1.mono hn,h2⟩
theorem Mp.lt (h:Mp w k b n f):b<w.heap.size:=by
 obtain⟨D,h1,_⟩:=h;exact h1.lt
theorem Mp.same (h:Mp w k b n f){w':World}(hb:w'.heap[b]?=w.heap[b]?):Mp w' k b n f:=by
 obtain⟨D,⟨es,clock,h0,h1⟩,h2⟩:=h;exact⟨D,⟨es,clock,hb.trans h0,h1⟩,h2⟩
theorem Mp.ne (h:Mp w k b n f){g:Nat}{cs:Array Value}{t:TypeId}{fr:Nat × Nat}(hg:w.heap[g]?=some (.cells cs t fr)):g≠b:=by
 obtain⟨D,⟨es,clock,h0,_⟩,_⟩:=h;rintro rfl;rw[h0] at hg
 cases hg
theorem Mp.put {w':World}{kl:Lit}{val:Value}(h:∃D,w.ownsMap Tryz.prog k anyR b n D/\(∀l,(f l=none->Maps.has D l=false)/\∀v,f l=some v->Maps.has D l=true/\∀z,D.atKey l z=.held v)/\w'.ownsMap Tryz.prog k anyR b (n+1) (D.put kl (.held val)))(K:Keyed Tryz.prog k){key:Value}(hkey:keyOf Tryz.prog k key=some kl):
  Mp w' k b (n+1) (upd f kl val):=by
 obtain⟨D,h1,h2,h3⟩:=h;refine⟨_,h3,λl=>⟨λhn=>?_,λv hv=>?_⟩⟩
 ·by_cases hl:l=kl
  ·rw[hl,Qqh] at hn
   cases hn
  ·rw[Qmk _ _ hl] at hn
   rw[Maps.has_put_other hl];exact(h2 l).1 hn
 ·by_cases hl:l=kl
  ·rw[hl,Qqh] at hv
   obtain rfl:=Option.some.inj hv;subst hl;exact⟨Maps.has_put_same h1.isMap (K.key hkey) _,λz=>Maps.atKey_put_same h1.isMap (K.key hkey) _ z⟩
  ·rw[Qmk _ _ hl] at hv
   obtain⟨h4,h5⟩:=(h2 l).2 v hv;exact⟨by rw[Maps.has_put_other hl];exact h4,λz=>by rw[Maps.atKey_put_other hl];exact h5 z⟩
theorem Mp.store (h:Mp w k b n f)(K:Keyed Tryz.prog k){t e:TypeId}(ht:Tryz.prog.underlying t=some (.map k e))(hn:n<maxLen){key:Value}{kl:Lit}(hkey:keyOf Tryz.prog k key=some kl)(val:Value):
  ∃w',(Instr.mapUpdate t (.map (some b)) key val).run Tryz.prog w=.ok () w'/\Mp w' k b (n+1) (upd f kl val)/\w.grownBy w' (some b)/\w'.heap.size=w.heap.size:=by
 obtain⟨D,h1,h2⟩:=h;obtain⟨w',hrun,hown,ht⟩:=h1.store K ht hn hkey (show anyR val=some (.held val,[]) from rfl);refine⟨w',hrun,Mp.put ⟨D,h1,h2,hown⟩ K hkey,ht.grown,?_⟩;obtain⟨es,clock,es',clock',_,rfl⟩:=ht;simp[ChangeMaps.setBlock]
theorem Mp.len (h:Mp w k b n f){t e:TypeId}(ht:Tryz.prog.underlying t=some (.map k e)):∃c,c<=n/\∀ty,(Builtin.len_ #[t] ty #[.map (some b)]).run Tryz.prog w=.ok (.int .i64 (c:Nat)) w:=by
 obtain⟨D,h1,h2⟩:=h;exact⟨_,h1.size_le,λty=>h1.len ht ty⟩
end
def byteOf:Option Value->UInt8
 | some (.int _ m)=>UInt8.ofNat m.toNat
 | _=>0
def inList (L:List (List UInt8))(h:List UInt8):Bool:=L.contains h
def alikeB (L M:List (List UInt8)):Bool:=L == M
def Known (w:World)(km:Nat)(K:List (List UInt8)):Prop:=
 ∃f,Mp w 23 km K.length f/\∀l:List UInt8,(l∈K->f (.string l)=some (.agg #[]))/\(l∉K->f (.string l)=none)
structure PutFr (B km:Nat) (w w':World):Prop where
 kept:Kept B B w w'
 maps:∀(k:Nat) (es:Array MapEntry) (c:Nat),k≠km->w.heap[k]?=some (.map es c)->w'.heap[k]?=some (.map es c)
theorem PutFr.refl (B km:Nat)(w:World):PutFr B km w w:=⟨Kept.refl _ _ _,λ_ _ _ _ h=>h⟩
theorem PutFr.trans {B km:Nat}{w1 w2 w3:World}(h:PutFr B km w1 w2)(k:PutFr B km w2 w3):PutFr B km w1 w3:=⟨h.kept.trans k.kept,λi es c hi h1=>k.maps i es c hi (h.maps i es c hi h1)⟩
theorem PutFr.alloc {B km:Nat}{w1 w:World}(h:PutFr B km w1 w)(hB:B<=w.heap.size)(o:Obj):PutFr B km w1 (w.alloc o):=
 ⟨h.kept.alloc hB o,λi es c hi h1=>by
  have h2:=h.maps i es c hi h1;rw[Below.heap_alloc _ _ _ (zF h2)]
  exact h2⟩
theorem PutFr.grown {B km:Nat}{w1 w w2:World}{row:Option Nat}(h:PutFr B km w1 w)(hg:w.grownBy w2 row)(hB:B<=w.heap.size)(hr:∀k,row=some k->B<=k)(hm:∀k,row=some k->k=km\/∀es c,w.heap[k]?≠some (.map es c)):PutFr B km w1 w2:=
 ⟨h.kept.grown hg hB hr,λi es c hi h1=>by
  have h2:=h.maps i es c hi h1
  rw[hg.block i (zF h2) (λe=>by
   rcases hm i e.symm with h3|h3
   ·exact hi h3
   ·exact h3 es c h2)]
  exact h2⟩
theorem PutFr.set {B km b o:Nat}{w1 w:World}(h:PutFr B km w1 w)(hb:B<=b)(u:Value)(hm:∀es c,w.heap[b]?≠some (.map es c)):PutFr B km w1 (w.setCell ⟨b,o,none⟩ u):=
 ⟨h.kept.set (.inr hb) o u,λi es c hi h1=>by
  have h2:=h.maps i es c hi h1;rw[Qc4 _ _ _ _ _ (λe=>by subst e;exact hm es c h2)]
  exact h2⟩
theorem Known.same {w w':World}{km:Nat}{K:List (List UInt8)}(h:Known w km K)(hb:w'.heap[km]?=w.heap[km]?):Known w' km K:=by
 obtain⟨f,h1,h2⟩:=h;exact⟨f,h1.same hb,h2⟩
theorem Known.lt {w:World}{km:Nat}{K:List (List UInt8)}(h:Known w km K):km<w.heap.size:=by
 obtain⟨f,h1,_⟩:=h;exact h1.lt
namespace Bk
def less (a b:List UInt8):Bool:=decide (compareBytes a b<0)
def ahead (L:List (List UInt8))(h:List UInt8):List (List UInt8):=L.takeWhile λx=>less x h
def rest (L:List (List UInt8))(h:List UInt8):List (List UInt8):=L.dropWhile λx=>less x h
def put (L:List (List UInt8))(h:List UInt8):List (List UInt8):=ahead L h++[h]++(rest L h).filter λx=>!(x == h)
theorem Qhn (L:List (List UInt8))(h:List UInt8):ahead L h++rest L h=L:=List.takeWhile_append_dropWhile
theorem Qjf (a:List UInt8):less a a=false:=by
 have:=(Ql8 a a).2 rfl;simp[less,this]
theorem Qut {a b:List UInt8}(h:less a b=true):less b a=false:=by
 have h1:=Ql9 a b;simp only[less,decide_eq_true_eq,decide_eq_false_iff_not] at h |-
 omega
theorem Qsi {a b c:List UInt8}(h:less a b=true)(k:less b c=true):less a c=true:=by
 simp only[less,decide_eq_true_eq] at h k |-;have h1:=Qq3 a b c (by omega) (by omega)
 have h2:=Ql8 a c
 rcases Int.lt_or_eq_of_le h1 with h3|h3
 ·exact h3
 ·have:=h2.1 h3
  subst this;have h4:=Ql9 a b
  omega
theorem Qsj {a b:List UInt8}(h:less a b=false)(hne:a≠b):less b a=true:=by
 have h1:=Ql9 a b;have h2:=Ql8 a b;simp only[less,decide_eq_true_eq,decide_eq_false_iff_not] at h |-
 rcases Int.lt_trichotomy (compareBytes a b) 0 with h3|h3|h3
 ·omega
 ·exact absurd (h2.1 h3) hne
 ·omega
def Rising (L:List (List UInt8)):Prop:=L.Pairwise λa b=>less a b=true
theorem Rising.nil:Rising []:=List.Pairwise.nil
theorem Qjb (L:List (List UInt8))(h x:List UInt8):x∈put L h↔x=h\/x∈L:=by
 have e:=Qhn L h;simp only[put,List.mem_append,List.mem_singleton,List.mem_filter]
 constructor
 ·rintro((h1|h1)|⟨h1,_⟩)
  ·exact .inr (by rw[<-e];exact List.mem_append_left _ h1)
  ·exact .inl h1
  ·exact .inr (by rw[<-e];exact List.mem_append_right _ h1)
 ·rintro(h1|h1)
  ·exact .inl (.inr h1)
  ·rw[<-e] at h1
   rcases List.mem_append.1 h1 with h2|h2
   ·exact .inl (.inl h2)
   ·by_cases hx:x=h
    ·exact .inl (.inr hx)
    ·exact .inr ⟨h2,by simpa using hx⟩
theorem Qti (L:List (List UInt8))(h x:List UInt8)(hx:x∈ahead L h):less x h=true:=by
 induction L with
 | nil=>simp[ahead] at hx
 | cons y L ih=>
  unfold ahead at hx ih;rw[List.takeWhile_cons] at hx
  split at hx
  ·rename_i hy
   rcases List.mem_cons.1 hx with h1|h1
   ·rw[h1]
    exact hy
   ·exact ih h1
  ·cases hx
theorem Qqo:∀ (L:List (List UInt8)) (h:List UInt8),Rising L->∀x∈rest L h,less x h=false
 | [],_,_,x,hx=>by simp[rest] at hx
 | y::L,h,hr,x,hx=>by
  have hr2:=List.pairwise_cons.1 hr;unfold rest at hx;rw[List.dropWhile_cons] at hx
  split at hx
  ·exact Qqo L h hr2.2 x hx
  ·rename_i hy
   have hy2:less y h=false:=by simpa using hy
   rcases List.mem_cons.1 hx with h1|h1
   ·rw[h1,hy2]
   ·have h2:=hr2.1 x h1
    cases hxh:less x h with
    | false=>rfl
    | true=>
     have:=Qsi h2 hxh;rw[hy2] at this
     cases this
theorem Qro (L:List (List UInt8))(h:List UInt8)(hr:Rising L):Rising (put L h):=by
 have e:=Qhn L h;have hr2:Rising (ahead L h++rest L h):=by rw[e];exact hr
 obtain⟨h1,h2,h3⟩:=List.pairwise_append.1 hr2;have hn:=Qqo L h hr;unfold put Rising;rw[List.append_assoc];refine List.pairwise_append.2 ⟨h1,?_,?_⟩
 ·rw[List.singleton_append]
  refine List.pairwise_cons.2 ⟨λx hx=>?_,h2.filter _⟩
  obtain⟨hx1,hx2⟩:=List.mem_filter.1 hx;exact Qsj (hn x hx1) (by simpa using hx2)
 ·intro a ha b hb
  rcases List.mem_append.1 hb with h4|h4
  ·rw[List.mem_singleton] at h4
   rw[h4];exact Qti L h a ha
  ·exact h3 a ha b (List.mem_filter.1 h4).1
theorem Qks:∀ (L M:List (List UInt8)),Rising L->Rising M->(∀x,x∈L↔x∈M)->L=M
 | [],[],_,_,_=>rfl
 | [],y::M,_,_,h=>absurd ((h y).2 (by simp)) (by simp)
 | x::L,[],_,_,h=>absurd ((h x).1 (by simp)) (by simp)
 | x::L,y::M,hl,hm,h=>by
  obtain⟨l1,l2⟩:=List.pairwise_cons.1 hl;obtain⟨m1,m2⟩:=List.pairwise_cons.1 hm
  have hxy:x=y:=by
   rcases List.mem_cons.1 ((h x).1 (by simp)) with h1|h1
   ·exact h1
   ·rcases List.mem_cons.1 ((h y).2 (by simp)) with h2|h2
    ·exact h2.symm
    ·have a:=m1 x h1
     have b:=l1 y h2;rw[Qut a] at b
     cases b
  subst hxy
  congr 1
  refine Qks L M l2 m2 λz=>?_
  constructor
  ·intro hz
   rcases List.mem_cons.1 ((h z).1 (by simp[hz])) with h1|h1
   ·subst h1
    have:=l1 z hz;rw[Qjf] at this
    cases this
   ·exact h1
  ·intro hz
   rcases List.mem_cons.1 ((h z).2 (by simp[hz])) with h1|h1
   ·subst h1
    have:=m1 z hz;rw[Qjf] at this
    cases this
   ·exact h1
inductive Cl (fs:List (List (List UInt8) × List (List UInt8))) (fr:List (List UInt8)):List UInt8->Prop
 | base (x:List UInt8):x∈fr->Cl fs fr x
 | fact (f:List (List UInt8) × List (List UInt8)) (o:List UInt8):f∈fs->(∀x∈f.1,Cl fs fr x)->o∈f.2->Cl fs fr o
def Shut (fs:List (List (List UInt8) × List (List UInt8)))(L:List (List UInt8)):Prop:=∀f∈fs,(∀x∈f.1,x∈L)->∀o∈f.2,o∈L
structure Is (fs:List (List (List UInt8) × List (List UInt8))) (fr L:List (List UInt8)):Prop where
 rising:Rising L
 mem:∀x,x∈L↔Cl fs fr x
theorem Is.one {fs:List (List (List UInt8) × List (List UInt8))}{fr L M:List (List UInt8)}(h:Is fs fr L)(k:Is fs fr M):L=M:=
 Qks L M h.rising k.rising λx=>(h.mem x).trans (k.mem x).symm
theorem Qs8 {fs:List (List (List UInt8) × List (List UInt8))}{fr L:List (List UInt8)}(h0:∀x∈fr,x∈L)(hs:Shut fs L):∀x,Cl fs fr x->x∈L:=λx hx=>by
 induction hx with
 | base x h=>exact h0 x h
 | fact f o hf _ ho ih=>exact hs f hf ih o ho
end Bk
theorem Own.mono {w:World}{base base':Nat}{v:Value}{M:List (List UInt8)}(h:Own w base v M)(hb:base'<=base):Own w base' v M:=by
 obtain⟨h1,h2,h3⟩:=h;refine⟨h1,h2,?_⟩
 rcases h3 with h|⟨g,cap,cur,a,b,c⟩
 ·exact .inl h
 ·exact .inr ⟨g,cap,cur,a,Nat.le_trans hb b,c⟩
def Whole (v:Value):Prop:=∀n c,v=.slice none n c->n=0/\c=0
def Fs (w:World)(v:Value)(L:List (List (List UInt8) × List (List UInt8))):Prop:=
 ∃ad g o c,v=.slice ad L.length c/\∀i (hi:i<L.length),ad=some ⟨g,o,none⟩/\g<w.heap.size/\∃a b,w.cell? ⟨g,o+i*2,none⟩=some a/\w.cell? ⟨g,o+i*2+1,none⟩=some b/\Hs w a L[i].1/\Hs w b L[i].2
theorem Fs.kept {w w':World}{v:Value}{L:List (List (List UInt8) × List (List UInt8))}(h:Fs w v L)(k:Kept w.heap.size w.heap.size w w'):Fs w' v L:=by
 obtain⟨ad,g,o,c,rfl,h1⟩:=h;refine⟨ad,g,o,c,rfl,λi hi=>?_⟩
 obtain⟨e,hg,a,b,h2,h3,h4,h5⟩:=h1 i hi;exact⟨e,zC hg k.size,a,b,(k.cell (p:=⟨g,o+i*2,none⟩) hg (zD hg)).trans h2,(k.cell (p:=⟨g,o+i*2+1,none⟩) hg (zD hg)).trans h3,h4.kept k,h5.kept k⟩
namespace Bk
def outs (fs:List (List (List UInt8) × List (List UInt8))):List (List UInt8):=fs.flatMap λf=>f.2
def lack (U M:List (List UInt8)):Nat:=(U.filter λx=>!inList M x).length
theorem Qcb (M:List (List UInt8))(x:List UInt8):inList M x=true↔x∈M:=by
 unfold inList;exact List.contains_iff_mem
theorem Qhe (M:List (List UInt8))(x:List UInt8):inList M x=false↔x∉M:=by
 rw[<-Bool.not_eq_true,Qcb]
theorem Qjg (M:List (List UInt8))(h:List UInt8):∀U,lack U (put M h)<=lack U M
 | []=>zB _
 | x::U=>by
  have ih:=Qjg M h U;unfold lack at ih |-
  by_cases hx:x∈M
  ·have h1:inList M x=true:=(Qcb M x).2 hx
   have h2:inList (put M h) x=true:=(Qcb _ x).2 ((Qjb M h x).2 (.inr hx));simp only[List.filter_cons,h1,h2,Bool.not_true,Bool.false_eq_true,if_false];exact ih
  ·have h1:inList M x=false:=(Qhe M x).2 hx
   cases h2:inList (put M h) x with
   | true=>
    simp only[List.filter_cons,h1,h2,Bool.not_true,Bool.not_false,Bool.false_eq_true,if_false,if_true,List.length_cons]
    omega
   | false=>
    simp only[List.filter_cons,h1,h2,Bool.not_false,if_true,List.length_cons]
    omega
theorem Qf6 (M:List (List UInt8))(h:List UInt8)(hm:h∉M):∀U,h∈U->lack U (put M h)<lack U M
 | [],hu=>by simp at hu
 | x::U,hu=>by
  have ih:=Qjg M h U
  by_cases hx:x=h
  ·subst hx
   have h1:inList M x=false:=(Qhe M x).2 hm;have h2:inList (put M x) x=true:=(Qcb _ x).2 ((Qjb M x x).2 (.inl rfl));unfold lack at ih |-;simp only[List.filter_cons,h1,h2,Bool.not_true,Bool.not_false,Bool.false_eq_true,if_false,if_true,List.length_cons]
   omega
  ·have hu2:h∈U:=by
    rcases List.mem_cons.1 hu with h3|h3
    ·exact absurd h3.symm hx
    ·exact h3
   have ih2:=Qf6 M h hm U hu2;unfold lack at ih ih2 |-
   have h3:inList (put M h) x=inList M x:=by
    rw[Bool.eq_iff_iff,Qcb,Qcb,Qjb];exact⟨λh=>h.resolve_left hx,.inr⟩
   simp only[List.filter_cons,h3]
   cases inList M x <;> simp <;> omega
theorem put_length (M:List (List UInt8))(h:List UInt8):(put M h).length<=M.length+1:=by
 have e:(ahead M h++rest M h).length=M.length:=by rw[Qhn]
 have h1:=List.length_filter_le (λx=>!(x == h)) (rest M h)
 rw[zE] at e;simp only[put,zE,List.length_singleton]
 omega
structure Way (fs:List (List (List UInt8) × List (List UInt8))) (fr M:List (List UInt8)):Prop where
 rising:Rising M
 has:∀x∈fr,x∈M
 cl:∀x∈M,Cl fs fr x
 len:M.length+lack (outs fs) M<=fr.length+(outs fs).length
theorem Way.put {fs:List (List (List UInt8) × List (List UInt8))}{fr M:List (List UInt8)}(h:Way fs fr M){x:List UInt8}(hu:x∈outs fs)(hm:x∉M)(hc:Cl fs fr x):Way fs fr (put M x):=by
 refine⟨Qro M x h.rising,λy hy=>(Qjb M x y).2 (.inr (h.has y hy)),λy hy=>?_,?_⟩
 ·rcases(Qjb M x y).1 hy with rfl|h1
  ·exact hc
  ·exact h.cl y h1
 ·have h1:=put_length M x
  have h2:=Qf6 M x hm (outs fs) hu;have h3:=h.len
  omega
def Pass (fs:List (List (List UInt8) × List (List UInt8)))(M0 M:List (List UInt8))(m:Bool)(i:Nat):Prop:=
 (m=false->M=M0/\∀j (hj:j<fs.length),j<i->(∀x∈fs[j].1,x∈M0)->∀o∈fs[j].2,o∈M0)/\(m=true->lack (outs fs) M<lack (outs fs) M0)
theorem Pass.start (fs:List (List (List UInt8) × List (List UInt8)))(M:List (List UInt8)):Pass fs M M false 0:=⟨λ_=>⟨rfl,λ_ _ h=>absurd h (Nat.not_lt_zero _)⟩,λh=>by cases h⟩
theorem Pass.shut {fs:List (List (List UInt8) × List (List UInt8))}{M0 M:List (List UInt8)}(h:Pass fs M0 M false fs.length):M=M0/\Shut fs M0:=by
 obtain⟨h1,h2⟩:=h.1 rfl;refine⟨h1,λf hf hx o ho=>?_⟩
 obtain⟨j,hj,rfl⟩:=List.getElem_of_mem hf;exact h2 j hj hj hx o ho
theorem Pass.put {fs:List (List (List UInt8) × List (List UInt8))}{M0 M:List (List UInt8)}{m:Bool}{i:Nat}(h:Pass fs M0 M m i){x:List UInt8}(hu:x∈outs fs)(hm:x∉M):Pass fs M0 (put M x) true i:=by
 refine⟨(λh=>by cases h),λ_=>?_⟩
 have h1:=Qf6 M x hm (outs fs) hu
 cases m with
 | true=>have:=h.2 rfl;omega
 | false=>rw[<-(h.1 rfl).1];exact h1
end Bk
def OwnB (w:World)(base:Nat)(X:Nat->Prop)(v:Value)(L:List (List (List UInt8) × List (List UInt8))):Prop:=
 ∃ps:List (Value × Value),ps.length=L.length/\w.ownsRow base 189 2 v L.length (ps.flatMap λp=>[p.1,p.2])/\∀i (hi:i<L.length) (hp:i<ps.length),OwnH w base ps[i].1 L[i].1/\OwnH w base ps[i].2 L[i].2/\(∀k,ps[i].1.ownBlock=some k->¬X k)/\∀k,ps[i].2.ownBlock=some k->¬X k
theorem OwnB.nil (w:World)(base:Nat)(X:Nat->Prop):OwnB w base X (.slice none 0 0) []:=⟨[],rfl,World.ownsRow_nil w base _ 2,λ_ hi=>absurd hi (Nat.not_lt_zero _)⟩
theorem Qm6:∀ (ps:List (Value × Value)) i (hi:i<ps.length),(ps.flatMap λp=>[p.1,p.2])[i*2]?=some ps[i].1/\(ps.flatMap λp=>[p.1,p.2])[i*2+1]?=some ps[i].2
 | [],i,hi=>absurd hi (Nat.not_lt_zero _)
 | p::ps,0,_=>⟨rfl,rfl⟩
 | p::ps,i+1,hi=>by
  obtain⟨a,b⟩:=Qm6 ps i (by simpa using hi)
  rw[List.flatMap_cons]
  constructor
  ·rw[List.getElem?_append_right (by simp;omega)]
   simpa [show(i+1)*2-2=i*2 by omega] using a
  ·rw[List.getElem?_append_right (by simp;omega)]
   simpa [show(i+1)*2+1-2=i*2+1 by omega] using b
theorem OwnB.at {w:World}{base:Nat}{X:Nat->Prop}{v:Value}{L:List (List (List UInt8) × List (List UInt8))}(h:OwnB w base X v L):∃ad g c,v=.slice ad L.length c/\∀i (hi:i<L.length),ad=some ⟨g,0,none⟩/\base<=g/\g<w.heap.size/\∃a b,w.cell? ⟨g,0+i*2,none⟩=some a/\w.cell? ⟨g,0+i*2+1,none⟩=some b/\OwnH w base a L[i].1/\OwnH w base b L[i].2:=by
 obtain⟨ps,hl,ho,hp⟩:=h;have hlt:=ho.lt;have h0:=ho
 rcases ho.2 with⟨rfl,hn⟩|⟨g,cap,cur,rfl,hb,_⟩
 ·exact⟨none,0,0,by rw[hn],λi hi=>by omega⟩
 ·refine⟨some ⟨g,0,none⟩,g,cap,rfl,λi hi=>?_⟩
  have hip:i<ps.length:=by omega
  obtain⟨a,b⟩:=Qm6 ps i hip;obtain⟨c,d,_,_⟩:=hp i hi hip;have h1:=h0.cells (g:=g) rfl (i*2) _ a;have h2:=h0.cells (g:=g) rfl (i*2+1) _ b;rw[Addr.add_lit] at h1 h2;exact⟨rfl,(hlt g rfl).1,(hlt g rfl).2,ps[i].1,ps[i].2,h1,by rw[<-h2];congr 2,c,d⟩
theorem OwnB.stayX {w w':World}{base:Nat}{X:Nat->Prop}{v:Value}{L:List (List (List UInt8) × List (List UInt8))}(h:OwnB w base X v L)(hf:∀(k:Nat),v.ownBlock=some k->w'.heap[k]?=w.heap[k]?)(hs:∀(k:Nat) (cs:Array Value) (fr:Nat × Nat),¬X k->w.heap[k]?=some (Obj.cells cs 23 fr)->w'.heap[k]?=some (Obj.cells cs 23 fr)):OwnB w' base X v L:=by
 obtain⟨ps,hl,ho,hp⟩:=h;refine⟨ps,hl,⟨ho.1,?_⟩,λi hi hpi=>?_⟩
 ·rcases ho.2 with h1|⟨g,cap,cur,rfl,hb2,hh,rest⟩
  ·exact .inl h1
  ·exact .inr ⟨g,cap,cur,rfl,hb2,(hf g rfl).trans hh,rest⟩
 ·obtain⟨p,q,xp,xq⟩:=hp i hi hpi
  exact⟨p.stayAt (λk cs fr hk hh=>hs k cs fr (xp k hk) hh),q.stayAt (λk cs fr hk hh=>hs k cs fr (xq k hk) hh),xp,xq⟩
theorem OwnB.stay {w w':World}{base:Nat}{X:Nat->Prop}{v:Value}{L:List (List (List UInt8) × List (List UInt8))}(h:OwnB w base X v L)(hf:∀(k:Nat),v.ownBlock=some k->w'.heap[k]?=w.heap[k]?)(hs:∀(k:Nat) (cs:Array Value) (fr:Nat × Nat),w.heap[k]?=some (Obj.cells cs 23 fr)->w'.heap[k]?=some (Obj.cells cs 23 fr)):OwnB w' base X v L:=
 h.stayX hf λk cs fr _ hh=>hs k cs fr hh
theorem OwnB.fresh {w:World}{base:Nat}{X Y:Nat->Prop}{v:Value}{L:List (List (List UInt8) × List (List UInt8))}(h:OwnB w base X v L)(hY:∀k,Y k->w.heap.size<=k):OwnB w base Y v L:=by
 obtain⟨ps,hl,ho,hp⟩:=h;refine⟨ps,hl,ho,λi hi hpi=>?_⟩
 obtain⟨p,q,_,_⟩:=hp i hi hpi;exact⟨p,q,λk hk hy=>absurd (p.low k hk).2 (Nat.not_lt.2 (hY k hy)),λk hk hy=>absurd (q.low k hk).2 (Nat.not_lt.2 (hY k hy))⟩
inductive Ow where
 | al (h:List UInt8)
 | ne (h:List UInt8)
 | fr
structure BokS where
 fv:Value
 frv:Value
 am:Nat
 nm:Nat
 mm:Nat
 fa:Lit->Option Value
 fn:Lit->Option Value
 L:Ow->List Nat
 X:Nat->Prop
def BokS.val (S:BokS):Ow->Value
 | .al h=>(S.fa (.string h)).getD (.slice none 0 0)
 | .ne h=>(S.fn (.string h)).getD (.slice none 0 0)
 | .fr=>S.frv
def dig (f:List (List UInt8) × List (List UInt8)):List UInt8:=Sm.sum (f.1.flatten++f.2.flatten)
def needs (fs:List (List (List UInt8) × List (List UInt8)))(h:List UInt8)(i:Nat):Nat:=match fs[i]? with|some f=>f.1.count h|none=>0
structure Bok (w:World) (base bb:Nat) (fs:List (List (List UInt8) × List (List UInt8))) (b:Nat) (nmf:Lit->Option Value) (S:BokS):Prop where
 cells:w.heap[bb]?=some (.cells #[S.fv,.map (some S.am),.map (some S.nm),S.frv,.map (some S.mm)] 156 (0,0))
 lowb:base<=bb
 lowa:base<=S.am
 lown:base<=S.nm
 lowm:base<=S.mm
 an:S.am≠S.nm
 amm:S.am≠S.mm
 nmm:S.nm≠S.mm
 facts:OwnB w base S.X S.fv fs
 alike:Mp w 23 S.am b S.fa
 need:Mp w 23 S.nm b S.fn
 names:Mp w 9 S.mm b nmf
 row:∀o,OwnI w base (S.val o) (S.L o)
 sep:∀o o',o≠o'->∀k,(S.val o).ownBlock=some k->(S.val o').ownBlock≠some k
 free:∀i,i∈S.L .fr↔∃f,fs[i]?=some f/\f.1=[]
 needed:∀h i,(S.L (.ne h)).count i=needs fs h i
 same:∀h,∀i∈S.L (.al h),i<fs.length
 found:∀i (hi:i<fs.length),i∈S.L (.al (dig fs[i]))
 few:∀o,(S.L o).length<=b
theorem OwnI.cellsAt {w:World}{B:Nat}{v:Value}{l:List Nat}(h:OwnI w B v l)(k:Nat)(hk:v.ownBlock=some k):∃cs,w.heap[k]?=some (.cells cs 3 (0,0)):=by
 rcases h.2 with⟨rfl,_⟩|⟨g,cap,cur,rfl,_,hh,_⟩
 ·simp[Value.ownBlock] at hk
 ·simp[Value.ownBlock] at hk
  subst hk;exact⟨cur,hh⟩
theorem Mp.map {w:World}{k:TypeId}{b n:Nat}{f:Lit->Option Value}(h:Mp w k b n f):∃es c,w.heap[b]?=some (.map es c):=by
 obtain⟨D,⟨es,clock,h0,_⟩,_⟩:=h;exact⟨es,clock,h0⟩
theorem Bok.kept {w w':World}{base bb b:Nat}{fs:List (List (List UInt8) × List (List UInt8))}{nmf:Lit->Option Value}{S:BokS}(h:Bok w base bb fs b nmf S)(k:Kept w.heap.size w.heap.size w w'):Bok w' base bb fs b nmf S:=by
 have hk:∀i,i<w.heap.size->w'.heap[i]?=w.heap[i]?:=λi hi=>k.block i hi (zD hi)
 refine⟨(hk bb (zF h.cells)).trans h.cells,h.lowb,h.lowa,h.lown,h.lowm,h.an,h.amm,h.nmm,?_,h.alike.same (hk _ h.alike.lt),h.need.same (hk _ h.need.lt),h.names.same (hk _ h.names.lt),λo=>(h.row o).stay λi hi=>?_,h.sep,h.free,h.needed,h.same,h.found,h.few⟩
 ·refine h.facts.stay (λi hi=>?_) (λi cs fr hh=>?_)
  ·obtain⟨ps,_,ho,_⟩:=h.facts
   exact hk i (ho.lt i hi).2
  ·exact(hk i (zF hh)).trans hh
 ·exact hk i ((h.row o).lt i hi).2
theorem Bok.fresh {w:World}{base bb b:Nat}{fs:List (List (List UInt8) × List (List UInt8))}{nmf:Lit->Option Value}{S:BokS}(h:Bok w base bb fs b nmf S)(Y:Nat->Prop)(hY:∀k,Y k->w.heap.size<=k):Bok w base bb fs b nmf { S with X:=Y }:=
 ⟨h.cells,h.lowb,h.lowa,h.lown,h.lowm,h.an,h.amm,h.nmm,h.facts.fresh hY,h.alike,h.need,h.names,h.row,h.sep,h.free,h.needed,h.same,h.found,h.few⟩
theorem Bok.put {w:World}{base bb b:Nat}{fs:List (List (List UInt8) × List (List UInt8))}{nmf:Lit->Option Value}{S:BokS}(h:Bok w base bb fs b nmf S)(g:Nat)(hg:S.X g)(old cs:Array Value)(fr:Nat × Nat)(hold:w.heap[g]?=some (.cells old 23 fr)):Bok (w.setRow g cs) base bb fs b nmf S:=by
 have hk:∀i,i≠g->(w.setRow g cs).heap[i]?=w.heap[i]?:=λi hi=>setRow_other w g i cs hi
 have hmap:∀m es c,w.heap[m]?=some (.map es c)->m≠g:=λm es c hm e=>by
  subst e;rw[hold] at hm
  cases hm
 have hbb:bb≠g:=λe=>by
  have h1:=h.cells;rw[e,hold] at h1;exact absurd h1 (by simp)
 refine⟨(hk bb hbb).trans h.cells,h.lowb,h.lowa,h.lown,h.lowm,h.an,h.amm,h.nmm,?_,?_,?_,?_,λo=>(h.row o).stay λi hi=>?_,h.sep,h.free,h.needed,h.same,h.found,h.few⟩
 ·refine h.facts.stayX (λi hi=>?_) (λi cs' fr' hx hh=>?_)
  ·obtain⟨ps,_,ho,_⟩:=h.facts
   refine hk i (λe=>?_)
   rcases ho.2 with⟨e1,_⟩|⟨g2,cap,cur,e1,_,hh,_⟩
   ·rw[e1] at hi
    simp[Value.ownBlock] at hi
   ·rw[e1] at hi
    simp[Value.ownBlock] at hi;subst hi;rw[e,hold] at hh;exact absurd hh (by simp)
  ·exact(hk i (λe=>hx (by rw[e];exact hg))).trans hh
 ·obtain⟨es,c,hm⟩:=h.alike.map
  exact h.alike.same (hk _ (hmap _ _ _ hm))
 ·obtain⟨es,c,hm⟩:=h.need.map
  exact h.need.same (hk _ (hmap _ _ _ hm))
 ·obtain⟨es,c,hm⟩:=h.names.map
  exact h.names.same (hk _ (hmap _ _ _ hm))
 ·obtain⟨cs',hh⟩:=(h.row o).cellsAt i hi
  refine hk i (λe=>?_)
  rw[e,hold] at hh;exact absurd hh (by simp)
namespace Bk
def cnt (Q:List UInt8->Bool)(f:List (List UInt8) × List (List UInt8)):Nat:=f.1.countP Q
theorem Qx2 (Q:List UInt8->Bool)(f:List (List UInt8) × List (List UInt8)):cnt Q f<=f.1.length:=List.countP_le_length
theorem Qpy {Q:List UInt8->Bool}{f:List (List UInt8) × List (List UInt8)}:cnt Q f=f.1.length↔∀x∈f.1,Q x=true:=List.countP_eq_length
theorem Qq2 {Q Q':List UInt8->Bool}{h:List UInt8}(hq:Q h=false)(hq':∀x,Q' x=(Q x || x == h))(f:List (List UInt8) × List (List UInt8)):cnt Q' f=cnt Q f+f.1.count h:=by
 unfold cnt;generalize f.1=l
 induction l with
 | nil=>rfl
 | cons x l ih=>
  rw[List.countP_cons,List.countP_cons,List.count_cons,ih,hq' x]
  by_cases hx:x=h
  ·subst hx
   rw[hq];simp
   omega
  ·have:(x == h)=false:=by simpa using hx
   rw[this]
   cases Q x <;> simp <;> omega
structure Run (fs:List (List (List UInt8) × List (List UInt8))) (fr K Lf:List (List UInt8)) (met:Nat->Nat):Prop where
 nd:K.Nodup
 cl:∀x∈K,Cl fs fr x
 sub:∀x∈Lf,x∈K
 ndl:Lf.Nodup
 has:∀x∈fr,x∈K
 met:∀(i:Nat) (f:List (List UInt8) × List (List UInt8)),fs[i]?=some f->met i=cnt (λx=>inList K x && !inList Lf x) f
 shut:∀(i:Nat) (f:List (List UInt8) × List (List UInt8)),fs[i]?=some f->(∀x∈f.1,x∈K/\x∉Lf)->∀o∈f.2,o∈K
structure Mid (fs:List (List (List UInt8) × List (List UInt8))) (fr K Lf N:List (List UInt8)) (h:List UInt8) (J:List Nat) (t:Nat) (met:Nat->Nat):Prop where
 nd:(K++N).Nodup
 cl:∀x∈K++N,Cl fs fr x
 met:∀(i:Nat) (f:List (List UInt8) × List (List UInt8)),fs[i]?=some f->met i=cnt (λx=>inList K x && !inList Lf x) f+(J.take t).count i
 shut:∀(i:Nat) (f:List (List UInt8) × List (List UInt8)),fs[i]?=some f->cnt (λx=>inList K x && !inList Lf x) f+(J.take t).count i=f.1.length->∀o∈f.2,o∈K++N
theorem Qd6 (K Lf:List (List UInt8))(x:List UInt8):(inList K x && !inList Lf x)=true↔x∈K/\x∉Lf:=by
 rw[Bool.and_eq_true,Qcb,Bool.not_eq_true',Qhe]
theorem Run.mid {fs:List (List (List UInt8) × List (List UInt8))}{fr K Lf:List (List UInt8)}{met:Nat->Nat}(r:Run fs fr K Lf met)(h:List UInt8)(J:List Nat):Mid fs fr K Lf [] h J 0 met:=by
 refine⟨by simpa using r.nd,by simpa using r.cl,λi f hf=>by simpa using r.met i f hf,λi f hf he o ho=>?_⟩
 rw[List.take_zero,List.count_nil,Nat.add_zero,Qpy] at he;rw[List.append_nil];exact r.shut i f hf (λx hx=>(Qd6 K Lf x).1 (he x hx)) o ho
theorem Mid.step {fs:List (List (List UInt8) × List (List UInt8))}{fr K Lf N:List (List UInt8)}{h:List UInt8}{J:List Nat}{t:Nat}{met:Nat->Nat}(m:Mid fs fr K Lf N h J t met)(hlt:t<J.length)(met':Nat->Nat)(hm:met' J[t]=met J[t]+1)(ho:∀i,i≠J[t]->met' i=met i)
  (N':List (List UInt8)) (hn:(K++(N++N')).Nodup) (hc:∀x∈N',Cl fs fr x) (hs:∀f,fs[J[t]]?=some f->met J[t]+1=f.1.length->∀o∈f.2,o∈K++(N++N')):Mid fs fr K Lf (N++N') h J (t+1) met':=by
 have htk:∀i,(J.take (t+1)).count i=(J.take t).count i+if J[t]=i then 1 else 0:=λi=>by
  rw[List.take_succ_eq_append_getElem hlt,List.count_append,List.count_singleton]
  by_cases e:J[t]=i <;> simp[e]
 refine⟨hn,λx hx=>?_,λi f hf=>?_,λi f hf he o hof=>?_⟩
 ·rw[<-List.append_assoc] at hx
  rcases List.mem_append.1 hx with h|h
  ·exact m.cl x h
  ·exact hc x h
 ·rw[htk]
  by_cases e:J[t]=i
  ·subst e
   rw[hm,m.met _ f hf,zG rfl]
   omega
  ·rw[ho i (λh=>e h.symm),m.met i f hf,if_neg e]
   omega
 ·rw[htk] at he
  by_cases e:J[t]=i
  ·subst e
   rw[zG rfl] at he;exact hs f hf (by rw[m.met _ f hf];omega) o hof
  ·rw[if_neg e] at he
   have:=m.shut i f hf (by omega) o hof
   rw[<-List.append_assoc];exact List.mem_append_left _ this
theorem Mid.all {fs:List (List (List UInt8) × List (List UInt8))}{fr K Lf N:List (List UInt8)}{h:List UInt8}{J:List Nat}{t:Nat}{met:Nat->Nat}(m:Mid fs fr K Lf N h J t met)(hlt:t<J.length)(hh:h∈K)(hl:h∈Lf)(hJ:∀i,J.count i=needs fs h i){f:List (List UInt8) × List (List UInt8)}(hf:fs[J[t]]?=some f)(he:met J[t]+1=f.1.length):∀x∈f.1,Cl fs fr x:=by
 have h1:(J.take (t+1)).count J[t]<=J.count J[t]:=(List.take_sublist _ _).count_le _;rw[List.take_succ_eq_append_getElem hlt,List.count_append,List.count_singleton_self,hJ,needs,hf] at h1;have h2:=m.met _ f hf;have h1':(J.take t).count J[t]+1<=f.1.count h:=h1
 have hq:(inList K h && !inList Lf h)=false:=by
  rw[(Qcb Lf h).2 hl];simp
 have h3:=Qq2 (Q':=λx=>(inList K x && !inList Lf x) || x == h) hq (λ_=>rfl) f
 have h4:=Qx2 (λx=>(inList K x && !inList Lf x) || x == h) f
 have h5:cnt (λx=>(inList K x && !inList Lf x) || x == h) f=f.1.length:=by omega
 rw[Qpy] at h5;intro x hx;have:=h5 x hx;rw[Bool.or_eq_true,Qd6] at this
 rcases this with h6|h6
 ·exact m.cl x (List.mem_append_left _ h6.1)
 ·rw[eq_of_beq h6]
  exact m.cl h (List.mem_append_left _ hh)
theorem Mid.run {fs:List (List (List UInt8) × List (List UInt8))}{fr K Lf N:List (List UInt8)}{h:List UInt8}{J:List Nat}{met met0:Nat->Nat}(r:Run fs fr K (Lf++[h]) met0)(m:Mid fs fr K (Lf++[h]) N h J J.length met)(hJ:∀i,J.count i=needs fs h i):Run fs fr (K++N) (Lf++N) met:=by
 have hndl:=List.nodup_append.1 r.ndl;have hnd:=List.nodup_append.1 m.nd;have hhl:h∉Lf:=λhx=>hndl.2.2 h hx h (by simp) rfl
 have hhk:h∈K:=r.sub h (by simp)
 have hQ:∀x,(inList (K++N) x && !inList (Lf++N) x)=((inList K x && !inList (Lf++[h]) x) || x == h):=λx=>by
  rw[Bool.eq_iff_iff,Qd6,Bool.or_eq_true,Qd6,List.mem_append,List.mem_append,List.mem_append,List.mem_singleton,beq_iff_eq]
  constructor
  ·rintro⟨h1|h1,h2⟩
   ·by_cases hx:x=h
    ·exact .inr hx
    ·exact .inl ⟨h1,λh3=>h3.elim (λh4=>h2 (.inl h4)) hx⟩
   ·exact absurd (.inr h1) h2
  ·rintro(⟨h1,h2⟩|rfl)
   ·exact⟨.inl h1,λh3=>h3.elim (λh4=>h2 (.inl h4)) (λh4=>hnd.2.2 x h1 x h4 rfl)⟩
   ·exact⟨.inl hhk,λh3=>h3.elim hhl (λh4=>hnd.2.2 x hhk x h4 rfl)⟩
 have hq:(inList K h && !inList (Lf++[h]) h)=false:=by
  rw[(Qcb (Lf++[h]) h).2 (by simp)]
  simp
 have hcnt:∀i f,fs[i]?=some f->cnt (λx=>inList (K++N) x && !inList (Lf++N) x) f=cnt (λx=>inList K x && !inList (Lf++[h]) x) f+(J.take J.length).count i:=λi f hf=>by
  rw[Qq2 (Q:=λx=>inList K x && !inList (Lf++[h]) x) hq hQ f,List.take_length,hJ,needs,hf]
 refine⟨m.nd,m.cl,λx hx=>?_,?_,λx hx=>List.mem_append_left _ (r.has x hx),λi f hf=>?_,λi f hf hx o ho=>?_⟩
 ·rcases List.mem_append.1 hx with h1|h1
  ·exact List.mem_append_left _ (r.sub x (List.mem_append_left _ h1))
  ·exact List.mem_append_right _ h1
 ·rw[List.nodup_append]
  exact⟨hndl.1,hnd.2.1,λa ha b hb=>hnd.2.2 a (r.sub a (List.mem_append_left _ ha)) b hb⟩
 ·rw[m.met i f hf,hcnt i f hf]
 ·refine m.shut i f hf ?_ o ho
  rw[<-hcnt i f hf,Qpy];exact λx h1=>(Qd6 _ _ x).2 (hx x h1)
theorem Run.done {fs:List (List (List UInt8) × List (List UInt8))}{fr K:List (List UInt8)}{met:Nat->Nat}(r:Run fs fr K [] met):∀x,x∈K↔Cl fs fr x:=λx=>
 ⟨r.cl x,Qs8 r.has (λf hf hx o ho=>by
  obtain⟨i,hi,rfl⟩:=List.getElem_of_mem hf
  exact r.shut i _ (List.getElem?_eq_getElem hi) (λx h1=>⟨hx x h1,by simp⟩) o ho) x⟩
end Bk
open Go
section
variable {P:Program} {o:Oper} {a:Act} {w w':World} {K:Act->World->Prop} {Q:Exit->Act->World->Prop}
end
namespace Bk
def noted (L:List (List (List UInt8) × List (List UInt8)))(f:List (List UInt8) × List (List UInt8)):Bool:=L.any λg=>alikeB g.1 f.1&&alikeB g.2 f.2
def note (L:List (List (List UInt8) × List (List UInt8)))(f:List (List UInt8) × List (List UInt8)):List (List (List UInt8) × List (List UInt8)):=if f.2.length=0 then L else if noted L f then L else L++[f]
end Bk
end Go.Proofs.YtnlbgggnpoeleaaGreatDoor
