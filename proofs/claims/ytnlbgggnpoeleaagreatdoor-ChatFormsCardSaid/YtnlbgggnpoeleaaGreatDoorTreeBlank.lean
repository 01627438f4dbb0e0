/-
 TreeBlank; TreeCopied; TreeAdd; TreeRemove: several texts in one.
-/
import Derived.Test.YtnlbgggnpoeleaaGreatDoorGY
namespace Go.Proofs.YtnlbgggnpoeleaaGreatDoor
open Go.RowKit Go.Lib
open List renaming setIfInBounds_toArray -> sA, set_cons_zero -> sB, set_cons_succ -> sC
open BigFrame renaming wpList_want -> wQ
def Bo.odds (n a:Nat):Bool:=(Bo.ups n ((2*a:Nat):Int)).all λy=>decide (0<=y)&&(y.toNat%2 == 1&&Nat.blt (y.toNat/2) (n-1))
namespace Tt
def blanks (ways:List Int)(P:List Pr):List Pr:=ways.foldl (λP y=>P.set (y.toNat/2) Pr.zero) P
end Tt
section
variable {B B':Nat->Prop} {w w1:World} {lv pv v:Value} {L:List Lf} {P:List Pr} {SL:List Value} {row:Option Nat}
theorem Mine.beside (h:Mine B w lv pv L P SL)(k:Kept w.heap.size w.heap.size w w1)(hv:∀g,v.ownBlock=some g->w.heap.size<=g/\g<w1.heap.size):Mine (λk=>B k\/v.ownBlock=some k) w1 lv pv L P SL:=
 { h.kept k with
   ol:=λg e b=>b.elim (h.ol g e) (λe2=>by have:=(h.lo.2.lt g e).2;have:=(hv g e2).1;omega)
   op:=λg e b=>b.elim (h.op g e) (λe2=>by have:=(h.po.2.lt g e).2;have:=(hv g e2).1;omega)
   os:=λs hs g e b=>b.elim (h.os s hs g e) (λe2=>by
    obtain⟨i,hi,rfl⟩:=List.getElem_of_mem hs;have h2:=(h.so i (P[i]'(by rw[<-h.len];exact hi)) _ (List.getElem?_eq_getElem _) (List.getElem?_eq_getElem hi)).lt g e
    have:=(hv g e2).1
    omega)
   bnd:=λk2 b=>b.elim (λb=>zC (h.bnd k2 b) k.size) (λe=>(hv k2 e).2) }
end
theorem Qqa (w:World)(v:Value)(l:List Int)(hv:Nums w v l)(hl:l.length<=100000):
  ∃v' w',(Builtin.append_ #[51,51] 51 #[.slice none 0 0,v]).run Tryz.prog w=.ok v' w'/\Ints w' w.heap.size v' l/\w.grownBy w' none:=by
 obtain⟨i0,hi,hz0,hz1,hz2⟩:=info_parts intInfo;obtain⟨ad,c,g,o,rfl,h1⟩:=hv
 cases ad with
 | none=>
  have hl0:l.length=0:=by
   rcases Nat.eq_zero_or_pos l.length with h|h
   ·exact h
   ·cases (h1 0 h).1
  obtain rfl:=List.length_eq_zero_iff.1 hl0;refine⟨.slice none 0 0,w,?_,World.ownsRow_nil _ _ _ _,⟨rfl,rfl,rfl,zB _,λ_ _ _=>rfl⟩⟩
  simp[Builtin.append_,run_underlying Tryz.underlying51,sizeOf,typeInfo,hi,Builtin.lenOf,Builtin.firstCells]
 | some a=>
  obtain⟨v',w',e1,e2,e3,_⟩:=run_append_own_at (P:=Tryz.prog) (w:=w) w.heap.size 51 51 3 i0 (.int .i64 0) 1 8 Tryz.underlying51 hi hz0 hz1 hz2 rfl (by decide) (.slice none 0 0) 0 [] (World.ownsRow_nil _ _ _ _) a l.length c (l.map (Value.int .i64))
   (by rw[List.length_map,Nat.mul_one]) (λj u hu=>by
    have hj:j<l.length:=by
     have:=(List.getElem?_eq_some_iff.1 hu).1
     rwa[List.length_map] at this
    obtain⟨h2,_,h3⟩:=h1 j hj
    cases h2
    rw[Addr.add_lit];rw[List.getElem?_map,List.getElem?_eq_getElem hj] at hu
    cases hu
    exact h3) (λu hu=>by
    obtain⟨n,_,rfl⟩:=List.mem_map.1 hu
    rfl) (by unfold maxLen;omega) (by omega) (zB _)
  refine⟨v',w',e1,?_,e3⟩;rw[Nat.zero_add,List.nil_append] at e2;exact e2
theorem Qt6 {p:Pr}(h:p.Ok)(x y:Value):(p.cells x).set 65 y=p.cells y:=by
 unfold Pr.cells;rw[List.set_cons_succ,List.set_append_right _ _ (by rw[bZ,h.1];decide),bZ,h.1,List.set_append_right _ _ (by rw[bZ,h.2];decide),bZ,h.2]
 rfl
section
variable {B:Nat->Prop} {w w1:World} {lv pv s:Value} {L:List Lf} {P:List Pr} {SL:List Value} {l:List Int}
theorem Mine.fresh (h:Mine B w lv pv L P SL)(hs:Ints w1 w.heap.size s l):Dif lv.ownBlock s.ownBlock/\Dif pv.ownBlock s.ownBlock/\(∀(j:Nat) (t:Value),SL[j]?=some t->Dif s.ownBlock t.ownBlock)/\∀g,s.ownBlock=some g->¬B g:=by
 have key:∀x:Option Nat,(∀g,x=some g->g<w.heap.size)->Dif x s.ownBlock:=λx hx=>by
  cases x with
  | none=>exact .inl rfl
  | some g=>
   refine .inr λe=>?_
   have h1:=(World.ownsRow.lt hs g e.symm).1;have h2:=hx g rfl
   omega
 refine⟨key _ λg e=>(h.lo.2.lt g e).2,key _ λg e=>(h.po.2.lt g e).2,λj t ht=>Dif.symm (key _ λg e=>?_),λg e b=>?_⟩
 ·have hj:j<P.length:=by rw[<-h.len];exact(List.getElem?_eq_some_iff.1 ht).1
  exact(World.ownsRow.lt (h.so j _ t (List.getElem?_eq_getElem hj) ht) g e).2
 ·have:=(World.ownsRow.lt hs g e).1
  have:=h.bnd g b
  omega
end
structure CopySt (w u:World) (ln pn gl gp gt:Nat):Prop where
 k:Kept w.heap.size w.heap.size w u
 lo:OwnC u 0 122 97 (.slice (some ⟨gl,0,none⟩) ln ln) (List.replicate ln Lf.zero.cells)
 po:OwnC u 0 124 66 (.slice (some ⟨gp,0,none⟩) pn pn) (List.replicate pn (Pr.zero.cells (.slice none 0 0)))
 t:u.heap[gt]?=some (.cells #[.slice (some ⟨gl,0,none⟩) ln ln,.slice (some ⟨gp,0,none⟩) pn pn] 45 (0,0))
 bl:w.heap.size<=gl
 bp:w.heap.size<=gp
 bt:w.heap.size<=gt
 lp:gl≠gp
 lt:gl≠gt
 pt:gp≠gt
namespace Tt
def put:List Int->Int->List Int
 | [],x=>[x]
 | y::l,x=>if x<y then x::y::l else y::put l x
def loosened (x:Nat)(p:Pr):Pr:=if p.set then { p with loose:=put p.loose (x:Int) } else p
def Qxi (x:Nat)(P:List Pr)(y:Int):List Pr:=
 match P[y.toNat/2]? with
 | Option.some p=>P.set (y.toNat/2) (loosened x p)
 | Option.none=>P
def loosens (x:Nat)(ways:List Int)(P:List Pr):List Pr:=ways.foldl (Qxi x) P
def wide (L:List Lf):List Lf:=if firstBlank L=L.length then L++[Lf.zero] else L
def wideP (L:List Lf)(P:List Pr):List Pr:=if firstBlank L=L.length then(if L.length=0 then P else P++[Pr.zero]) else P
def addL (L:List Lf)(l:Lf):List Lf:=(wide L).set (firstBlank L) l
def addP (L:List Lf)(P:List Pr):List Pr:=loosens (firstBlank L) (Bo.Direct (wide L).length (firstBlank L)) (wideP L P)
end Tt
namespace Tt
def ends (L:List Lf):Nat->Nat
 | 0=>0
 | n+1=>if nameAt L (n:Int) == 0 then ends L n else n+1
def remL (L:List Lf)(k:Nat):List Lf:=(L.set k Lf.zero).take (ends (L.set k Lf.zero) L.length)
def remP (L:List Lf)(P:List Pr)(k:Nat):List Pr:=(blanks (Bo.Direct L.length (k:Int)) P).take (ends (L.set k Lf.zero) L.length-1)
end Tt
theorem Qu2 (n:Nat)(R:List (List Value))(h:∀r∈R,r.length=n)(m:Nat)(hm:m<=R.length):(R.take m).flatten=R.flatten.take (m*n):=by
 have h1:(R.take m).flatten.length=m*n:=by
  rw[flat_len n _ (λr hr=>h r (List.mem_of_mem_take hr)),List.length_take,Nat.min_eq_left hm]
 conv=>rhs;rw[<-List.take_append_drop m R,List.flatten_append,<-h1,List.take_left]
section
variable {w:World} {base:Nat} {T:TypeId} {n:Nat} {ad:Option Addr} {c:Nat}
theorem OwnC.cut {R:List (List Value)}(h:OwnC w base T n (.slice ad R.length c) R)(m:Nat)(hm:m<=R.length):OwnC w base T n (.slice ad m c) (R.take m):=by
 refine⟨λr hr=>h.1 r (List.mem_of_mem_take hr),?_⟩
 have hl:(R.take m).length=m:=by rw[List.length_take,Nat.min_eq_left hm]
 rw[hl,Qu2 n R h.len m hm];refine⟨by rw[List.length_take,flat_len n R h.len];exact Nat.min_eq_left (Nat.mul_le_mul_right n hm),?_⟩
 rcases h.2.2 with⟨e,hn⟩|⟨g,cap,cur,e,hb,hg,hc,hx,hs,ht⟩
 ·injection e with e1 e2 e3
  obtain rfl:m=0:=by omega
  exact .inl ⟨by rw[e1,e3],rfl⟩
 ·injection e with e1 e2 e3
  refine .inr ⟨g,cap,cur,by rw[e1,e3],hb,hg,by omega,hx,hs,?_⟩
  rw[<-ht,List.take_take,Nat.min_eq_left (Nat.mul_le_mul_right n hm)]
end
section
variable {B:Nat->Prop} {w:World} {lad pad:Option Addr} {lc pc:Nat} {L:List Lf} {P:List Pr} {SL:List Value}
theorem Mine.cut (h:Mine B w (.slice lad L.length lc) (.slice pad P.length pc) L P SL)(n m:Nat)(hn:n<=L.length)(hm:m<=P.length):Mine B w (.slice lad n lc) (.slice pad m pc) (L.take n) (P.take m) (SL.take m):=by
 have hlo:=h.lo;have hpo:=h.po;rw[<-List.length_map (f:=Lf.cells)] at hlo hn;have h1:=hlo.cut n hn;rw[<-Qgy h] at hpo;have h2:=hpo.cut m (by rw[Qgy h];exact hm)
 rw[<-List.map_take] at h1;rw[List.take_zipWith] at h2;have hmem:∀s∈SL.take m,s∈SL:=λs hs=>List.mem_of_mem_take hs
 have el:(Value.slice lad n lc).ownBlock=(Value.slice lad L.length lc).ownBlock:=by cases lad <;> rfl
 have ep:(Value.slice pad m pc).ownBlock=(Value.slice pad P.length pc).ownBlock:=by cases pad <;> rfl
 exact { lok:=λl hl=>h.lok l (List.mem_of_mem_take hl)
         pok:=λp hp=>h.pok p (List.mem_of_mem_take hp)
         lo:=h1
         len:=by rw[List.length_take,List.length_take,h.len]
         po:=h2
         so:=λi p s hp hs=>by
          rw[List.getElem?_take] at hp hs
          split at hp
          ·rename_i hi
           rw[zG hi] at hs;exact h.so i p s hp hs
          ·cases hp
         dlp:=by rw[el,ep];exact h.dlp
         dls:=λs hs=>by rw[el];exact h.dls s (hmem s hs)
         dps:=λs hs=>by rw[ep];exact h.dps s (hmem s hs)
         dss:=λi j s t hij hs ht=>by
          rw[List.getElem?_take] at hs ht
          split at hs
          ·split at ht
           ·exact h.dss i j s t hij hs ht
           ·cases ht
          ·cases hs
         ol:=by rw[el];exact h.ol
         op:=by rw[ep];exact h.op
         os:=λs hs=>h.os s (hmem s hs)
         bnd:=h.bnd }
end
section
variable {P:Program} {ops:Array Oper} {rest:List Oper} {o:Oper} {a:Act} {w:World} {Q:Exit->Act->World->Prop}
theorem Qbx {K:Act->World->Prop}(ty:TypeId)(x y:Operand)(ho:o.op=.store ty x y)(hd:o.dst=none)(b k:Nat)(cs:List Value)(t:TypeId)(v:Value)(hx:a.eval x=.pointer (some ⟨b,k,none⟩))(hy:a.eval y=v)
  (hg:w.heap[b]?=some (.cells cs.toArray t (0,0))) (hk:k<cs.length) (hv:v.oneCell'=true) (hi:(P.info? ty).map (·.size)=some 1) (hq:K a (w.setCell ⟨b,k,none⟩ v)):o.wp P a w K Q:=by
 have hrun:=Qqm (P:=P) w ty b k cs t v hg hk hv hi;unfold Oper.wp execOp;simp only[ho,hx,hy,Instr.storeAt,Instr.sureAddr,Sem.run_bind,Sem.run_pure,Result.andThen_ok,hrun];have hq2:K (a.put o.dst undef) (w.setCell ⟨b,k,none⟩ v):=by rw[hd];exact hq
 exact hq2
end
end Go.Proofs.YtnlbgggnpoeleaaGreatDoor
