/-
 TreeMore; TreeRefCopy; TreePart; TreeRenew; TreeNone: several texts in one.
-/
import Derived.Test.YtnlbgggnpoeleaaGreatDoorTreeBlank
set_option maxRecDepth 100000
set_option maxHeartbeats 6400000
namespace Go.Proofs.YtnlbgggnpoeleaaGreatDoor
open Go.RowKit Go.Lib
open List renaming setIfInBounds_toArray -> sA, set_cons_zero -> sB, set_cons_succ -> sC
open BigFrame renaming wpList_want -> wQ
section
variable {B B':Nat->Prop} {w w1:World} {lv pv:Value} {L:List Lf} {P:List Pr} {SL:List Value}
theorem Frm.cell (h:Frm B w w1){p:Addr}(hp:p.block<w.heap.size)(hb:B p.block):w1.cell? p=w.cell? p:=World.cell?_of_block (w:=w) (h.block p.block hp hb)
theorem Frm.range (h:Frm B w w1){g o:Nat}{cs:List Value}(hr:w.rangeAt g o cs)(hg:g<w.heap.size)(hb:B g):w1.rangeAt g o cs:=λj v hv=>(h.cell (p:=⟨g,o+j,none⟩) hg hb).trans (hr j v hv)
theorem Kept.setB {base b:Nat}{w0 w w2:World}(h:Kept base b w0 w)(g:w.grownBy w2 (some b))(hb:base<=w.heap.size):Kept base b w0 w2:=
 h.trans ⟨g.os,g.tape,g.output,g.size,λk hk hne=>g.block k (by omega) (λe=>hne (Option.some.inj e))⟩
theorem Kept.grewB {b:Nat}{w w2:World}(h:Kept w.heap.size b w w2):w.grownBy w2 (some b):=
 ⟨h.os,h.tape,h.output,h.size,λk hk hne=>h.block k hk (λe=>hne (by rw[e]))⟩
theorem Kept.overB {b:Nat}{w0 w w2:World}(h:Kept w0.heap.size w0.heap.size w0 w)(k:Kept w.heap.size b w w2)(hb:w0.heap.size<=b):Kept w0.heap.size w0.heap.size w0 w2:=
 h.trans ⟨k.os,k.tape,k.output,k.size,λi hi _=>k.block i (zC hi h.size) (by omega)⟩
theorem Mine.empty (B:Nat->Prop)(w:World)(hb:∀k,B k->k<w.heap.size):Mine B w (.slice none 0 0) (.slice none 0 0) [] [] []:=
 { lok:=λ_ h=>nomatch h
   pok:=λ_ h=>nomatch h
   lo:=OwnC.nil _ _ _ _
   len:=rfl
   po:=OwnC.nil _ _ _ _
   so:=λ_ _ _ h=>by simp at h
   dlp:=.inl rfl
   dls:=λ_ h=>nomatch h
   dps:=λ_ h=>nomatch h
   dss:=λ_ _ _ _ _ h=>by simp at h
   ol:=λ_ h=>nomatch h
   op:=λ_ h=>nomatch h
   os:=λ_ h=>nomatch h
   bnd:=hb }
theorem Mine.moreP (h:Mine B w lv pv L P SL)(b c:Nat)(p:Pr)(hp:p.Ok)(s:Value)(hs:Ints w 0 s p.loose)(hsb:∀g,s.ownBlock=some g->¬B g)(h1:Dif lv.ownBlock s.ownBlock)(h2:Dif pv.ownBlock s.ownBlock)(h3:∀(j:Nat) (t:Value),SL[j]?=some t->Dif s.ownBlock t.ownBlock)(hb:w.rangeAt b 0 (p.cells s))(hn:P.length<1000000):
  ∃v' w',(Builtin.append_ #[43,43] 43 #[pv,.slice (some ⟨b,0,none⟩) 1 c]).run Tryz.prog w=.ok v' w'/\Mine B w' lv v' L (P++[p]) (SL++[s])/\w.grownBy w' pv.ownBlock:=by
 obtain⟨sad,sn,sc,rfl⟩:=Qe8 hs;obtain⟨v',w',e1,e2,e3,e4⟩:=Qkl w pv _ h.po b c _ (Pr.cells_length hp _) (p.cells_one sad sn sc) hb (by rw[Qgy h];omega)
 refine⟨v',w',e1,?_,e3⟩
 have hlt:∀(j:Nat) (t:Value),SL[j]?=some t->∀g,t.ownBlock=some g->g<w.heap.size:=λj t ht g e=>by
  have hj:j<P.length:=by rw[<-h.len];exact(List.getElem?_eq_some_iff.1 ht).1
  exact(World.ownsRow.lt (h.so j _ t (List.getElem?_eq_getElem hj) ht) g e).2
 exact { h with
  pok:=λx hx=>(List.mem_append.1 hx).elim (h.pok x) (λe=>by rw[List.mem_singleton.1 e];exact hp)
  lo:=h.lo.grown e3 h.dlp
  len:=by rw[zE,zE,h.len];rfl
  po:=by rw[List.zipWith_append h.len.symm];exact e2
  so:=λj q t hq ht=>by
   rw[List.getElem?_append] at hq ht
   by_cases hj:j<P.length
   ·rw[zG hj] at hq
    rw[zG (by rw[h.len];exact hj)] at ht
    exact World.ownsRow.kept (h.so j q t hq ht) e3 (h.dps t (List.mem_of_getElem? ht)).symm
   ·rw[if_neg hj] at hq
    rw[if_neg (by rw[h.len];exact hj)] at ht
    have hp2:=List.mem_singleton.1 (List.mem_of_getElem? hq);have hs2:=List.mem_singleton.1 (List.mem_of_getElem? ht);subst hp2;subst hs2;exact World.ownsRow.kept hs e3 h2.symm
  dlp:=by
   rcases e4 with e|e
   ·rw[e];exact h.dlp
   ·rw[e]
    exact .inr λe2=>by have:=(h.lo.2.lt _ e2).2;omega
  dls:=λt ht=>(List.mem_append.1 ht).elim (h.dls t) (λe=>by rw[List.mem_singleton.1 e];exact h1)
  dps:=λt ht=>by
   rcases List.mem_append.1 ht with ht|ht
   ·rcases e4 with e|e
    ·rw[e];exact h.dps t ht
    ·obtain⟨i,hi⟩:=List.getElem?_of_mem ht
     exact .inr λe2=>by have:=hlt i t hi _ (e2.symm.trans e);omega
   ·rw[List.mem_singleton.1 ht]
    rcases e4 with e|e
    ·rw[e];exact h2
    ·exact .inr λe2=>by have:=(World.ownsRow.lt hs _ (e2.symm.trans e)).2;omega
  dss:=λi j x y hij hx hy=>by
   rw[List.getElem?_append] at hx hy
   by_cases hi:i<SL.length
   ·rw[zG hi] at hx
    by_cases hj:j<SL.length
    ·rw[zG hj] at hy
     exact h.dss i j x y hij hx hy
    ·rw[if_neg hj] at hy
     rw[List.mem_singleton.1 (List.mem_of_getElem? hy)];exact(h3 i x hx).symm
   ·rw[if_neg hi] at hx
    rw[List.mem_singleton.1 (List.mem_of_getElem? hx)]
    by_cases hj:j<SL.length
    ·rw[zG hj] at hy
     exact h3 j y hy
    ·rw[if_neg hj] at hy
     have h8:=(List.getElem?_eq_some_iff.1 hx).1;have h9:=(List.getElem?_eq_some_iff.1 hy).1;simp only[List.length_singleton] at h8 h9
     omega
  op:=λg e=>by
   rcases e4 with e2|e2
   ·exact h.op g (by rw[<-e2];exact e)
   ·rw[e2] at e;cases e
    exact λb=>Nat.lt_irrefl _ (h.bnd _ b)
  os:=λt ht=>(List.mem_append.1 ht).elim (h.os t) (λe=>by rw[List.mem_singleton.1 e];exact hsb)
  bnd:=λk hk=>zC (h.bnd k hk) e3.size }
end
theorem Qqb (w:World)(base:Nat)(v:Value)(L:List Int)(x:Int)(h:Ints w base v L)(b c:Nat)(hb:w.cell? ⟨b,0,none⟩=some (.int .i64 x))(hn:L.length<100000)(hbase:base<=w.heap.size):
  ∃v' w',(Builtin.append_ #[51,51] 51 #[v,.slice (some ⟨b,0,none⟩) 1 c]).run Tryz.prog w=.ok v' w'/\Ints w' base v' (L++[x])/\w.grownBy w' v.ownBlock:=by
 obtain⟨i0,hi,hz0,hz1,hz2⟩:=info_parts intInfo
 obtain⟨v',w',e1,e2,e3,_⟩:=run_append_own_at (P:=Tryz.prog) (w:=w) base 51 51 3 i0 (.int .i64 0) 1 8 Tryz.underlying51 hi hz0 hz1 hz2 rfl (by decide) v L.length (L.map (Value.int .i64)) h ⟨b,0,none⟩ 1 c [.int .i64 x]
  rfl (λj u hu=>by
   rw[Addr.add_lit]
   match j,hu with
   | 0,hu=>cases hu;exact hb) (λu hu=>by rw[List.mem_singleton.1 hu];rfl) (by unfold maxLen;omega) (by omega) hbase
 refine⟨v',w',e1,?_,e3⟩;unfold Ints;rw[zE,List.map_append];exact e2
theorem Qus {w:World}{g o:Nat}{a:Option Addr}{n c:Nat}(h:w.cell? ⟨g,o,none⟩=some (.slice a n c)):(loadVar 51 ⟨g,o,none⟩).run Tryz.prog w=.ok (.slice a n c) w:=by
 go_simp
theorem Qtd (w:World)(x:Int):(Instr.buildSlice 51 1 #[(0,.int .i64 x)]).run Tryz.prog w=.ok (.slice (some ⟨w.heap.size,0,none⟩) 1 1) (w.alloc (.cells #[.int .i64 x] 3)):=by go_simp
theorem Qp5 (w:World)(l:Lf)(h:l.Ok):(Instr.buildSlice 42 1 #[(0,.agg l.cells.toArray)]).run Tryz.prog w=.ok (.slice (some ⟨w.heap.size,0,none⟩) 1 1) (w.alloc (.cells l.cells.toArray 122)):=by
 obtain⟨i,z,hi,hz,hs⟩:=leafFullZ;exact Qcm w _ _ i z Tryz.underlying42 hi hz _ (by rw[Lf.size h,hs]) (by omega) (by omega)
theorem Qgw (w:World)(p:Pr)(h:p.Ok)(s:Value):(Instr.buildSlice 43 1 #[(0,.agg (p.cells s).toArray)]).run Tryz.prog w=.ok (.slice (some ⟨w.heap.size,0,none⟩) 1 1) (w.alloc (.cells (p.cells s).toArray 124)):=by
 obtain⟨i,z,hi,hz,hs⟩:=parentFullZ;exact Qcm w _ _ i z Tryz.underlying43 hi hz _ (by rw[Pr.size h,hs]) (by omega) (by omega)
theorem Qpz (w:World):(Instr.build 45 #[]).run Tryz.prog w=.ok (.agg #[.slice none 0 0,.slice none 0 0]) w:=by kernel_rfl
section
variable {P:Program} {ops:Array Oper} {rest:List Oper} {o:Oper} {a:Act} {w w':World} {K:Act->World->Prop} {Q:Exit->Act->World->Prop}
theorem Qcu (t:TypeId)(x:Operand)(ho:o.op=.buildSlice t 1 #[(0,x)])(d:Option Tmp)(hd:o.dst=d)(u v:Value)(hx:a.eval x=u)(hr:(Instr.buildSlice t 1 #[(0,u)]).run P w=.ok v w')(h:K (a.put d v) w'):o.wp P a w K Q:=by
 subst hd;unfold Oper.wp execOp;simp only[ho,List.map_toArray,List.map_cons,List.map_nil,hx,Sem.run_bind,hr,Result.andThen_ok,Sem.run_pure];exact h
theorem Qed (s x:Operand)(t t' ty:TypeId)(hty:o.type=ty)(ho:o.op=.call { callee:=.builtin .append,args:=#[s,x],argTypes:=#[t,t'] })(d:Option Tmp)(hd:o.dst=d)(v y v':Value)(hs:a.eval s=v)(hx:a.eval x=y)(hr:(Builtin.append_ #[t,t'] ty #[v,y]).run P w=.ok v' w')(hk:K (a.put d v') w'):o.wp P a w K Q:=by
 subst hty;subst hd;unfold Oper.wp execOp;simp only[ho,resolve,invoke,builtin,Sem.run_bind,Sem.run_pure,Result.andThen_ok,List.map_toArray,List.map_cons,List.map_nil,hs,hx,hr];exact hk
theorem Qex (hw:Region.wanted o (yielded ops a.tmps)=true)(t:TypeId)(x:Operand)(ho:o.op=.buildSlice t 1 #[(0,x)])(u v:Value)(hx:a.eval x=u)(hr:(Instr.buildSlice t 1 #[(0,u)]).run P w=.ok v w')(hk:wpList P ops Q rest (a.put o.dst v) w'):wpList P ops Q (o::rest) a w:=by
 refine wpList_step λK hK=>?_
 rw[zG hw];exact Qcu t x ho _ rfl u v hx hr (hK _ _ hk)
end
theorem Qlu (lv pv:Value)(L:List Lf)(P:List Pr)(w:World)(hL:Lvs w lv L)(hP:Pts w pv P)(hn:L.length<=1000)(hp:P.length<=1000)(hpl:∀p∈P,p.loose.length<=1000):
  Calls Tryz.prog 74 #[.agg #[lv,pv]] w λe w'=>∃lv' pv',e=.returned (.agg #[lv',pv'])/\Kept w.heap.size w.heap.size w w'/\∃SL,Mine (λk=>k<w.heap.size) w' lv' pv' L P SL:=by
 obtain⟨lad,lg,lo,lc,rfl,hlc,_⟩:=hL;obtain⟨pad,pg,po,pc,rfl,hpc,_⟩:=hP;obtain⟨ln,hln⟩:∃ln,ln=L.length:=⟨_,rfl⟩;obtain⟨pn,hpn⟩:∃pn,pn=P.length:=⟨_,rfl⟩;rw[<-hln,<-hpn];have hln9:(ln:Int)<=1000:=by omega
 have hpn9:(pn:Int)<=1000:=by omega
 have HLN:=hid hln;have HPN:=hid hpn;have HLB:=hid (show ln<=1000 by omega)
 have HPB:=hid (show pn<=1000 by omega)
 have HPL:=hid hpl;have HLC:=hid hlc;have HPC:=hid hpc;clear hn hp hpl hln hpn hlc hpc
 go_enter Tryz.func74,Tryz.ntmps74
 go_upto_region 1 with fail
 have k1:=kA w (.cells #[.slice lad ln lc,.slice pad pn pc] 45)
 have t1:=Qaa w (.cells #[.slice lad ln lc,.slice pad pn pc] 45)
 have s1:(w.alloc (.cells #[.slice lad ln lc,.slice pad pn pc] 45)).heap.size=w.heap.size+1:=by simp
 generalize w.alloc (.cells #[.slice lad ln lc,.slice pad pn pc] 45)=wa at k1 t1 s1 |-
 have k2:=kA wa (.cells #[.slice none 0 0,.slice none 0 0] 45)
 have r2:=Qaa wa (.cells #[.slice none 0 0,.slice none 0 0] 45)
 have s2:(wa.alloc (.cells #[.slice none 0 0,.slice none 0 0] 45)).heap.size=wa.heap.size+1:=by simp
 have t2:=rk t1 k2;generalize wa.alloc (.cells #[.slice none 0 0,.slice none 0 0] 45)=wb at k2 r2 s2 t2 |-
 refine zA ?_;refine @Qap _ _ _ _ _ _ _ ?_ 45 rfl _ (Qpz _) ?_;kernel_rfl
 simp only[Act.put,sA,sB,sC];refine @Qas _ _ _ _ _ _ _ _ ?_ 45 rfl _ (Qlf _) ?_;kernel_rfl
 simp only[Act.put,sA,sB,sC];refine wpList_store_row rfl 45 _ _ rfl (wb.heap.size) #[.slice none 0 0,.slice none 0 0] rfl rfl 45 #[.slice none 0 0,.slice none 0 0] (Qaa _ _) (treeInfo) (rfl) (Qef _ _ _ _ _ _) ?_
 simp only[Act.put];rw[World.setRow_alloc_new];have k3:=kA wb (.cells #[.slice none 0 0,.slice none 0 0] 45)
 have o3:=Qaa wb (.cells #[.slice none 0 0,.slice none 0 0] 45)
 have s3:(wb.alloc (.cells #[.slice none 0 0,.slice none 0 0] 45)).heap.size=wb.heap.size+1:=by simp
 have t3:=rk t2 k3;have r3:=rk r2 k3;generalize wb.alloc (.cells #[.slice none 0 0,.slice none 0 0] 45)=w1 at k3 o3 s3 t3 r3 |-
 have K1:=hid ((k1.next1 k2).next1 k3);rw[s2,s1] at o3 s3;rw[s1] at r3
 (try rw[s2])
 (try rw[s1])
 obtain⟨tb,htb⟩:∃tb,tb=w.heap.size:=⟨_,rfl⟩;obtain⟨rb,hrb⟩:∃rb,rb=w.heap.size+1:=⟨_,rfl⟩;obtain⟨ob,hob⟩:∃ob,ob=w.heap.size+1+1:=⟨_,rfl⟩;obtain⟨sz,hsz⟩:∃sz,sz=w.heap.size+1+1+1:=⟨_,rfl⟩;rw[<-hob] at o3
 (try rw[<-hob])
 rw[<-hrb] at r3
 (try rw[<-hrb])
 rw[<-htb] at t3
 (try rw[<-htb])
 rw[<-hsz] at s3;have HTB:=hid (show tb<sz by omega)
 have HRB:=hid (show rb<sz by omega)
 have HOB:=hid (show ob<sz by omega)
 have HTR:=hid (show tb≠rb by omega)
 have HTO:=hid (show tb≠ob by omega)
 have HRO:=hid (show rb≠ob by omega)
 have HWT:=hid (show ¬tb<w.heap.size by omega)
 have HWR:=hid (show ¬rb<w.heap.size by omega)
 have HWO:=hid (show ¬ob<w.heap.size by omega)
 have HWS:=hid (show w.heap.size<=sz by omega)
 have T1:=hid t3;have R1:=hid r3;have O1:=hid o3;have M1:=hid (Mine.empty (λk=>k<sz) w1 (λk e=>by omega))
 clear k1 t1 s1 k2 r2 s2 t2 k3 o3 s3 t3 r3 htb hrb hob hsz;go_wp2
 go_loopw [4] (λs4 wr=>∃i:Nat,∃vl,s4=.int .i64 (i:Int)/\Hid (i<=ln)/\Hid (Mine (λk=>k<sz) wr vl (.slice none 0 0) (L.take i) [] [])/\Hid (Kept w.heap.size w.heap.size w wr)/\Hid (wr.heap[tb]?=some (.cells #[.slice lad ln lc,.slice pad pn pc] 45 (0,0)))/\Hid (wr.heap[rb]?=some (.cells #[.slice none 0 0,.slice none 0 0] 45 (0,0)))/\Hid (wr.heap[ob]?=some (.cells #[vl,.slice none 0 0] 45 (0,0)))) (λs4 _=>ln-(RowKit.intOf s4).toNat)
 case atStart=>exact⟨0,_,rfl,hid (Nat.zero_le _),M1,K1,T1,R1,O1⟩
 case round=>
  obtain⟨i,vl,rfl,hi,HM,HK,HT,HR,HO⟩:=hrel;obtain⟨vad,vc,hv⟩:=HM.out.lvs.shape;subst hv;obtain⟨vn,hvn⟩:∃vn,vn=(L.take i).length:=⟨_,rfl⟩;rw[<-hvn] at HM HO;have t0:=Qac HT.out
  by_cases hlt:i<ln
  ·have hiL:i<L.length:=by rw[<-HLN.out];exact hlt
   have hlti:(i:Int)<(ln:Int):=by omega
   have hi0:¬(i:Int)<0:=by omega
   obtain⟨rfl,hg,hok,hr⟩:=HLC.out i hiL;have hrw:=Qaf HK.out hr hg (zD hg);obtain⟨wd,hwd⟩:∃wd,wd=wr.drew:=⟨_,rfl⟩;have hkd:Kept wr.heap.size wr.heap.size wr wd:=by rw[hwd];exact zI.drew
   have hrd:=Qaf hkd hrw (zC hg HK.out.size) (zD (zC hg HK.out.size));have md:=HM.out.kept hkd;have td:=(hkd.block tb (zF HT.out) (zD (zF HT.out))).trans HT.out;have rd:=(hkd.block rb (zF HR.out) (zD (zF HR.out))).trans HR.out;have od:=(hkd.block ob (zF HO.out) (zD (zF HO.out))).trans HO.out;have kd:=HK.out.next1 hkd;have hgd:lg<wd.heap.size:=zC hg kd.size;have hgs:lg<sz:=zC hg HWS.out;have HT2:=hid (λ(w':World) (h:Frm (λk=>k<sz) wd w')=>Qde (d:=.int .u8) (Qac ((h.block tb (zF td) HTB.out).trans td)) (.inl rfl) rfl)
   have HO2:=hid (λ(w':World) (h:Frm (λk=>k<sz) wd w')=>Qde (d:=.int .u8) (Qac ((h.block ob (zF od) HOB.out).trans od)) (.inl rfl) rfl)
   have HL2:=hid (λ(w':World) (h:Frm (λk=>k<sz) wd w')=>h.range hrd hgd hgs)
   have mb:=md.alloc (.cells L[i].cells.toArray 122)
   have fb:=(Frm.refl (λk=>k<sz) wd).alloc (.cells L[i].cells.toArray 122)
   have kb:=kd.next1 (kA wd (.cells L[i].cells.toArray 122))
   have hnb:=Qaa wd (.cells L[i].cells.toArray 122)
   have eb:=Qp5 wd L[i] hok;obtain⟨v3,w3,e3,m3,g3⟩:=mb.moreLeaf wd.heap.size 1 L[i] hok (Qf4 hnb) (by rw[<-hvn];have:=HLB.out;rw[hvn,List.length_take];omega)
   rw[<-List.take_succ_eq_append_getElem hiL] at m3;obtain⟨v3ad,v3c,hv3⟩:=m3.lvs.shape;subst hv3;obtain⟨v3n,hv3n⟩:∃v3n,v3n=(L.take (i+1)).length:=⟨_,rfl⟩;rw[<-hv3n] at e3 m3;have f3:=fb.trans (Qfk (B:=λk=>k<sz) g3 (λg e=>mb.ol g e))
   have k3:=kb.grown g3 kb.size (λg e=>by have:=mb.ol g e;have:=HWS.out;omega)
   have t3:=(f3.block tb (zF td) HTB.out).trans td;have r3:=(f3.block rb (zF rd) HRB.out).trans rd;have o3:=(f3.block ob (zF od) HOB.out).trans od;have g4:=Qbb w3 ob 0 (.slice v3ad v3n v3c);have m4:=m3.aside (b:=ob) HOB.out g4;have k4:=k3.grown g4 k3.size (λg e=>by cases e;have:=HWO.out;omega)
   have t4:=(g4.block tb (zF t3) (λe=>HTO.out (Option.some.inj e))).trans t3
   have r4:=(g4.block rb (zF r3) (λe=>HRO.out (Option.some.inj e))).trans r3
   have o4:(w3.setCell ⟨ob,0,none⟩ (.slice v3ad v3n v3c)).heap[ob]?=some (.cells #[.slice v3ad v3n v3c,.slice none 0 0] 45 (0,0)):=Qaj (cs:=[.slice vad vn vc,.slice none 0 0]) o3 0 (.slice v3ad v3n v3c)
   have hinf:(Tryz.prog.info? 122).map (·.size)=some L[i].cells.length:=by have:=leafInfo (Lf.size hok);simpa using this
   obtain⟨D,hD⟩:∃D,D=L[i].cells:=⟨_,rfl⟩;rw[<-hD] at HL2 mb fb kb hnb eb e3 g3 hinf;generalize wd.alloc (.cells D.toArray 122)=w2 at fb kb eb e3 g3 hnb mb
   have HF2:=hid fb;have EB:=hid eb;have E3:=hid e3;have F3:=hid f3;have HINF:=hid hinf;have O3:=hid o3;have K4:=hid k4;have T4:=hid t4;have R4:=hid r4;have O4:=hid o4;have M4:=hid m4;have HLT:=hid hlt;clear hi hlt hiL hg hok hr hrw hkd hrd md td rd od kd hgd hgs mb fb kb hnb eb e3 m3 g3 f3 k3 t3 r3 o3 g4 m4 k4 t4 r4 o4 hinf hD hvn hv3n HM HK
   go_upto_region 5 with fail
   refine wp_region_noPanic ?_;refine Qa9 10 (S:=λw'=>Frm (λk=>k<sz) wd w') (by kernel_rfl) (by rw[hwd];exact Frm.refl _ _) (λhH=>?_)
   rw[<-hwd] at hH |-;clear hwd t0;refine tkT (i:=0) 17 (.pointer (some ⟨ob,0,none⟩)) rfl (.inl ⟨by kernel_rfl,λw9 _=>by go_simp;first|done|rfl⟩) hH ?_
   simp only[sA,sB,sC];refine tkT (i:=1) 18 (.slice vad vn vc) rfl (yK (by kernel_rfl) 42 _ rfl (ob) (0) rfl (.slice vad vn vc) (HO2.out)) hH ?_
   simp only[sA,sB,sC];refine tkT (i:=2) 19 (.pointer (some ⟨tb,0,none⟩)) rfl (.inl ⟨by kernel_rfl,λw9 _=>by go_simp;first|done|rfl⟩) hH ?_
   simp only[sA,sB,sC];refine tkT (i:=3) 20 (.slice (some ⟨lg,lo,none⟩) ln lc) rfl (yK (by kernel_rfl) 42 _ rfl (tb) (0) rfl (.slice (some ⟨lg,lo,none⟩) ln lc) (HT2.out)) hH ?_
   simp only[sA,sB,sC];refine tkT (i:=4) 21 (.int .i64 (i:Int)) rfl (.inl ⟨by kernel_rfl,λw9 _=>by go_simp;first|done|rfl⟩) hH ?_
   simp only[sA,sB,sC];refine tkT (i:=5) 22 (.pointer (some ⟨lg,lo+i*97,none⟩)) rfl (.inl ⟨by kernel_rfl,λw9 _=>by go_simp;first|done|rfl⟩) hH ?_
   simp only[sA,sB,sC];refine tkT (i:=6) 23 (.agg D.toArray) rfl (yieldsIf_load_mid (by kernel_rfl) 122 _ rfl (lg) (lo+i*97) rfl D _ HL2.out Tryz.underlying122 rfl HINF.out) hH ?_
   simp only[sA,sB,sC];refine Qa2 (i:=7) (by kernel_rfl) rfl (λK hK=>?_)
   rw[zG (by rfl)]
   refine Qcu 42 (.tmp 23) rfl (some 24) rfl (.agg D.toArray) _ rfl EB.out ?_
   simp only[Act.put,sA,sB,sC];refine hK.out _ _ HF2.out (λhH=>?_)
   clear hK K;refine Qa2 (i:=8) (by kernel_rfl) rfl (λK hK=>?_)
   rw[zG (by rfl)]
   refine Qed (.tmp 18) (.tmp 24) 42 42 42 rfl rfl (some 25) rfl (.slice vad vn vc) (.slice (some ⟨wd.heap.size,0,none⟩) 1 1) (.slice v3ad v3n v3c) rfl rfl E3.out ?_
   simp only[Act.put,sA,sB,sC];refine hK.out _ _ F3.out (λhH=>?_)
   clear hK K;refine tkT (i:=9) 26 (.pointer (some ⟨ob,0,none⟩)) rfl (.inl ⟨by kernel_rfl,λw9 _=>by go_simp;first|done|rfl⟩) hH ?_
   simp only[sA,sB,sC];refine Qb4 (by kernel_rfl) rfl (λK hK=>?_)
   rw[zG (by rfl)]
   refine Qbx 42 _ _ rfl rfl ob 0 [.slice vad vn vc,.slice none 0 0] 45 (.slice v3ad v3n v3c) rfl rfl O3.out (by simp) rfl (by kernel_rfl) ?_
   refine hK.out _ _ ?_;clear hK K;refine Qb5 (by kernel_rfl) ?_ _
   refine NoPanic.normal ?_;generalize w3.setCell ⟨ob,0,none⟩ (.slice v3ad v3n v3c)=w4 at K4 T4 R4 O4 M4 |-;go_wp2
   go_roundw
   case rel=>exact⟨i+1,_,by simp,hid HLT.out,M4,K4,T4,R4,O4⟩
   case measure=>have:=HLT.out;simp[RowKit.intOf];omega
  ·have hnl:¬(i:Int)<(ln:Int):=by omega
   have HE:=hid (show i=ln by have:=hi.out;omega)
   clear hlt hi;rw[HE.out] at HM;rw[HLN.out,List.take_length] at HM;have hvn2:vn=L.length:=by rw[hvn,HE.out,HLN.out,List.take_length]
   clear hvn
   go_upto_region 6 with fail
   clear t0;go_wp2
   go_loopw [5] (λs5 wr=>∃i:Nat,∃vp,s5=.int .i64 (i:Int)/\Hid (i<=pn)/\∃SL,Hid (Mine (λk=>k<sz) wr (.slice vad vn vc) vp L (P.take i) SL)/\Hid (Kept w.heap.size w.heap.size w wr)/\Hid (wr.heap[tb]?=some (.cells #[.slice lad ln lc,.slice pad pn pc] 45 (0,0)))/\Hid (wr.heap[rb]?=some (.cells #[.slice none 0 0,.slice none 0 0] 45 (0,0)))/\Hid (wr.heap[ob]?=some (.cells #[.slice vad vn vc,vp] 45 (0,0)))) (λs5 _=>pn-(RowKit.intOf s5).toNat)
   case atStart=>exact⟨0,_,rfl,hid (Nat.zero_le _),[],HM,HK,HT,HR,HO⟩
   case round=>
    clear HM HK HT HR HO;obtain⟨i,vp,rfl,hi,SL,HM,HK,HT,HR,HO⟩:=hrel;obtain⟨qad,qc,hq⟩:=HM.out.pts.shape;subst hq;obtain⟨qn,hqn⟩:∃qn,qn=(P.take i).length:=⟨_,rfl⟩;rw[<-hqn] at HM HO;clear hqn;have t0:=Qab HT.out
    by_cases hlt:i<pn
    ·have hiP:i<P.length:=by rw[<-HPN.out];exact hlt
     have hlti:(i:Int)<(pn:Int):=by omega
     have hi0:¬(i:Int)<0:=by omega
     obtain⟨rfl,hg,hok,sl,hr,hnums⟩:=HPC.out i hiP;have hrw:=Qaf HK.out hr hg (zD hg);have hl9:=HPL.out _ (List.getElem_mem hiP);obtain⟨sad,sc,ng,no,rfl,hnc⟩:=hnums;have hmb:=HM.out.box (.cells (P[i].cells (.slice sad P[i].loose.length sc)).toArray 124)
     have kb:=HK.out.alloc HK.out.size (.cells (P[i].cells (.slice sad P[i].loose.length sc)).toArray 124)
     have hpb:=Qaa wr (.cells (P[i].cells (.slice sad P[i].loose.length sc)).toArray 124)
     have htb2:=(heap_alloc_old wr (.cells (P[i].cells (.slice sad P[i].loose.length sc)).toArray 124) (zF HT.out)).trans HT.out
     have hrb2:=(heap_alloc_old wr (.cells (P[i].cells (.slice sad P[i].loose.length sc)).toArray 124) (zF HR.out)).trans HR.out
     have hob2:=(heap_alloc_old wr (.cells (P[i].cells (.slice sad P[i].loose.length sc)).toArray 124) (zF HO.out)).trans HO.out
     have hpbl:=Qek hok hpb;have hla:=run_loadVar_mid wr pg (po+i*66) 124 _ _ hrw Tryz.underlying124 rfl (by have:=parentInfo (Pr.size hok (.slice sad P[i].loose.length sc));simpa using this)
     have hsz:=Pr.size hok (.slice sad P[i].loose.length sc);have hall:=Pr.all P[i] sad P[i].loose.length sc;obtain⟨pb,hpbe⟩:∃pb,pb=wr.heap.size:=⟨_,rfl⟩
     have hps:sz<=pb:=by
      have h1:=zF HO.out;have h2:=HM.out.bnd;rw[hpbe]
      rcases Nat.lt_or_ge wr.heap.size sz with h|h
      ·exact absurd (h2 _ h) (Nat.lt_irrefl _)
      ·exact h
     have g1:=Qbb (wr.alloc (.cells (P[i].cells (.slice sad P[i].loose.length sc)).toArray 124)) pb 65 (.slice none 0 0)
     rw[<-hpbe] at hmb hpb hpbl;have m1:=hmb.aside (b:=pb) (.inr rfl) g1;have p1:=Qaj hpb 65 (.slice none 0 0);rw[Qt6 hok] at p1;have kk1:=kb.grown g1 kb.size (λk e=>by cases e;rw[hpbe];exact HK.out.size)
     have hne:∀k,k<sz->some k≠some pb:=λk hk e=>by have:=Option.some.inj e;omega
     have tt1:=(g1.block tb (zF htb2) (hne tb HTB.out)).trans htb2;have rr1:=(g1.block rb (zF hrb2) (hne rb HRB.out)).trans hrb2;have oo1:=(g1.block ob (zF hob2) (hne ob HOB.out)).trans hob2;have hcl:(P[i].cells (.slice sad P[i].loose.length sc)).length=66:=Pr.cells_length hok _;obtain⟨p,hpp⟩:∃p,p=P[i]:=⟨_,rfl⟩;have HPP:=hid (show P.take (i+1)=P.take i++[p] by rw[hpp];exact List.take_succ_eq_append_getElem hiP)
     rw[<-hpp] at hok hl9 hnc hmb kb hpb hpbl hla hsz hall g1 m1 p1 kk1 tt1 rr1 oo1 htb2 hrb2 hob2 hcl;obtain⟨sn,hsn⟩:∃sn,sn=p.loose.length:=⟨_,rfl⟩;rw[<-hsn] at hl9 hmb kb hpb hpbl hla hsz hall g1 m1 p1 kk1 tt1 rr1 oo1 htb2 hrb2 hob2 hcl;obtain⟨D,hD⟩:∃D,D=p.cells (.slice sad sn sc):=⟨_,rfl⟩;rw[<-hD] at hmb kb hpb hpbl hla hsz hall g1 m1 p1 kk1 tt1 rr1 oo1 htb2 hrb2 hob2 hcl;have HOK:=hid hok;have HL9:=hid hl9;have HSN:=hid hsn;have HNC:=hid hnc;have hsn9:(sn:Int)<=1000:=by omega
     have HPBB:=hid hpb;have HPBL:=hid hpbl;have HLA:=hid hla;have HSZ:=hid hsz;have HALL:=hid hall;have HCL:=hid hcl;have HPS:=hid hps;have HPW:=hid (show w.heap.size<=pb by rw[hpbe];exact HK.out.size)
     have M1:=hid m1;have P1:=hid p1;have KK1:=hid kk1;have TT1:=hid tt1;have RR1:=hid rr1;have OO1:=hid oo1;have HLT:=hid hlt;have HPG:=hid (show pb<(wr.alloc (.cells D.toArray 124)).heap.size from zF hpb)
     clear hi hlt hiP hg hok hr hrw hl9 hnc hmb kb hpb htb2 hrb2 hob2 hpbl hla hsz hall g1 m1 p1 kk1 tt1 rr1 oo1 hpp hsn hD hcl hps hne HM HK HT HR HO
     go_upto_region 9 with fail
     refine zA ?_;iterate 4(refine wW λK hK=>?_;go_simp;apply hK;clear hK K)
     refine wLk 124 (.tmp 37) rfl (pg) (po+i*66) rfl (.agg D.toArray) (HLA.out) ?_
     simp only[Act.put,sA,sB,sC];refine @Qas _ _ _ _ _ _ _ _ ?_ 124 rfl _ (Qdy _) ?_;kernel_rfl
     simp only[Act.put,sA,sB,sC];refine wpList_store_row rfl 124 _ _ rfl (wr.heap.size) D.toArray rfl rfl 124 (Pr.zero.cells (.slice none 0 0)).toArray (Qaa _ _) (parentInfo HSZ.out) (by rw[HSZ.out];exact Pr.size Pr.zero_ok _) (HALL.out) ?_
     simp only[Act.put];rw[World.setRow_alloc_new];rw[<-hpbe];generalize wr.alloc (.cells D.toArray 124)=wb2 at HPBB HPBL M1 P1 KK1 TT1 RR1 OO1 HPG |-
     clear hpbe t0;have c65:=HPBL.out
     go_upto_region 11 with fail
     refine zA ?_;refine wW λK hK=>?_;go_simp;apply hK;clear hK K;refine @Qcd _ _ _ _ _ _ _ ?hw65a 51 _ _ rfl (pb) 65 D 124 (.slice none 0 0) rfl rfl HPBB.out (by rw[HCL.out];decide) rfl (by kernel_rfl) ?_
     case hw65a=>kernel_rfl
     simp only[Act.put];have HPI:=hid (show pb<(wb2.setCell ⟨pb,65,none⟩ (.slice none 0 0)).heap.size from zF P1.out);generalize wb2.setCell ⟨pb,65,none⟩ (.slice none 0 0)=wi at M1 P1 KK1 TT1 RR1 OO1 HPI |-;clear c65 HPBB HPBL HPG;go_wp2
     go_loopw [8] (λs8 wr=>∃j:Nat,∃s,s8=.int .i64 (j:Int)/\Hid (j<=sn)/\Hid (Kept wi.heap.size pb wi wr)/\Hid (wr.heap[pb]?=some (.cells (p.cells s).toArray 124 (0,0)))/\Hid (Ints wr wi.heap.size s (p.loose.take j))) (λs8 _=>sn-(RowKit.intOf s8).toNat)
     case atStart=>exact⟨0,_,rfl,hid (Nat.zero_le _),hid zI,P1,hid (World.ownsRow_nil _ _ _ _)⟩
     case round=>
      obtain⟨j,s,rfl,hj,HX,HXP,HXI⟩:=hrel;obtain⟨xad,xn,xc,hxs⟩:=Qe8 HXI.out;subst hxs
      by_cases hjl:j<sn
      ·have hjL:j<p.loose.length:=by rw[<-HSN.out];exact hjl
       have hltj:(j:Int)<(sn:Int):=by omega
       have hj0:¬(j:Int)<0:=by omega
       obtain⟨rfl,hng,hncell⟩:=HNC.out j hjL;have kx:=KK1.out.overB HX.out HPW.out;obtain⟨wd,hwd⟩:∃wd,wd=wr.drew:=⟨_,rfl⟩;have hkd:Kept wr.heap.size wr.heap.size wr wd:=by rw[hwd];exact zI.drew
       have kd:=kx.next1 hkd;have hkdi:Kept wi.heap.size pb wi wd:=by rw[hwd];exact HX.out.drew
       have hcd:wd.cell? ⟨ng,no+j,none⟩=some (.int .i64 p.loose[j]):=(kd.cell (p:=⟨ng,no+j,none⟩) hng (zD hng)).trans hncell;have pd:=(hkd.block pb (zF HXP.out) (zD (zF HXP.out))).trans HXP.out;have idd:=HXI.out.kept hkd;have hngd:ng<wd.heap.size:=zC hng kd.size;have hwi:wi.heap.size<=wd.heap.size:=hkdi.size;have HS2:=hid (λ(w':World) (h:Frm (λk=>k<wi.heap.size) wd w')=>Qus (Qek HOK.out ((h.block pb (zF pd) HPI.out).trans pd)))
       have HN2:=hid (λ(w':World) (h:Frm (λk=>k<wi.heap.size) wd w')=>Ql1 ((h.cell (p:=⟨ng,no+j,none⟩) hngd (zC hng KK1.out.size)).trans hcd))
       obtain⟨x,hx⟩:∃x,x=p.loose[j]:=⟨_,rfl⟩;have hnxt:p.loose.take (j+1)=p.loose.take j++[x]:=by rw[hx];exact List.take_succ_eq_append_getElem hjL
       rw[<-hx] at HN2;have ib:=idd.alloc (.cells #[.int .i64 x] 3)
       have fb:=(Frm.refl (λk=>k<wi.heap.size) wd).alloc (.cells #[.int .i64 x] 3)
       have kbi:=hkdi.alloc hwi (.cells #[.int .i64 x] 3)
       have pbb:=(fb.block pb (zF pd) HPI.out).trans pd;have eb:=Qtd wd x;obtain⟨v3,w3,e3,i3,g3⟩:=Qqb _ _ _ _ x ib wd.heap.size 1 (Qi7 (Qaa wd (.cells #[.int .i64 x] 3))) (by have:=HL9.out;have:=HSN.out;rw[List.length_take];omega) kbi.size
       rw[<-hnxt] at i3;obtain⟨yad,yn,yc,hys⟩:=Qe8 i3;subst hys;have f3:=fb.trans (Qfk (B:=λk=>k<wi.heap.size) g3 (λg e=>Nat.not_lt.2 (World.ownsRow.lt ib g e).1))
       have k3:=kbi.grown g3 kbi.size (λg e=>(World.ownsRow.lt ib g e).1)
       have p3:=(f3.block pb (zF pd) HPI.out).trans pd;have g4:=Qbb w3 pb 65 (.slice yad yn yc);have k4:=k3.setB g4 k3.size;have p4:=Qaj p3 65 (.slice yad yn yc);rw[Qt6 HOK.out] at p4;have i4:Ints (w3.setCell ⟨pb,65,none⟩ (.slice yad yn yc)) wi.heap.size (.slice yad yn yc) (p.loose.take (j+1)):=World.ownsRow.kept i3 g4 (.inr (λe=>by have:=(World.ownsRow.lt i3 pb e).1;have:=HPI.out;omega))
       generalize wd.alloc (.cells #[.int .i64 x] 3)=w2 at fb eb e3
       have HF2:=hid fb;have EB:=hid eb;have E3:=hid e3;have F3:=hid f3;have P3:=hid p3;have K4:=hid k4;have P4:=hid p4;have I4:=hid i4;have HJL:=hid hjl;have hl65:65<(p.cells (.slice xad xn xc)).length:=by rw[Pr.cells_length HOK.out];decide
       have HL65:=hid hl65;clear hj hjl hjL hng hncell kx hkd kd hkdi hcd pd idd hngd hwi hnxt hx ib fb kbi pbb eb e3 i3 g3 f3 k3 p3 g4 k4 p4 i4 hl65 HX HXP HXI
       go_upto_region 15 with fail
       refine wp_region_noPanic ?_;refine Qa9 9 (S:=λw'=>Frm (λk=>k<wi.heap.size) wd w') (by kernel_rfl) (by rw[hwd];exact Frm.refl _ _) (λhH=>?_)
       rw[<-hwd] at hH |-;clear hwd;refine tkT (i:=0) 48 (.pointer (some ⟨pb,65,none⟩)) rfl (.inl ⟨by kernel_rfl,λw9 _=>by go_simp;first|done|rfl⟩) hH ?_
       simp only[sA,sB,sC];refine tkT (i:=1) 49 (.slice xad xn xc) rfl (yK (by kernel_rfl) 51 _ rfl (pb) (65) rfl (.slice xad xn xc) (HS2.out)) hH ?_
       simp only[sA,sB,sC];refine tkT (i:=2) 50 (.slice (some ⟨ng,no,none⟩) sn sc) rfl (.inl ⟨by kernel_rfl,λw9 _=>by go_simp;first|done|rfl⟩) hH ?_
       simp only[sA,sB,sC];refine tkT (i:=3) 51 (.int .i64 (j:Int)) rfl (.inl ⟨by kernel_rfl,λw9 _=>by go_simp;first|done|rfl⟩) hH ?_
       simp only[sA,sB,sC];refine tkT (i:=4) 52 (.pointer (some ⟨ng,no+j,none⟩)) rfl (.inl ⟨by kernel_rfl,λw9 _=>by go_simp;first|done|rfl⟩) hH ?_
       simp only[sA,sB,sC];refine tkT (i:=5) 53 (.int .i64 x) rfl (yK (by kernel_rfl) 3 _ rfl (ng) (no+j) rfl (.int .i64 x) (HN2.out)) hH ?_
       simp only[sA,sB,sC];refine Qa2 (i:=6) (by kernel_rfl) rfl (λK hK=>?_)
       rw[zG (by rfl)]
       refine Qcu 51 (.tmp 53) rfl (some 54) rfl (.int .i64 x) _ rfl EB.out ?_
       simp only[Act.put,sA,sB,sC];refine hK.out _ _ HF2.out (λhH=>?_)
       clear hK K;refine Qa2 (i:=7) (by kernel_rfl) rfl (λK hK=>?_)
       rw[zG (by rfl)]
       refine Qed (.tmp 49) (.tmp 54) 51 51 51 rfl rfl (some 55) rfl (.slice xad xn xc) (.slice (some ⟨wd.heap.size,0,none⟩) 1 1) (.slice yad yn yc) rfl rfl E3.out ?_
       simp only[Act.put,sA,sB,sC];refine hK.out _ _ F3.out (λhH=>?_)
       clear hK K;refine tkT (i:=8) 56 (.pointer (some ⟨pb,65,none⟩)) rfl (.inl ⟨by kernel_rfl,λw9 _=>by go_simp;first|done|rfl⟩) hH ?_
       simp only[sA,sB,sC];refine Qb4 (by kernel_rfl) rfl (λK hK=>?_)
       rw[zG (by rfl)]
       refine Qbx 51 _ _ rfl rfl pb 65 (p.cells (.slice xad xn xc)) 124 (.slice yad yn yc) rfl rfl P3.out HL65.out rfl (by kernel_rfl) ?_
       refine hK.out _ _ ?_;clear hK K;refine Qb5 (by kernel_rfl) ?_ _
       refine NoPanic.normal ?_;generalize w3.setCell ⟨pb,65,none⟩ (.slice yad yn yc)=wy at K4 P4 I4 |-;go_wp2
       go_roundw
       case rel=>exact⟨j+1,_,by simp,hid HJL.out,K4,P4,I4⟩
       case measure=>have:=HJL.out;simp[RowKit.intOf];omega
      ·have hnj:¬(j:Int)<(sn:Int):=by omega
       have HE:=hid (show j=sn by have:=hj.out;omega)
       clear hjl hj;have hxi:=HXI.out;rw[HE.out,HSN.out,List.take_length] at hxi;have gx:=HX.out.grewB;have m2:=M1.out.aside (b:=pb) (.inr rfl) gx;have kx:=KK1.out.overB HX.out HPW.out;obtain⟨f1,f2,f3,f4⟩:=M1.out.fresh hxi;have hne:∀k,k<sz->some k≠some pb:=λk hk e=>by have:=Option.some.inj e;have:=HPS.out;omega
       have tt2:=(gx.block tb (zF TT1.out) (hne tb HTB.out)).trans TT1.out;have rr2:=(gx.block rb (zF RR1.out) (hne rb HRB.out)).trans RR1.out;have oo2:=(gx.block ob (zF OO1.out) (hne ob HOB.out)).trans OO1.out;have hlb:=run_loadVar_row wr pb 124 124 _ (0,0) _ HXP.out Tryz.underlying124 rfl (parentInfo (Pr.size HOK.out _))
       have m3:=m2.alloc (.cells (p.cells (.slice xad xn xc)).toArray 124)
       have hnb:=Qaa wr (.cells (p.cells (.slice xad xn xc)).toArray 124)
       have kb:=kx.alloc kx.size (.cells (p.cells (.slice xad xn xc)).toArray 124)
       have i3:Ints (wr.alloc (.cells (p.cells (.slice xad xn xc)).toArray 124)) 0 (.slice xad xn xc) p.loose:=Qfi (Ints.alloc hxi _) (Nat.zero_le _)
       have fa:=(Frm.refl (λk=>k<sz) wr).alloc (.cells (p.cells (.slice xad xn xc)).toArray 124)
       have eb:=Qgw wr p HOK.out (.slice xad xn xc);obtain⟨v5,w5,e5,m5,g5⟩:=m3.moreP wr.heap.size 1 p HOK.out _ i3 f4 f1 f2 f3 (Qf4 hnb) (by rw[List.length_take];have:=HPB.out;have:=HPN.out;omega)
       rw[<-HPP.out] at m5;obtain⟨yad,yc,hys⟩:=m5.pts.shape;subst hys;obtain⟨yn,hyn⟩:∃yn,yn=(P.take (i+1)).length:=⟨_,rfl⟩;rw[<-hyn] at e5 m5;have fa5:=fa.trans (Qfk (B:=λk=>k<sz) g5 (λg e b=>m3.op g e (.inl b)))
       have k5:=kb.grown g5 kb.size (λg e=>by have:=m3.op g e;have:=HWS.out;omega)
       have tt5:=(fa5.block tb (zF tt2) HTB.out).trans tt2;have rr5:=(fa5.block rb (zF rr2) HRB.out).trans rr2;have oo5:=(fa5.block ob (zF oo2) HOB.out).trans oo2;have g6:=Qbb w5 ob 1 (.slice yad yn yc);have m6:=(m5.mono (B':=λk=>k<sz) (λk b=>.inl b)).aside (b:=ob) HOB.out g6
       have k6:=k5.grown g6 k5.size (λk e=>by cases e;have:=HWO.out;omega)
       have tt6:=(g6.block tb (zF tt5) (λe=>HTO.out (Option.some.inj e))).trans tt5
       have rr6:=(g6.block rb (zF rr5) (λe=>HRO.out (Option.some.inj e))).trans rr5
       have oo6:(w5.setCell ⟨ob,1,none⟩ (.slice yad yn yc)).heap[ob]?=some (.cells #[.slice vad vn vc,.slice yad yn yc] 45 (0,0)):=Qaj (cs:=[.slice vad vn vc,.slice qad qn qc]) oo5 1 (.slice yad yn yc)
       obtain⟨D2,hD2⟩:∃D2,D2=p.cells (.slice xad xn xc):=⟨_,rfl⟩;rw[<-hD2] at hlb eb e5;rw[<-hD2] at hnb fa kb m3 i3 g5;generalize wr.alloc (.cells D2.toArray 124)=w4 at eb e5
       have OO2:=hid oo2;have t1:=Qab OO2.out;have HLB2:=hid hlb;have EB:=hid eb;have E5:=hid e5;have OO5:=hid oo5;have TT6:=hid tt6;have RR6:=hid rr6;have OO6:=hid oo6;have K6:=hid k6;have M6:=hid m6;clear hxi gx m2 kx f1 f2 f3 f4 hne tt2 rr2 oo2 hlb m3 hnb kb i3 fa eb e5 m5 g5 hyn fa5 k5 tt5 rr5 oo5 g6 m6 k6 tt6 rr6 oo6 hD2 HX HXP HXI
       go_upto_region 16 with fail
       refine zA ?_;iterate 2(refine wW λK hK=>?_;go_simp;apply hK;clear hK K)
       refine wLk 124 (.tmp 6) rfl (pb) (0) rfl (.agg D2.toArray) (HLB2.out) ?_
       simp only[Act.put,sA,sB,sC];refine @Qex _ _ _ _ _ _ _ _ ?_ 43 (.tmp 59) rfl (.agg D2.toArray) _ rfl EB.out ?_;kernel_rfl
       simp only[Act.put,sA,sB,sC];refine Qal rfl (.tmp 58) (.tmp 60) 43 43 43 rfl rfl (.slice qad qn qc) (.slice (some ⟨wr.heap.size,0,none⟩) 1 1) rfl rfl E5.out ?_
       simp only[Act.put,sA,sB,sC];refine wW λK hK=>?_;go_simp;apply hK;clear hK K;refine @Qcd _ _ _ _ _ _ _ ?hw16s 43 _ _ rfl (ob) 1 [.slice vad vn vc,.slice qad qn qc] 45 (.slice yad yn yc) rfl rfl OO5.out (by simp) rfl (by kernel_rfl) ?_
       case hw16s=>kernel_rfl
       simp only[Act.put];generalize w5.setCell ⟨ob,1,none⟩ (.slice yad yn yc)=w6 at TT6 RR6 OO6 K6 M6 |-;clear t1;go_wp2
       go_roundw
       case rel=>exact⟨i+1,_,by simp,hid HLT.out,_,M6,K6,TT6,RR6,OO6⟩
       case measure=>have:=HLT.out;simp[RowKit.intOf];omega
    ·have hnl:¬(i:Int)<(pn:Int):=by omega
     have HE:=hid (show i=pn by have:=hi.out;omega)
     clear hlt hi
     go_upto_region 17 with fail
     refine zA ?_;refine wLk 45 (.tmp 3) rfl (ob) (0) rfl (.agg #[.slice vad vn vc,.slice qad qn qc]) (run_loadVar_row wr ob 45 45 _ (0,0) _ HO.out Tryz.underlying45 rfl treeInfo) ?_
     simp only[Act.put,sA,sB,sC];refine wpList_store_row rfl 45 _ _ rfl (rb) #[.slice vad vn vc,.slice qad qn qc] rfl rfl 45 #[.slice none 0 0,.slice none 0 0] HR.out treeInfo rfl (Qef _ _ _ _ _ _) ?_
     simp only[Act.put];have R7:=setRow_heap wr rb _ #[.slice vad vn vc,.slice qad qn qc] _ _ HR.out;have g7:=Qa6 wr rb #[.slice vad vn vc,.slice qad qn qc];have M7:=hid (HM.out.aside (b:=rb) HRB.out g7);have K7:=hid (HK.out.grown g7 HK.out.size (λk e=>by cases e;exact Nat.le_of_not_lt HWR.out))
     generalize wr.setRow rb #[.slice vad vn vc,.slice qad qn qc]=w7 at R7 g7 M7 K7 |-;go_wp2;refine bodyPost_ret (results_cell_row rfl _ _ rb 45 _ (0,0) _ rfl R7 Tryz.underlying45 rfl treeInfo) rfl ?_
     refine⟨_,_,rfl,K7.out,SL,?_⟩;have hm:=M7.out;rw[HE.out,HPN.out,List.take_length] at hm;exact hm.mono (λk b=>zC b HWS.out)
theorem Qm3 (n:Nat)(R:List (List Value))(hR:∀r∈R,r.length=n)(i:Nat)(hi:i<R.length)(o:Nat)(vs:List Value)(ho:o+vs.length<=n):putList R.flatten (i*n+o) vs=(R.set i (putList R[i] o vs)).flatten:=by
 have hri:R[i].length=n:=hR _ (List.getElem_mem hi)
 have hR2:∀x∈R.set i (putList R[i] o vs),x.length=n:=λx hx=>by
  rcases List.mem_or_eq_of_mem_set hx with h|h
  ·exact hR x h
  ·rw[h,Qdz];exact hri
 have hfl:=flat_len n R hR;have hin:(i+1)*n<=R.length*n:=Nat.mul_le_mul_right n hi;rw[Nat.succ_mul] at hin;apply List.ext_getElem?;intro j;rw[Qd5 vs R.flatten (i*n+o) j (by rw[hfl];omega)]
 by_cases hj:j<R.length*n
 ·have hn:0<n:=by
   rcases Nat.eq_zero_or_pos n with h|h
   ·rw[h,Nat.mul_zero] at hj;exact absurd hj (Nat.not_lt_zero _)
   ·exact h
  have hq:j/n<R.length:=(Nat.div_lt_iff_lt_mul hn).2 hj;have hm:j%n<n:=Nat.mod_lt _ hn;have hdm:j/n*n+j%n=j:=by rw[Nat.mul_comm];exact Nat.div_add_mod j n
  have e1:=Qep n R hR (j/n) hq (j%n) hm;have e2:=Qep n _ hR2 (j/n) (by rw[List.length_set];exact hq) (j%n) hm
  rw[hdm] at e1 e2;rw[e2,List.getElem_set]
  by_cases h:i=j/n
  ·have h3:i*n+j%n=j:=by rw[h];exact hdm
   rw[zG h,Qd5 vs R[i] o (j%n) (by rw[hri];exact ho)]
   by_cases h4:o<=j%n/\j%n<o+vs.length
   ·rw[zG (by omega),zG h4,show j-(i*n+o)=j%n-o by omega]
   ·rw[if_neg (by omega),if_neg h4,e1]
    simp only[h]
  ·rw[if_neg h,if_neg,e1]
   intro h4;apply h;have h5:j<(i+1)*n:=by rw[Nat.succ_mul];omega
   have h6:=(Nat.div_lt_iff_lt_mul hn).2 h5;have h7:=(Nat.le_div_iff_mul_le hn).2 (show i*n<=j by omega)
   omega
 ·rw[if_neg (by omega),List.getElem?_eq_none (by rw[hfl];omega),List.getElem?_eq_none (by rw[flat_len n _ hR2,List.length_set];omega)]
section
variable {base:Nat} {T:TypeId} {n g cap:Nat}
theorem OwnC.part {w:World}{R:List (List Value)}(h:OwnC w base T n (.slice (some ⟨g,0,none⟩) R.length cap) R)(i:Nat)(hi:i<R.length)(o:Nat)(vs:List Value)(ho:o+vs.length<=n)(h1:∀y∈vs,y.oneCell'=true):
  OwnC (w.setCells g (i*n+o) vs) base T n (.slice (some ⟨g,0,none⟩) R.length cap) (R.set i (putList R[i] o vs))/\w.grownBy (w.setCells g (i*n+o) vs) (some g)/\w.there g (i*n+o) vs.length:=by
 obtain⟨a,b⟩:=Qel vs (i*n+o) w R.flatten h.2;rw[Qm3 n R h.len i hi o vs ho] at a;refine⟨⟨λx hx=>?_,by rw[List.length_set];exact a⟩,b,λj hj=>?_⟩
 ·rcases List.mem_or_eq_of_mem_set hx with hx|hx
  ·exact h.1 x hx
  ·rw[hx,Qdz]
   refine⟨h.len _ (List.getElem_mem hi),λy hy=>?_⟩
   obtain⟨j,hj,rfl⟩:=List.getElem_of_mem hy;have hz:=Qd5 vs R[i] o j (by rw[h.len _ (List.getElem_mem hi)];exact ho)
   rw[List.getElem?_eq_getElem hj] at hz
   split at hz
   ·exact h1 _ (List.mem_of_getElem? hz.symm)
   ·exact(h.1 _ (List.getElem_mem hi)).2 _ (List.mem_of_getElem? hz.symm)
 ·have:=OwnC.there h i hi (o+j) (by omega)
  rwa[<-Nat.add_assoc] at this
end
section
variable {B:Nat->Prop} {w:World} {lv pv:Value} {L:List Lf} {P:List Pr} {SL:List Value}
end
namespace Tt
def renewed (l:Lf)(pub:List UInt8):Lf:={ l with pub:=pub,abv:=z32 }
end Tt
end Go.Proofs.YtnlbgggnpoeleaaGreatDoor
