/-
 ChatTree; ChatGrpMem; ChatGroup; ChatSay; ChatAwake: several texts in one.
-/
import Derived.Test.YtnlbgggnpoeleaaGreatDoorKD
import Derived.Test.YtnlbgggnpoeleaaGreatDoorED
import Derived.Test.YtnlbgggnpoeleaaGreatDoorCD
set_option maxRecDepth 100000
set_option maxHeartbeats 12800000
namespace Go.Proofs.YtnlbgggnpoeleaaGreatDoor
open Go.RowKit Go.Lib
open List renaming setIfInBounds_toArray -> sA, set_cons_zero -> sB, set_cons_succ -> sC
open BigFrame renaming wpList_want -> wQ
namespace Cn
def lf (n:Int):Lf:=⟨n,Tt.z32,Tt.z32,Tt.z32⟩
def gL:List Lf:=[lf 1,Lf.zero,lf 2,lf 3]
def gP:List Pr:=[Pr.zero,Pr.zero,Pr.zero]
end Cn
theorem Qhc (n:Int):(Cn.lf n).Ok:=⟨rfl,rfl,rfl⟩
theorem Qhj (w:World)(n:Int):(Instr.build 122 #[(0,.int .i64 n)]).run Tryz.prog w=.ok (.agg (Cn.lf n).cells.toArray) w:=by kernel_rfl
theorem Qn3 (w:World):(Instr.build 122 #[]).run Tryz.prog w=.ok (.agg Lf.zero.cells.toArray) w:=by kernel_rfl
theorem Qkj (w:World):(Instr.build 124 #[]).run Tryz.prog w=.ok (.agg (Pr.zero.cells (.slice none 0 0)).toArray) w:=by kernel_rfl
theorem Qkk (w:World)(a b c d:Lf)(ha:a.Ok)(hb:b.Ok)(hc:c.Ok)(hd:d.Ok):(Instr.buildSlice 42 4 #[(0,.agg a.cells.toArray),(1,.agg b.cells.toArray),(2,.agg c.cells.toArray),(3,.agg d.cells.toArray)]).run Tryz.prog w=.ok (.slice (some ⟨w.heap.size,0,none⟩) 4 4) (w.alloc (.cells (a.cells++(b.cells++(c.cells++d.cells))).toArray 122)):=by
 obtain⟨i,z,hi,hz,hzs,hs,hby⟩:=Qdp leafFullAll;have:=Qj9 (P:=Tryz.prog) w _ _ i z Tryz.underlying42 hi hz a.cells.toArray b.cells.toArray c.cells.toArray d.cells.toArray (by rw[Lf.size ha,hs]) (by rw[Lf.size hb,hs]) (by rw[Lf.size hc,hs]) (by rw[Lf.size hd,hs]) (by omega) (by omega)
 simp only[List.append_assoc] at this;exact this
theorem Qjx (w:World)(a b c:Pr)(ha:a.Ok)(hb:b.Ok)(hc:c.Ok)(s:Value):(Instr.buildSlice 43 3 #[(0,.agg (a.cells s).toArray),(1,.agg (b.cells s).toArray),(2,.agg (c.cells s).toArray)]).run Tryz.prog w=.ok (.slice (some ⟨w.heap.size,0,none⟩) 3 3) (w.alloc (.cells (a.cells s++(b.cells s++c.cells s)).toArray 124)):=by
 obtain⟨i,z,hi,hz,hzs,hs,hby⟩:=Qdp parentFullAll;have:=Qit (P:=Tryz.prog) w _ _ i z Tryz.underlying43 hi hz (a.cells s).toArray (b.cells s).toArray (c.cells s).toArray (by rw[Pr.size ha,hs]) (by rw[Pr.size hb,hs]) (by rw[Pr.size hc,hs]) (by omega) (by omega)
 simp only[List.append_assoc] at this;exact this
theorem Qya {w:World}{g:Nat}(a b c d:Lf)(ha:a.Ok)(hb:b.Ok)(hc:c.Ok)(hd:d.Ok)(h:w.heap[g]?=some (.cells (a.cells++(b.cells++(c.cells++d.cells))).toArray 122 (0,0))):Lvs w (.slice (some ⟨g,0,none⟩) 4 4) [a,b,c,d]:=by
 have hr:=Qam h;have la:=Lf.cells_length ha;have lb:=Lf.cells_length hb;have lc:=Lf.cells_length hc;refine⟨some ⟨g,0,none⟩,g,0,4,rfl,λi hi=>?_,zB _⟩
 have hi4:i<4:=hi;have:i=0\/i=1\/i=2\/i=3:=by omega
 rcases this with rfl|rfl|rfl|rfl
 ·exact⟨rfl,zF h,ha,Qaz hr [] _ _ rfl _ (by simp)⟩
 ·exact⟨rfl,zF h,hb,Qaz hr a.cells _ (c.cells++d.cells) rfl _ (by rw[la])⟩
 ·exact⟨rfl,zF h,hc,Qaz hr (a.cells++b.cells) _ d.cells (by simp) _ (by rw[zE,la,lb])⟩
 ·exact⟨rfl,zF h,hd,Qaz hr (a.cells++(b.cells++c.cells)) _ [] (by simp) _ (by rw[zE,zE,la,lb,lc])⟩
theorem Qx4 {w:World}{g:Nat}(a b c:Pr)(ha:a.Ok)(hb:b.Ok)(hc:c.Ok)(na:a.loose=[])(nb:b.loose=[])(nc:c.loose=[])(h:w.heap[g]?=some (.cells (a.cells (.slice none 0 0)++(b.cells (.slice none 0 0)++c.cells (.slice none 0 0))).toArray 124 (0,0))):Pts w (.slice (some ⟨g,0,none⟩) 3 3) [a,b,c]:=by
 have hr:=Qam h;have la:=Pr.cells_length ha (.slice none 0 0);have lb:=Pr.cells_length hb (.slice none 0 0);have hz:Nums w (.slice none 0 0) []:=⟨none,0,0,0,rfl,λi hi=>absurd hi (Nat.not_lt_zero _)⟩
 refine⟨some ⟨g,0,none⟩,g,0,3,rfl,λi hi=>?_,zB _⟩
 have hi4:i<3:=hi;have:i=0\/i=1\/i=2:=by omega
 rcases this with rfl|rfl|rfl
 ·exact⟨rfl,zF h,ha,.slice none 0 0,Qaz hr [] _ _ rfl _ (by simp),by rw[show [a,b,c][0]=a from rfl,na];exact hz⟩
 ·exact⟨rfl,zF h,hb,.slice none 0 0,Qaz hr (a.cells (.slice none 0 0)) _ (c.cells (.slice none 0 0)) rfl _ (by rw[la]),by rw[show [a,b,c][1]=b from rfl,nb];exact hz⟩
 ·exact⟨rfl,zF h,hc,.slice none 0 0,Qaz hr (a.cells (.slice none 0 0)++b.cells (.slice none 0 0)) _ [] (by simp) _ (by rw[zE,la,lb]),by rw[show [a,b,c][2]=c from rfl,nc];exact hz⟩
theorem Qft (w:World)(b:Nat)(cs:Array Value)(g:Nat){o:Obj}(hg:w.heap[g]?=some o)(h:g≠b):(w.setRow b cs).heap[g]?=some o:=((Qa6 w b cs).block g (zF hg) (λe=>h (Option.some.inj e))).trans hg
section
variable {P:Program} {ops:Array Oper} {rest:List Oper} {o:Oper} {a:Act} {w w':World} {Q:Exit->Act->World->Prop}
theorem Qcl (hw:Region.wanted o (yielded ops a.tmps)=true)(t:TypeId)(x:Operand)(ho:o.op=.build t #[(0,x)])(u r:Value)(hx:a.eval x=u)(hr:(Instr.build t #[(0,u)]).run P w=.ok r w)(hk:wpList P ops Q rest (a.put o.dst r) w):wpList P ops Q (o::rest) a w:=by
 refine wpList_step λK hK=>?_
 rw[zG hw];unfold Oper.wp execOp;simp only[ho,List.map_toArray,List.map_cons,List.map_nil,hx,Sem.run_bind,hr,Result.andThen_ok,Sem.run_pure];exact hK _ _ hk
end
def TrIs (w:World)(a b:Nat):Prop:=w.heap[a]?=some (.cells ((Cn.lf 1).cells++(Lf.zero.cells++((Cn.lf 2).cells++(Cn.lf 3).cells))).toArray 122 (0,0))/\w.heap[b]?=some (.cells (Pr.zero.cells (.slice none 0 0)++(Pr.zero.cells (.slice none 0 0)++Pr.zero.cells (.slice none 0 0))).toArray 124 (0,0))
theorem TrIs.lvs {w:World}{a b:Nat}(h:TrIs w a b):Lvs w (.slice (some ⟨a,0,none⟩) 4 4) Cn.gL:=Qya _ _ _ _ (Qhc _) Lf.zero_ok (Qhc _) (Qhc _) h.1
theorem TrIs.pts {w:World}{a b:Nat}(h:TrIs w a b):Pts w (.slice (some ⟨b,0,none⟩) 3 3) Cn.gP:=Qx4 _ _ _ Pr.zero_ok Pr.zero_ok Pr.zero_ok rfl rfl rfl h.2
theorem TrIs.kept {w x:World}{a b:Nat}(h:TrIs w a b)(k:Kept w.heap.size w.heap.size w x):TrIs x a b:=⟨rK h.1 k,rK h.2 k⟩
theorem TrIs.other {w x:World}{a b g:Nat}(h:TrIs w a b)(ha:a≠g)(hb:b≠g)(k:∀i,i≠g->x.heap[i]?=w.heap[i]?):TrIs x a b:=⟨(k a ha).trans h.1,(k b hb).trans h.2⟩
theorem Qlx (k:Nat)(hk:k=0\/k=1\/k=2):Tt.place Cn.gL Cn.gP ((k:Int)+1)=((if k=0 then 0 else k+1:Nat):Int):=by
 rcases hk with rfl|rfl|rfl <;> decide
theorem Qmn (w:World):Calls Tryz.prog 37 #[] w λe w'=>∃a b:Nat,e=.returned (.agg #[.slice (some ⟨a,0,none⟩) 4 4,.slice (some ⟨b,0,none⟩) 3 3])/\Kept w.heap.size w.heap.size w w'/\w.heap.size<a/\w.heap.size<b/\TrIs w' a b:=by
 have hb4:=λ(x:World)=>Qkk x (Cn.lf 1) Lf.zero (Cn.lf 2) (Cn.lf 3) (Qhc _) Lf.zero_ok (Qhc _) (Qhc _)
 have hb3:=λ(x:World)=>Qjx x Pr.zero Pr.zero Pr.zero Pr.zero_ok Pr.zero_ok Pr.zero_ok (.slice none 0 0)
 have hb1:=λ(x:World)=>Qhj x 1
 have hb2:=λ(x:World)=>Qhj x 2
 have hb5:=λ(x:World)=>Qhj x 3
 have hz1:=λ(x:World)=>Qn3 x
 have hz2:=λ(x:World)=>Qkj x
 obtain⟨LC,hLC⟩:∃x,x=((Cn.lf 1).cells++(Lf.zero.cells++((Cn.lf 2).cells++(Cn.lf 3).cells))).toArray:=⟨_,rfl⟩;obtain⟨PC,hPC⟩:∃x,x=(Pr.zero.cells (.slice none 0 0)++(Pr.zero.cells (.slice none 0 0)++Pr.zero.cells (.slice none 0 0))).toArray:=⟨_,rfl⟩;have HLC:=hid hLC;have HPC:=hid hPC;simp only[<-hLC] at hb4;simp only[<-hPC] at hb3;obtain⟨D1,h1⟩:∃x,x=(Cn.lf 1).cells.toArray:=⟨_,rfl⟩;obtain⟨D2,h2⟩:∃x,x=(Cn.lf 2).cells.toArray:=⟨_,rfl⟩;obtain⟨D3,h3⟩:∃x,x=(Cn.lf 3).cells.toArray:=⟨_,rfl⟩;obtain⟨D0,h0⟩:∃x,x=Lf.zero.cells.toArray:=⟨_,rfl⟩;obtain⟨E0,he⟩:∃x,x=(Pr.zero.cells (.slice none 0 0)).toArray:=⟨_,rfl⟩;rw[<-h1,<-h0,<-h2,<-h3] at hb4;rw[<-he] at hb3 hz2;rw[<-h1] at hb1;rw[<-h2] at hb2;rw[<-h3] at hb5;rw[<-h0] at hz1;have HB4:=hid hb4;have HB3P:=hid hb3;have HB1:=hid hb1;have HB2:=hid hb2;have HB3:=hid hb5;have HZ1:=hid hz1;have HZ2:=hid hz2;clear hb4 hb3 hb1 hb2 hb5 hz1 hz2 hLC hPC h1 h2 h3 h0 he;have k1:=kA w (.cells #[.slice none 0 0,.slice none 0 0] 45)
 have t1:=Qaa w (.cells #[.slice none 0 0,.slice none 0 0] 45)
 go_enter Tryz.func37,Tryz.ntmps37
 go_upto_region 1 with fail
 generalize w.alloc (.cells #[.slice none 0 0,.slice none 0 0] 45)=w1 at k1 t1 |-
 obtain⟨rb,hrb⟩:∃x,x=w.heap.size:=⟨_,rfl⟩;rw[<-hrb] at t1
 (try rw[<-hrb])
 have HRB:=hid (show w.heap.size<=rb by omega)
 have HR1:=hid (zF t1);have RT:=hid t1;have K1:=hid k1;clear k1 t1 hrb;refine zA ?_;refine @Qcl _ _ _ _ _ _ _ ?_ 122 _ rfl (.int .i64 1) (.agg D1) rfl (HB1.out _) ?_;kernel_rfl
 simp only[Act.put,sA,sB,sC];refine @Qap _ _ _ _ _ _ _ ?_ 122 rfl _ (HZ1.out _) ?_;kernel_rfl
 simp only[Act.put,sA,sB,sC];refine @Qcl _ _ _ _ _ _ _ ?_ 122 _ rfl (.int .i64 2) (.agg D2) rfl (HB2.out _) ?_;kernel_rfl
 simp only[Act.put,sA,sB,sC];refine @Qcl _ _ _ _ _ _ _ ?_ 122 _ rfl (.int .i64 3) (.agg D3) rfl (HB3.out _) ?_;kernel_rfl
 simp only[Act.put,sA,sB,sC];refine @Qkn _ _ _ _ _ _ _ _ ?_ 42 4 _ rfl #[(0,.agg D1),(1,.agg D0),(2,.agg D2),(3,.agg D3)] (by simp only[List.map_toArray,List.map_cons,List.map_nil];rfl) _ (HB4.out _) ?_;kernel_rfl
 simp only[Act.put,sA,sB,sC];have k9:Kept w1.heap.size w1.heap.size w1 (w1.alloc (.cells LC 122)):=zI.alloc (zB _) _
 have r9:=Qaa w1 (.cells LC 122)
 generalize w1.alloc (.cells LC 122)=w2 at k9 r9 |-
 obtain⟨gl,hb9⟩:∃x,x=w1.heap.size:=⟨_,rfl⟩;rw[<-hb9] at r9
 (try rw[<-hb9])
 have K12:=hid k9;have K2:=hid (K1.out.onto k9);have RL:=hid r9;have HGL:=hid (show rb<gl by have:=HR1.out;omega)
 clear k9 r9 hb9;refine @Qap _ _ _ _ _ _ _ ?_ 124 rfl _ (HZ2.out _) ?_;kernel_rfl
 simp only[Act.put,sA,sB,sC];refine @Qap _ _ _ _ _ _ _ ?_ 124 rfl _ (HZ2.out _) ?_;kernel_rfl
 simp only[Act.put,sA,sB,sC];refine @Qap _ _ _ _ _ _ _ ?_ 124 rfl _ (HZ2.out _) ?_;kernel_rfl
 simp only[Act.put,sA,sB,sC];refine @Qkn _ _ _ _ _ _ _ _ ?_ 43 3 _ rfl #[(0,.agg E0),(1,.agg E0),(2,.agg E0)] (by simp only[List.map_toArray,List.map_cons,List.map_nil];rfl) _ (HB3P.out _) ?_;kernel_rfl
 simp only[Act.put,sA,sB,sC];have k9:Kept w2.heap.size w2.heap.size w2 (w2.alloc (.cells PC 124)):=zI.alloc (zB _) _
 have r9:=Qaa w2 (.cells PC 124)
 generalize w2.alloc (.cells PC 124)=w3 at k9 r9 |-
 obtain⟨gp,hb9⟩:∃x,x=w2.heap.size:=⟨_,rfl⟩;rw[<-hb9] at r9
 (try rw[<-hb9])
 have K3:=hid (K2.out.onto k9);have RP:=hid r9;have RT3:=hid (rK (rK RT.out (K12.out)) k9);have RL3:=hid (rK RL.out k9);have HGP:=hid (show rb<gp by have:=zC HR1.out K12.out.size;omega)
 clear k9 r9 hb9;refine wW λK hK=>?_;go_simp;apply hK;clear hK K;refine wpList_store_row rfl 45 _ _ rfl (rb) #[.slice (some ⟨gl,0,none⟩) 4 4,.slice (some ⟨gp,0,none⟩) 3 3] rfl rfl 45 #[.slice none 0 0,.slice none 0 0] RT3.out treeInfo rfl (Qef _ _ _ _ _ _) ?_
 simp only[Act.put];have R9:=setRow_heap w3 rb _ #[.slice (some ⟨gl,0,none⟩) 4 4,.slice (some ⟨gp,0,none⟩) 3 3] _ _ RT3.out;have K9:=hid (Qak K3.out rb HRB.out #[.slice (some ⟨gl,0,none⟩) 4 4,.slice (some ⟨gp,0,none⟩) 3 3]);have RL9:=hid (Qft w3 rb #[.slice (some ⟨gl,0,none⟩) 4 4,.slice (some ⟨gp,0,none⟩) 3 3] gl RL3.out (λe=>by have:=HGL.out;omega))
 have RP9:=hid (Qft w3 rb #[.slice (some ⟨gl,0,none⟩) 4 4,.slice (some ⟨gp,0,none⟩) 3 3] gp RP.out (λe=>by have:=HGP.out;omega))
 generalize w3.setRow rb #[.slice (some ⟨gl,0,none⟩) 4 4,.slice (some ⟨gp,0,none⟩) 3 3]=w4 at R9 K9 RL9 RP9 |-;go_wp2;refine bodyPost_ret (results_cell_row rfl _ _ rb 45 _ (0,0) _ rfl R9 Tryz.underlying45 rfl treeInfo) rfl ?_
 exact⟨gl,gp,rfl,K9.out,Nat.lt_of_le_of_lt HRB.out HGL.out,Nat.lt_of_le_of_lt HRB.out HGP.out,by rw[<-HLC.out];exact RL9.out,by rw[<-HPC.out];exact RP9.out⟩
section
variable {w w' w2:World} {base eb hi:Nat} {X:Nat->Prop} {y:Lay} {f:Fm} {L:List Lf} {P:List Pr} {me forks sent:Int} {ex:List UInt8} {S0:List Sd} {S:Nat->List Sd}
theorem EraSt.all (h:EraSt w base eb hi (λk=>k<w.heap.size) y f L P me forks sent ex S0 S)(hz:w.heap.size<=w'.heap.size)(hf:∀k,k<w.heap.size->base<=k->k<=eb->w'.heap[k]?=w.heap[k]?):
  EraSt w' base eb (w'.heap.size-1) (λk=>k<w'.heap.size) y f L P me forks sent ex S0 S:=by
 obtain⟨o1,o2,o3,o4,o5,o6⟩:=h.ord;have h2:=h.far hz (λk hk hb hq=>hf k hk hb (by rcases hq with hq|⟨_,hq⟩ <;> omega))
 exact
  { h2 with
    ord:=⟨o1,o2,o3,o4,by omega,by omega⟩
    xb:=λk hk=>hk
    iloc:=λk e hne=>by
     have hlt:=h.init.own_lt hne k e
     rcases h.iloc k e hne with h1|h1
     ·exact .inl h1
     ·exact absurd hlt h1.2
    row:=λj rb hj=>by
     obtain⟨q1,q2,sl,q3,q4⟩:=h.row j rb hj;refine⟨q1,q2,sl,q3.frm14 hz (hf _ (zF q3.1) (by omega) (by omega)) (λk e hne hk=>?_),λk e hne=>?_⟩
     ·rcases q4 k e hne with h1|h1
      ·exact hf k hk h1.1 (by omega)
      ·exact absurd hk h1.2
     ·have hlt:=q3.own_lt hne k e
      rcases q4 k e hne with h1|h1
      ·exact .inl h1
      ·exact absurd hlt h1.2 }
theorem EraNew.st2 {j cc:List UInt8}(h:EraNew w w' eb f L P me j cc)(k:Kept w'.heap.size w'.heap.size w' w2):
  ∃y,EraSt w2 w.heap.size eb (w2.heap.size-1) (λi=>i<w2.heap.size) y f L P me 0 0 (Ky.key j cc 6) [⟨0,0,Ky.key j cc 3⟩] (λi=>[⟨0,0,Ky.app (Ky.key j cc 5) i⟩]):=by
 have hlt:eb<w2.heap.size:=by
  obtain⟨lo,lv,pv,ib,sl,g,R,hc,_⟩:=h;exact zC (zF hc) k.size
 obtain⟨lo,lv,pv,ib,sl,g,R,hc,hk,⟨o1,o2,o3,o4⟩,⟨SL,hm⟩,hri,hli,hap,hrb⟩:=h;have hap2:=hap.kept k;have m2:=hm.later14 k;refine⟨⟨lo,lv,pv,ib,sl,g,R⟩,?_⟩
 exact
  { cells:=rK hc k
    ord:=⟨o1,o2,o3,o4,by omega,by omega⟩
    tree:=⟨SL,m2.frm14 (λ_ _ _=>rfl) (λi hk2 b=>by
     have b2:i<w.heap.size\/(lo<=i/\i<w2.heap.size):=b
     omega) (λi b=>by
     have b2:i<w.heap.size\/(lo<=i/\i<w2.heap.size):=b;have:=k.size;have:=hk.size
     omega)⟩
    init:=hri.kept k
    iloc:=λq e _=>.inl (by have:=hli q e;omega)
    xb:=λ_ hx=>hx
    own:=hap2.own
    len:=hap2.len
    blank:=λi hi2=>hap2.blank i hi2 hi2
    row:=λi rb hir=>by
     obtain⟨q1,s2,q2,q3⟩:=hap2.row i rb hir;exact⟨q1,hrb i rb hir,s2,q2,λq e _=>.inl (by have:=q3 q e;have:=hrb i rb hir;omega)⟩
    apart:=hap2.apart }
end
def RefSt (w:World)(c t:Nat)(RC:List Value)(f:Fm)(L:List Lf)(P:List Pr)(me:Int)(j cc:List UInt8):Prop:=
 ∃(lv pv av:Value),RC=recells (f.cells lv pv) me (.slice none 0 0) (Ky.key j cc 3) 32 (.slice none 0 0) 0 av 0 (Ky.key j cc 6) (Ky.key j cc 2) /\
  (∃SL,Mine (λi=>i<c\/(t<=i/\i<w.heap.size)) w lv pv L P SL)/\OwnC w c 53 34 av (rapps (Ky.key j cc 5) L.length)/\(∀g,av.ownBlock=some g->g<t)/\t<=w.heap.size
theorem RefNew.st {w w':World}{RC:Array Value}{f:Fm}{L:List Lf}{P:List Pr}{me:Int}{j cc:List UInt8}(h:RefNew w w' RC f L P me j cc):RefSt w' w.heap.size w'.heap.size RC.toList f L P me j cc:=by
 obtain⟨lv,pv,av,rfl,k,⟨SL,m⟩,o⟩:=h;refine⟨lv,pv,av,rfl,⟨SL,m.frm14 (λ_ _ _=>rfl) (λi _ b=>b.elim id (λq=>by omega)) (λi b=>b.elim (λq=>zC q k.size) (λq=>q.2))⟩,o,λg e=>(o.2.lt g e).2,zB _⟩
theorem RefSt.far {w w':World}{c t:Nat}{RC:List Value}{f:Fm}{L:List Lf}{P:List Pr}{me:Int}{j cc:List UInt8}(h:RefSt w c t RC f L P me j cc)(hz:w.heap.size<=w'.heap.size)(hct:c<=t)(hf:∀k,k<w.heap.size->c<=k->k<t->w'.heap[k]?=w.heap[k]?):RefSt w' c t RC f L P me j cc:=by
 obtain⟨lv,pv,av,e,⟨SL,m⟩,o,ot,ht⟩:=h;exact⟨lv,pv,av,e,⟨SL,m.frm14 (λk hk hb=>hf k hk (by omega) (by omega)) (λk hk b=>by omega) (λk b=>by omega)⟩,o.frm14 (λk e hk=>hf k hk (o.2.lt k e).1 (ot k e)),ot,Nat.le_trans ht hz⟩
def gcells (p:Nat->Value)(R:Nat->List Value):List Value:=[p 0,p 1,p 2,p 3]++(R 0++(R 1++(R 2++R 3)))
def gput {α:Type}(g:Nat->α)(k:Nat)(v:α):Nat->α:=λi=>if i=k then v else g i
theorem Qgs {p:Nat->Value}{R:Nat->List Value}(h:∀i,(R i).length=266):(gcells p R).length=1068:=by
 simp[gcells,h]
theorem Qsw {p:Nat->Value}{R:Nat->List Value}(k:Nat)(hk:k<4)(v:Value):(gcells p R).set k v=gcells (gput p k v) R:=by
 have:k=0\/k=1\/k=2\/k=3:=by omega
 rcases this with rfl|rfl|rfl|rfl <;> rfl
theorem Qsx {w:World}{gb:Nat}{t:TypeId}{p:Nat->Value}{R:Nat->List Value}(h266:∀i,(R i).length=266)(h:w.heap[gb]?=some (.cells (gcells p R).toArray t (0,0)))(k:Nat)(hk:k<4)(RC:List Value)(hl:RC.length=266):
  (w.setCells gb (4+266*k) RC).heap[gb]?=some (.cells (gcells p (gput R k RC)).toArray t (0,0)):=by
 have:k=0\/k=1\/k=2\/k=3:=by omega
 rcases this with rfl|rfl|rfl|rfl
 ·have:=Qb2 RC [p 0,p 1,p 2,p 3] (R 0) (R 1++(R 2++R 3)) w (by rw[hl,h266]) h
  exact this
 ·have:=Qb2 RC ([p 0,p 1,p 2,p 3]++R 0) (R 1) (R 2++R 3) w (by rw[hl,h266]) (by simpa [gcells] using h)
  rw[zE,h266] at this
  simpa [gcells,gput] using this
 ·have:=Qb2 RC ([p 0,p 1,p 2,p 3]++(R 0++R 1)) (R 2) (R 3) w (by rw[hl,h266]) (by simpa [gcells] using h)
  rw[zE,zE,h266,h266] at this
  simpa [gcells,gput] using this
 ·have:=Qb2 RC ([p 0,p 1,p 2,p 3]++(R 0++(R 1++R 2))) (R 3) [] w (by rw[hl,h266]) (by simpa [gcells] using h)
  rw[zE,zE,zE,h266,h266,h266] at this
  simpa [gcells,gput] using this
structure Gs (w0 w:World) (gb:Nat) (f:Fm) (j:List UInt8) (n:Nat) (bs es cs ts:Nat->Nat) (p:Nat->Value) (R:Nat->List Value):Prop where
 kept:Kept w0.heap.size w0.heap.size w0 w
 low:w0.heap.size<=gb
 cells:w.heap[gb]?=some (.cells (gcells p R).toArray 59 (0,0))
 len:∀i,(R i).length=266
 ptr:∀k,1<=k->k<=n->p k=.pointer (some ⟨es k,0,none⟩)
 era:∀k,1<=k->k<=n->∃y,EraSt w (bs k) (es k) (w.heap.size-1) (λi=>i<w.heap.size) y f Cn.gL Cn.gP k 0 0 (Ky.key j [] 6) [⟨0,0,Ky.key j [] 3⟩] (λi=>[⟨0,0,Ky.app (Ky.key j [] 5) i⟩])
 doc:∀k,1<=k->k<=n->RefSt w (cs k) (ts k) (R k) f Cn.gL Cn.gP k j []
 ord:∀k,1<=k->k<=n->gb<bs k/\es k<cs k/\cs k<=ts k/\ts k<=w.heap.size
 next:∀k,1<=k->k+1<=n->ts k<=bs (k+1)
section
variable {w0 w w':World} {gb:Nat} {f:Fm} {j:List UInt8} {n:Nat} {bs es cs ts:Nat->Nat} {p:Nat->Value} {R:Nat->List Value}
theorem Gs.far (h:Gs w0 w gb f j n bs es cs ts p R)(k:Kept w0.heap.size w0.heap.size w0 w'){p':Nat->Value}{R':Nat->List Value}(hz:w.heap.size<=w'.heap.size)(hf:∀i,i<w.heap.size->i≠gb->w'.heap[i]?=w.heap[i]?)
  (hc:w'.heap[gb]?=some (.cells (gcells p' R').toArray 59 (0,0))) (hl:∀i,(R' i).length=266) (hp:∀i,i<=n->p' i=p i) (hR:∀i,i<=n->R' i=R i):Gs w0 w' gb f j n bs es cs ts p' R':=
 { kept:=k
   low:=h.low
   cells:=hc
   len:=hl
   ptr:=λi h1 h2=>(hp i h2).trans (h.ptr i h1 h2)
   era:=λi h1 h2=>by
    obtain⟨y,e⟩:=h.era i h1 h2;obtain⟨o1,_⟩:=h.ord i h1 h2;exact⟨y,e.all hz (λq hq h3 _=>hf q hq (by omega))⟩
   doc:=λi h1 h2=>by
    obtain⟨o1,o2,o3,o4⟩:=h.ord i h1 h2;obtain⟨y,e⟩:=h.era i h1 h2;obtain⟨e1,e2,e3,e4,_⟩:=e.ord;rw[hR i h2];exact(h.doc i h1 h2).far hz o3 (λq hq h3 _=>hf q hq (by omega))
   ord:=λi h1 h2=>by
    obtain⟨o1,o2,o3,o4⟩:=h.ord i h1 h2;exact⟨o1,o2,o3,Nat.le_trans o4 hz⟩
   next:=h.next }
theorem Gs.keep (h:Gs w0 w gb f j n bs es cs ts p R)(k:Kept w.heap.size w.heap.size w w'):Gs w0 w' gb f j n bs es cs ts p R:=
 h.far (h.kept.onto k) k.size (λi hi _=>k.block i hi (zD hi)) (rK h.cells k) h.len (λ_ _=>rfl) (λ_ _=>rfl)
end
theorem Qez (b:Nat):∀(vs:List Value) (o:Nat) (x:World),x.heap.size<=(x.setCells b o vs).heap.size
 | [],_,_=>zB _
 | v::r,o,x=>Nat.le_trans (Qbb x b o v).size (Qez b r (o+1) _)
theorem Gs.grow {w0 wr x1 x2 y1 y2 z z1:World}{gb eb:Nat}{f:Fm}{j:List UInt8}{k:Nat}{bs es cs ts:Nat->Nat}{p:Nat->Value}{R:Nat->List Value}{RC:Array Value}(h:Gs w0 wr gb f j k bs es cs ts p R)(hk:k<3)
  (k1:Kept wr.heap.size wr.heap.size wr x1) (h1:EraNew x1 x2 eb f Cn.gL Cn.gP ((k:Int)+1) j []) (k2:Kept x2.heap.size x2.heap.size x2 y1) (h2:RefNew y1 y2 RC f Cn.gL Cn.gP ((k:Int)+1) j []) (kz:Kept x2.heap.size x2.heap.size x2 z) (hz:y2.heap.size<=z.heap.size) (hy:∀i,y1.heap.size<=i->i<y2.heap.size->z.heap[i]?=y2.heap[i]?) (hl:RC.toList.length=266)
  (k9:Kept (z.setCell ⟨gb,k+1,none⟩ (.pointer (some ⟨eb,0,none⟩))).heap.size (z.setCell ⟨gb,k+1,none⟩ (.pointer (some ⟨eb,0,none⟩))).heap.size (z.setCell ⟨gb,k+1,none⟩ (.pointer (some ⟨eb,0,none⟩))) z1) :
  ∃bs es cs ts p R,Gs w0 (z1.setCells gb (4+266*(k+1)) RC.toList) gb f j (k+1) bs es cs ts p R:=by
 have kx:Kept x1.heap.size x1.heap.size x1 x2:=by
  obtain⟨_,_,_,_,_,_,_,_,q,_⟩:=h1;exact q
 have ky:Kept y1.heap.size y1.heap.size y1 y2:=by
  obtain⟨_,_,_,_,q,_⟩:=h2;exact q
 have kwz:Kept wr.heap.size wr.heap.size wr z:=(k1.onto kx).onto kz;have hgw:gb<wr.heap.size:=zF h.cells;obtain⟨y9,e9⟩:=h1.st2 kz;have hdoc:=h2.st;have c1:=Qaj (rK h.cells kwz) (k+1) (.pointer (some ⟨eb,0,none⟩));rw[Qsw (k+1) (by omega)] at c1
 have c3:=rK c1 k9;have c2:=Qsx h.len c3 (k+1) (by omega) RC.toList hl
 have g1:=Qbb z gb (k+1) (.pointer (some ⟨eb,0,none⟩));have hoth:∀i,i<z.heap.size->i≠gb->(z1.setCells gb (4+266*(k+1)) RC.toList).heap[i]?=z.heap[i]?:=λi hi hne=>(Qcv hne _ _ _).trans ((k9.block i (zC hi g1.size) (zD (zC hi g1.size))).trans (Below.heap_setCell _ _ _ _ hne))
 have hsz:z.heap.size<=(z1.setCells gb (4+266*(k+1)) RC.toList).heap.size:=Nat.le_trans g1.size (Nat.le_trans k9.size (Qez _ _ _ _));have hk0:Kept w0.heap.size w0.heap.size w0 (z1.setCells gb (4+266*(k+1)) RC.toList):=Qdo gb h.low _ _ _ (((h.kept.onto kwz).set (.inr h.low) _ _).onto k9);generalize z1.setCells gb (4+266*(k+1)) RC.toList=z2 at c2 hoth hsz hk0 |-
 have hlen:∀i,(gput R (k+1) RC.toList i).length=266:=λi=>by
  unfold gput
  split
  ·exact hl
  ·exact h.len i
 have hg:Gs w0 z2 gb f j k bs es cs ts (gput p (k+1) (.pointer (some ⟨eb,0,none⟩))) (gput R (k+1) RC.toList):=
  h.far hk0 (Nat.le_trans kwz.size hsz) (λi hi hne=>(hoth i (zC hi kwz.size) hne).trans (kwz.block i hi (zD hi))) c2 hlen (λi hi=>by unfold gput;rw[if_neg (by omega)]) (λi hi=>by unfold gput;rw[if_neg (by omega)])
 have hx1:=k1.size;have hx2:=kx.size;have hx3:=k2.size;have hx4:=ky.size;obtain⟨o1,o2,o3,o4,o5,o6⟩:=e9.ord
 have hebx:eb<x2.heap.size:=by
  obtain⟨_,_,_,_,_,_,_,hc,_⟩:=h1;exact zF hc
 have hold:∀{α:Type} (g:Nat->α) (v:α) (i:Nat),i<=k->gput g (k+1) v i=g i:=λg v i hi=>by unfold gput;rw[if_neg (by omega)]
 have hnew:∀{α:Type} (g:Nat->α) (v:α),gput g (k+1) v (k+1)=v:=λg v=>by unfold gput;rw[zG rfl]
 refine⟨gput bs (k+1) x1.heap.size,gput es (k+1) eb,gput cs (k+1) y1.heap.size,gput ts (k+1) y2.heap.size,gput p (k+1) (.pointer (some ⟨eb,0,none⟩)),gput R (k+1) RC.toList,?_⟩
 exact
  { kept:=hk0
    low:=h.low
    cells:=c2
    len:=hlen
    ptr:=λi q1 q2=>by
     rcases Nat.lt_or_ge k i with hi|hi
     ·obtain rfl:i=k+1:=by omega
      rw[hnew,hnew]
     ·rw[hold es _ i hi]
      exact hg.ptr i q1 hi
    era:=λi q1 q2=>by
     rcases Nat.lt_or_ge k i with hi|hi
     ·obtain rfl:i=k+1:=by omega
      rw[hnew,hnew];exact⟨y9,e9.all hsz (λq hq h3 _=>hoth q hq (by omega))⟩
     ·rw[hold es _ i hi,hold bs _ i hi]
      exact hg.era i q1 hi
    doc:=λi q1 q2=>by
     rcases Nat.lt_or_ge k i with hi|hi
     ·obtain rfl:i=k+1:=by omega
      rw[hnew,hnew,hnew];exact hdoc.far (Nat.le_trans hz hsz) hx4 (λq hq h3 h4=>(hoth q (zC hq hz) (by omega)).trans (hy q h3 h4))
     ·rw[hold cs _ i hi,hold ts _ i hi]
      exact hg.doc i q1 hi
    ord:=λi q1 q2=>by
     rcases Nat.lt_or_ge k i with hi|hi
     ·obtain rfl:i=k+1:=by omega
      rw[hnew,hnew,hnew,hnew];exact⟨by omega,by omega,by omega,by omega⟩
     ·rw[hold es _ i hi,hold bs _ i hi,hold cs _ i hi,hold ts _ i hi]
      exact hg.ord i q1 hi
    next:=λi q1 q2=>by
     rcases Nat.lt_or_ge k (i+1) with hi|hi
     ·obtain rfl:i=k:=by omega
      rw[hnew,hold ts _ i (zB _)];have:=(h.ord i q1 (zB _)).2.2.2
      omega
     ·rw[hold ts _ i (by omega),hold bs _ (i+1) hi]
      exact hg.next i q1 hi }
theorem RefNew.size14 {w w':World}{RC:Array Value}{f:Fm}{L:List Lf}{P:List Pr}{me:Int}{j cc:List UInt8}(h:RefNew w w' RC f L P me j cc)(hf:f.Ok)(hj:j.length=32):RC.size=266:=by
 obtain⟨lv,pv,av,rfl,_⟩:=h;rw[List.size_toArray,Qbm (Fm.cells_length hf _ _) _ _ (Ky.key_length hj _ _) _ _ _ _ _ (Ky.key_length hj _ _) (Ky.key_length hj _ _)]
theorem RefNew.all14 {w w':World}{RC:Array Value}{f:Fm}{L:List Lf}{P:List Pr}{me:Int}{j cc:List UInt8}(h:RefNew w w' RC f L P me j cc):RC.all (·.oneCell')=true:=by
 obtain⟨lv,pv,av,rfl,_,⟨SL,m⟩,o⟩:=h;obtain⟨la,lc,rfl⟩:=m.lvs.shape;obtain⟨pa,pc,rfl⟩:=m.pts.shape
 have hs:∃aa an ac,av=.slice aa an ac:=by
  rcases o.2.2 with⟨rfl,_⟩|⟨g,cap,cur,rfl,_⟩
  ·exact⟨_,_,_,rfl⟩
  ·exact⟨_,_,_,rfl⟩
 obtain⟨aa,an,ac,rfl⟩:=hs;exact all_oneCell_toArray (Qf3 (f.cells_one _ _ _ _ _ _) _ _ _ _ _ _ _ _ _ _ _ _ _ _ _ _)
theorem Gs.start {w0 w:World}{gb:Nat}{f:Fm}{j:List UInt8}(k:Kept w0.heap.size w0.heap.size w0 w)(hl:w0.heap.size<=gb)(h:w.heap[gb]?=some (.cells (gcells (λ_=>.pointer none) (λ_=>Qfo)).toArray 59 (0,0))):Gs w0 w gb f j 0 (λ_=>0) (λ_=>0) (λ_=>0) (λ_=>0) (λ_=>.pointer none) (λ_=>Qfo):=
 { kept:=k
   low:=hl
   cells:=h
   len:=λ_=>Qcz
   ptr:=λi h1 h2=>by omega
   era:=λi h1 h2=>by omega
   doc:=λi h1 h2=>by omega
   ord:=λi h1 h2=>by omega
   next:=λi h1 h2=>by omega }
theorem EraNew.k14 {w w':World}{eb:Nat}{f:Fm}{L:List Lf}{P:List Pr}{me:Int}{j cc:List UInt8}(h:EraNew w w' eb f L P me j cc):Kept w.heap.size w.heap.size w w':=by
 obtain⟨_,_,_,_,_,_,_,_,q,_⟩:=h;exact q
theorem RefNew.k14 {w w':World}{RC:Array Value}{f:Fm}{L:List Lf}{P:List Pr}{me:Int}{j cc:List UInt8}(h:RefNew w w' RC f L P me j cc):Kept w.heap.size w.heap.size w w':=by
 obtain⟨_,_,_,_,q,_⟩:=h;exact q
theorem Qmb (w:World):(Instr.build 59 #[]).run Tryz.prog w=.ok (.agg (gcells (λ_=>.pointer none) (λ_=>Qfo)).toArray) w:=by kernel_rfl
theorem Qnq (d:Int)(hd:0<=d/\d<=4611686018427387903):Er.frameOk Cn.gL Cn.gP d Fm.z64=true:=by
 have h1:Tt.right Cn.gL Cn.gP=true:=by kernel_rfl
 have h2:Fm.z64.all Er.wr=true:=by kernel_rfl
 have h3:Er.wr d=true:=by simp[Er.wr,hd.1,hd.2]
 rw[Er.frameOk,h1,h2,h3]
 rfl
namespace Cn
def gid (b0:UInt8):List UInt8:=7::b0::List.replicate 30 0
def fm (b0:UInt8)(d:Int):Fm:=⟨gid b0,Tt.z32,d,Tt.z32,Fm.z64⟩
theorem fm_ok (b0:UInt8)(d:Int):(fm b0 d).Ok:=⟨rfl,rfl,rfl,rfl⟩
end Cn
theorem Qsf {w:World}{g o:Nat}{v:Int}(h:w.cell? ⟨g,o,none⟩=some (.int .u8 v)):(loadVar 5 ⟨g,o,none⟩).run Tryz.prog w=.ok (.int .u8 v) w:=by
 go_simp
theorem Qp6 (b0:UInt8)(w:World):(Instr.build 23 #[(0,.int .u8 7),(1,.int .u8 (b0.toNat:Int))]).run Tryz.prog w=.ok (.agg (bY (Cn.gid b0)).toArray) w:=by kernel_rfl
theorem Qki (b0:UInt8)(d:Int)(a b:Nat)(w:World):(Instr.build 49 #[(0,.agg (bY (Cn.gid b0)).toArray),(2,.int .i64 d),(3,.agg #[.slice (some ⟨a,0,none⟩) 4 4,.slice (some ⟨b,0,none⟩) 3 3])]).run Tryz.prog w=.ok (.agg ((Cn.fm b0 d).cells (.slice (some ⟨a,0,none⟩) 4 4) (.slice (some ⟨b,0,none⟩) 3 3)).toArray) w:=by kernel_rfl
theorem Qmc (b0:UInt8)(d:Int)(a b:Nat)(w:World):(Instr.build 84 #[(0,.agg (bY (Cn.gid b0)).toArray),(2,.int .i64 d),(3,.agg #[.slice (some ⟨a,0,none⟩) 4 4,.slice (some ⟨b,0,none⟩) 3 3])]).run Tryz.prog w=.ok (.agg ((Cn.fm b0 d).cells (.slice (some ⟨a,0,none⟩) 4 4) (.slice (some ⟨b,0,none⟩) 3 3)).toArray) w:=by kernel_rfl
theorem Qe2 {cs:Array Value}(h:cs.size=163):(Tryz.prog.info? 49).map (·.size)=some cs.size:=by rw[h];kernel_rfl
theorem Qfy (w:World):(Instr.alloc 49 true (.tuple #[])).run Tryz.prog w=.ok (.pointer (some ⟨w.heap.size,0,none⟩)) (w.alloc (.cells (Fm.zero.cells (.slice none 0 0) (.slice none 0 0)).toArray 49)):=by kernel_rfl
theorem Qea:∀ p∈Cn.gP,p.loose.length<=1000:=λp hp=>by
 have:p=Pr.zero:=by simpa [Cn.gP] using hp
 rw[this];exact Nat.zero_le _
theorem Qpr {cs:Array Value}(h:cs.size=32):(Tryz.prog.info? 23).map (·.size)=some cs.size:=by rw[h];kernel_rfl
theorem Below.heap_setRow14 (w:World)(b:Nat)(cs:Array Value)(i:Nat)(h:i≠b):(w.setRow b cs).heap[i]?=w.heap[i]?:=by
 unfold World.setRow;rw[Array.getElem?_modify,if_neg (Ne.symm h)]
theorem Ql4 (b0:UInt8)(jt:List UInt8)(hj:jt.length=31)(d:Int)(hd:0<=d/\d<=4611686018427387903)(w:World)(tab:Tab w):
  Calls Tryz.prog 15 #[.agg (bY (b0::jt)).toArray,.int .i64 d] w λe w'=>∃gb,e=.returned (.pointer (some ⟨gb,0,none⟩))/\∃bs es cs ts p R,Gs w w' gb (Cn.fm b0 d) (b0::jt) 3 bs es cs ts p R:=by
 have hj32:(b0::jt).length=32:=by simp[hj]
 have hbg:=λ(x:World)=>Qmb x
 obtain⟨GZ,hGZ⟩:∃x,x=(gcells (λ_=>.pointer none) (λ_=>Qfo)).toArray:=⟨_,rfl⟩
 rw[<-hGZ] at hbg;have HBG:=hid hbg;have HGZ:=hid hGZ;have hbi:=λ(x:World)=>Qp6 b0 x
 have hbf:=λ(a b:Nat) (x:World)=>Qki b0 d a b x
 have hbe:=λ(a b:Nat) (x:World)=>Qmc b0 d a b x
 obtain⟨ID,hID⟩:∃x,x=(bY (Cn.gid b0)).toArray:=⟨_,rfl⟩;rw[<-hID] at hbi hbf hbe;have HBI:=hid hbi;have HBF:=hid hbf;have HBE:=hid hbe;have HTC:=hid (λ(x:World)=>Qmn x)
 obtain⟨FZ,hFZ⟩:∃x,x=(Fm.zero.cells (.slice none 0 0) (.slice none 0 0)).toArray:=⟨_,rfl⟩;have HFZ:=hid (show FZ.size=163 by rw[hFZ];exact Fm.size Fm.zero_ok _ _)
 have HFZE:=hid hFZ.symm;have hkm:∀x:World,Calls Tryz.prog 39 #[.pointer none,.agg (bY (b0::jt)).toArray,.string ⟨#[]⟩] x λe w'=>e=.returned (.agg (bY (Ky.secs (b0::jt) [])).toArray)/\Kept x.heap.size x.heap.size x w':=λx=>Qsb (b0::jt) hj32 ⟨#[]⟩ (by decide) x
 have hrm:∀x:World,Calls Tryz.prog 41 #[.agg (bY (b0::jt)).toArray,.string ⟨#[]⟩] x λe w'=>e=.returned (.agg (bY (Ky.secs (b0::jt) [])).toArray)/\Kept x.heap.size x.heap.size x w':=λx=>Qix (b0::jt) hj32 ⟨#[]⟩ (by decide) x
 have HJ0:=hid (λ(x:World) (h:x.heap[w.heap.size]?=some (.cells (bY (b0::jt)).toArray 23 (0,0)))=>Qag (j:=0) (v:=.int .u8 (b0.toNat:Int)) h (by rw[bY];rfl))
 have HLJ:=hid (λ(x:World) (b:Nat) (h:x.heap[b]?=some (.cells (bY (b0::jt)).toArray 23 (0,0)))=>run_loadVar_row x b 23 23 _ (0,0) _ h Tryz.underlying23 rfl (Qpr (by rw[List.size_toArray,bZ,hj32])))
 obtain⟨J,hJ⟩:∃x,x=(bY (b0::jt)).toArray:=⟨_,rfl⟩;rw[<-hJ] at hkm hrm HJ0 HLJ |-;have HKM:=hid hkm;have HRM:=hid hrm;have HTB:=hid tab;have HD:=hid hd;have HJ32:=hid hj32;obtain⟨SE,hSE⟩:∃x,x=(bY (Ky.secs (b0::jt) [])).toArray:=⟨_,rfl⟩;rw[<-hSE] at HKM HRM;have HSE:=hid hSE;have HIDE:=hid hID;obtain⟨RZ,hRZ⟩:∃x,x=Qfo.toArray:=⟨_,rfl⟩;have HRZ:=hid (show RZ.size=266 by rw[hRZ,List.size_toArray,Qcz])
 have HRZE:=hid hRZ.symm;clear hSE hRZ;clear hj hd tab hj32 hbg hGZ hbi hbf hbe hID hFZ hkm hrm hJ
 go_enter Tryz.func15,Tryz.ntmps15
 go_upto_region 0 with fail
 refine zA ?_;iterate 2(refine wW λK hK=>?_;go_simp;apply hK;clear hK K)
 have k1:Kept w.heap.size w.heap.size w (w.alloc (.cells J 23)):=zI.alloc (zB _) _
 have r1:=Qaa w (.cells J 23)
 generalize w.alloc (.cells J 23)=w1 at k1 r1 |-
 obtain⟨jb,hjb⟩:∃x,x=w.heap.size:=⟨_,rfl⟩;rw[<-hjb] at r1 HJ0
 (try rw[<-hjb])
 have RJ:=hid r1;have K1:=hid k1;clear k1 r1 hjb
 go_upto_region 1 with fail
 refine zA ?_;refine @Qap _ _ _ _ _ _ _ ?_ 59 rfl _ (HBG.out _) ?_;kernel_rfl
 simp only[Act.put,sA,sB,sC];iterate 2(refine wW λK hK=>?_;go_simp;apply hK;clear hK K)
 have k2:Kept w1.heap.size w1.heap.size w1 (w1.alloc (.cells GZ 59)):=zI.alloc (zB _) _
 have r2:=Qaa w1 (.cells GZ 59)
 generalize w1.alloc (.cells GZ 59)=w2 at k2 r2 |-
 obtain⟨gb,hgb⟩:∃x,x=w1.heap.size:=⟨_,rfl⟩;rw[<-hgb] at r2
 (try rw[<-hgb])
 have HGB:=hid (show w.heap.size<=gb/\jb≠gb/\gb<w2.heap.size from⟨by rw[hgb];exact K1.out.size,λe=>by have:=zF RJ.out;omega,zF r2⟩)
 have RG:=hid r2;have K12:=hid k2;clear k2 r2 hgb
 go_upto_region 2 with fail
 refine Code.wp_mono (Q:=λe a u=>e=.normal/\∃ga gp fb FR,a={ tmps:=#[.agg J,.int .i64 d,.pointer (some ⟨jb,0,none⟩),undef,.pointer none,.pointer (some ⟨gb,0,none⟩),.pointer (some ⟨fb,0,none⟩),undef,undef,undef,undef,undef,.agg GZ,.pointer (some ⟨gb,0,none⟩),.pointer (some ⟨jb,0,none⟩),.int .u8 (b0.toNat:Int),.agg ID,.int .i64 d,.agg #[.slice (some ⟨ga,0,none⟩) 4 4,.slice (some ⟨gp,0,none⟩) 3 3],.agg FR,undef,undef,undef,undef,undef,undef,undef,undef,undef,undef,undef,undef,undef,undef,undef,undef,undef,undef,undef,undef,undef,undef,undef,undef,undef,undef,undef,undef,undef,undef,undef,undef,undef,undef,undef,undef,undef,undef,undef],defers:=[] }/\Kept w2.heap.size w2.heap.size w2 u/\TrIs u ga gp/\u.heap[fb]?=some (.cells FR 49 (0,0))/\FR=((Cn.fm b0 d).cells (.slice (some ⟨ga,0,none⟩) 4 4) (.slice (some ⟨gp,0,none⟩) 3 3)).toArray/\w2.heap.size<=fb/\w2.heap.size<=ga/\w2.heap.size<=gp) ?rest ?reg
 case reg=>
  refine wp_region_noPanic ?_;refine wp_region_held_drew (S:=λx=>Kept w2.heap.size w2.heap.size w2 x) (by kernel_rfl) (zI.drew) (λhH=>?_)
  have kd:Kept w2.heap.size w2.heap.size w2 w2.drew:=zI.drew;obtain⟨wd,hwd⟩:∃wd,wd=w2.drew:=⟨_,rfl⟩;rw[<-hwd] at hH kd |-;clear hwd;have Kwd:=hid kd;clear kd;refine tkE (i:=0) 14 rfl hH ?_
  apply zH
  ·intro w9 _
   go_simp
   first|done|rfl
  simp only[sA,sB,sC];refine tkA (i:=1) 15 (.int .u8 (b0.toNat:Int)) rfl (yK (by kernel_rfl) 5 _ rfl (jb) (0) rfl (.int .u8 (b0.toNat:Int)) (λx k=>Qsf (HJ0.out x (rK RJ.out (K12.out.onto k))))) hH ?_
  simp only[sA,sB,sC];refine tkA (i:=2) 16 (.agg ID) rfl (Qa4 (by kernel_rfl) 23 _ rfl #[(0,.int .u8 7),(1,.int .u8 (b0.toNat:Int))] (by kernel_rfl) _ HBI.out) hH ?_
  simp only[sA,sB,sC];refine tkE (i:=3) 17 rfl hH ?_
  apply zH
  ·intro w9 _
   go_simp
   first|done|rfl
  simp only[sA,sB,sC];refine wpAnyH_ready (rs:=[4,6]) (by kernel_rfl) (by simp) ?_
  refine AllReadyH.cons rfl (λK hK=>?_) ?_
  ·rw[zG (by rfl)]
   go_simp
   go_wp2_with (go_at_call 37;refine(HTC.out _).mono ?_;rintro e x1 ⟨ga,gp,rfl,kx,hga,hgp,htr⟩)
   have Kx1:=hid (Kwd.out.onto kx);have HTx1:=hid htr;have HGL:=hid (show w2.heap.size<=ga/\w2.heap.size<=gp by have:=Kwd.out.size;omega)
   clear kx htr hga hgp;refine hK.out _ _ Kx1.out (λhH=>?_)
   clear hK K;obtain⟨FR,hFR⟩:∃x,x=((Cn.fm b0 d).cells (.slice (some ⟨ga,0,none⟩) 4 4) (.slice (some ⟨gp,0,none⟩) 3 3)).toArray:=⟨_,rfl⟩;have hbf:=HBF.out ga gp;rw[<-hFR] at hbf;have HFI:=hid (Fm.size (Cn.fm_ok b0 d) (.slice (some ⟨ga,0,none⟩) 4 4) (.slice (some ⟨gp,0,none⟩) 3 3));have HFA:=hid (Fm.all (Cn.fm b0 d) (some ⟨ga,0,none⟩) (some ⟨gp,0,none⟩) 4 4 3 3);rw[<-hFR] at HFI HFA;refine tkA (i:=5) 19 (.agg FR) rfl (Qa4 (by kernel_rfl) 49 _ rfl #[(0,.agg ID),(2,.int .i64 d),(3,.agg #[.slice (some ⟨ga,0,none⟩) 4 4,.slice (some ⟨gp,0,none⟩) 3 3])] (by kernel_rfl) _ hbf) hH ?_
   simp only[sA,sB,sC];refine wpAnyH_ready (rs:=[6]) (by kernel_rfl) (by simp) ?_
   refine AllReadyH.cons rfl (λK hK=>?_) AllReadyH.nil
   rw[zG (by rfl)]
   obtain⟨fb,hfb⟩:∃x,x=x1.heap.size:=⟨_,rfl⟩;have er:=Qfy x1;have ho:=Qaa x1 (.cells FZ 49)
   rw[HFZE.out] at er;rw[<-hfb] at er ho;have hkk:Kept x1.heap.size x1.heap.size x1 (x1.alloc (.cells FZ 49)):=zI.alloc (zB _) _
   have HFB:=hid (show w2.heap.size<=fb by rw[hfb];exact Kx1.out.size)
   have HAF:=hid (show ga≠fb/\gp≠fb from⟨λe=>by have:=zF HTx1.out.1;omega,λe=>by have:=zF HTx1.out.2;omega⟩)
   have ht:=HTx1.out.kept hkk;generalize x1.alloc (.cells FZ 49)=x2 at er ho hkk ht
   refine Qa1 49 rfl (some 6) rfl _ er ?_
   simp only[Act.put,sA,sB,sC];have Kx2:=hid (Kx1.out.onto hkk);have FBx2:=hid ho;have HTx2:=hid ht;clear ht;clear er ho hkk hfb;refine hK.out _ _ Kx2.out (λhH=>?_)
   clear hK K;refine wpAnyH_ready (rs:=[7]) (by kernel_rfl) (by simp) ?_
   refine AllReadyH.cons rfl (λK hK=>?_) AllReadyH.nil
   rw[zG (by rfl)]
   refine Qau 49 _ _ rfl rfl fb FR rfl rfl 49 FZ FBx2.out (Qe2 HFI.out) (by rw[HFI.out,HFZ.out]) HFA.out ?_
   have HS:=setRow_heap x2 fb _ FR _ _ FBx2.out;have hkk:=Qak Kx2.out fb HFB.out FR;have ht:=HTx2.out.other (x:=x2.setRow fb FR) (g:=fb) HAF.out.1 HAF.out.2 (λi hi=>Below.heap_setRow14 _ _ _ _ hi)
   generalize x2.setRow fb FR=u3 at HS hkk ht |-;refine hK.out _ _ hkk (λhH=>?_)
   clear hK K;refine wpAnyH_done (by kernel_rfl) ?_ _
   refine NoPanic.normal ?_;exact⟨rfl,ga,gp,fb,FR,rfl,hkk,ht,HS,hFR,HFB.out,HGL.out⟩
  refine AllReadyH.cons rfl (λK hK=>?_) AllReadyH.nil
  rw[zG (by rfl)]
  obtain⟨fb,hfb⟩:∃x,x=wd.heap.size:=⟨_,rfl⟩;have er:=Qfy wd;have ho:=Qaa wd (.cells FZ 49)
  rw[HFZE.out] at er;rw[<-hfb] at er ho;have hkk:Kept wd.heap.size wd.heap.size wd (wd.alloc (.cells FZ 49)):=zI.alloc (zB _) _
  have HFB:=hid (show w2.heap.size<=fb by rw[hfb];exact Kwd.out.size)
  generalize wd.alloc (.cells FZ 49)=x4 at er ho hkk
  refine Qa1 49 rfl (some 6) rfl _ er ?_
  simp only[Act.put,sA,sB,sC];have Kx4:=hid (Kwd.out.onto hkk);have FBx4:=hid ho;clear er ho hkk hfb;refine hK.out _ _ Kx4.out (λhH=>?_)
  clear hK K;refine wpAnyH_ready (rs:=[4]) (by kernel_rfl) (by simp) ?_
  refine AllReadyH.cons rfl (λK hK=>?_) AllReadyH.nil
  rw[zG (by rfl)]
  go_simp
  go_wp2_with (go_at_call 37;refine(HTC.out _).mono ?_;rintro e x5 ⟨ga,gp,rfl,kx,hga,hgp,htr⟩)
  have Kx5:=hid (Kx4.out.onto kx);have HTx5:=hid htr;have HGL:=hid (show w2.heap.size<=ga/\w2.heap.size<=gp by have:=Kx4.out.size;omega)
  have FBx5:=hid (rK FBx4.out kx);have HAF:=hid (show ga≠fb/\gp≠fb from⟨λe=>by have:=zF FBx4.out;omega,λe=>by have:=zF FBx4.out;omega⟩)
  clear kx htr hga hgp;refine hK.out _ _ Kx5.out (λhH=>?_)
  clear hK K;obtain⟨FR,hFR⟩:∃x,x=((Cn.fm b0 d).cells (.slice (some ⟨ga,0,none⟩) 4 4) (.slice (some ⟨gp,0,none⟩) 3 3)).toArray:=⟨_,rfl⟩;have hbf:=HBF.out ga gp;rw[<-hFR] at hbf;have HFI:=hid (Fm.size (Cn.fm_ok b0 d) (.slice (some ⟨ga,0,none⟩) 4 4) (.slice (some ⟨gp,0,none⟩) 3 3));have HFA:=hid (Fm.all (Cn.fm b0 d) (some ⟨ga,0,none⟩) (some ⟨gp,0,none⟩) 4 4 3 3);rw[<-hFR] at HFI HFA;refine tkA (i:=5) 19 (.agg FR) rfl (Qa4 (by kernel_rfl) 49 _ rfl #[(0,.agg ID),(2,.int .i64 d),(3,.agg #[.slice (some ⟨ga,0,none⟩) 4 4,.slice (some ⟨gp,0,none⟩) 3 3])] (by kernel_rfl) _ hbf) hH ?_
  simp only[sA,sB,sC];refine wpAnyH_ready (rs:=[7]) (by kernel_rfl) (by simp) ?_
  refine AllReadyH.cons rfl (λK hK=>?_) AllReadyH.nil
  rw[zG (by rfl)]
  refine Qau 49 _ _ rfl rfl fb FR rfl rfl 49 FZ FBx5.out (Qe2 HFI.out) (by rw[HFI.out,HFZ.out]) HFA.out ?_
  have HS:=setRow_heap x5 fb _ FR _ _ FBx5.out;have hkk:=Qak Kx5.out fb HFB.out FR;have ht:=HTx5.out.other (x:=x5.setRow fb FR) (g:=fb) HAF.out.1 HAF.out.2 (λi hi=>Below.heap_setRow14 _ _ _ _ hi)
  generalize x5.setRow fb FR=u6 at HS hkk ht |-;refine hK.out _ _ hkk (λhH=>?_)
  clear hK K;refine wpAnyH_done (by kernel_rfl) ?_ _
  refine NoPanic.normal ?_;exact⟨rfl,ga,gp,fb,FR,rfl,hkk,ht,HS,hFR,HFB.out,HGL.out⟩
 case rest=>
  rintro e a u ⟨rfl,ga,gp,fb,FR,rfl,ku,ht,hfr,hFR,hfb,hga,hgp⟩;have KU:=hid ku;have HFR:=hid hFR;have HNE:=hid (show fb≠gb/\jb≠gb/\ga≠gb/\gp≠gb from⟨by have:=HGB.out;omega,HGB.out.2.1,by have:=HGB.out;omega,by have:=HGB.out;omega⟩)
  have HG0:=hid (Gs.start (f:=Cn.fm b0 d) (j:=b0::jt) ((K1.out.onto K12.out).onto ku) HGB.out.1 (by rw[<-HGZ.out];exact rK RG.out ku))
  have HT0:=hid ht;have HF0:=hid hfr;have HJB:=hid (rK (rK RJ.out K12.out) ku);have hcr:=λ(x:World) (h:x.heap[fb]?=some (.cells FR 49 (0,0)))=>(show x.heap[fb]?=some (.cells ((Cn.fm b0 d).cells (.slice (some ⟨ga,0,none⟩) 4 4) (.slice (some ⟨gp,0,none⟩) 3 3)).toArray 49 (0,0)) by rw[<-HFR.out];exact h)
  have hli:=λ(x:World) (h:x.heap[fb]?=some (.cells FR 49 (0,0)))=>Qb3 (Fm.at_id (Qam (hcr x h))) (Cn.fm_ok b0 d).1
  have hld:=λ(x:World) (h:x.heap[fb]?=some (.cells FR 49 (0,0)))=>Qa3 (Fm.at_depth (Qam (hcr x h)) (Cn.fm_ok b0 d))
  have hlt:=λ(x:World) (h:x.heap[fb]?=some (.cells FR 49 (0,0)))=>Qdm (Fm.at_tree (Qam (hcr x h)) (Cn.fm_ok b0 d))
  have hlf:=λ(x:World) (h:x.heap[fb]?=some (.cells FR 49 (0,0)))=>run_loadVar_row x fb 49 49 _ (0,0) _ h Tryz.underlying49 rfl (Qe2 (by rw[hFR];exact Fm.size (Cn.fm_ok b0 d) _ _))
  simp only[Nat.zero_add] at hld hlt;have HLI:=hid (λ(x:World) (h:x.heap[fb]?=some (.cells FR 49 (0,0)))=>(show(loadVar 23 ⟨fb,0,none⟩).run Tryz.prog x=.ok (.agg ID) x by rw[HIDE.out];exact hli x h))
  have HLD:=hid (λ(x:World) (h:x.heap[fb]?=some (.cells FR 49 (0,0)))=>(show(loadVar 3 ⟨fb,64,none⟩).run Tryz.prog x=.ok (.int .i64 d) x from hld x h))
  have HLT:=hid hlt;have HLF:=hid hlf;have hbe2:=HBE.out ga gp;rw[<-hFR] at hbe2;have HBE2:=hid hbe2;clear ku ht hfr hFR hfb hga hgp hcr hli hld hlt hlf hbe2;go_wp2
  go_loopw [7] (λs7 wr=>∃q n:Nat,s7=.int .i64 (q:Int)/\Hid (q=n+1/\n<=3)/\∃bs es cs ts p R,Hid (Gs w wr gb (Cn.fm b0 d) (b0::jt) n bs es cs ts p R)/\Hid (TrIs wr ga gp)/\Hid (wr.heap[fb]?=some (.cells FR 49 (0,0)))/\Hid (wr.heap[jb]?=some (.cells J 23 (0,0)))) (λs7 _=>4-(RowKit.intOf s7).toNat)
  case atStart=>exact⟨1,0,rfl,hid ⟨rfl,by decide⟩,_,_,_,_,_,_,HG0,HT0,HF0,HJB⟩
  case round=>
   clear HG0 HT0 HF0 HJB;obtain⟨q,n,rfl,hq,bs,es,cs,ts,p,R,HG,HT,HF,HJ⟩:=hrel
   by_cases hlt:n<3
   ·have hq3:(q:Int)<=3:=by have:=hq.out;omega
    have HQP:=hid (show 1<=q/\q<=3 by have:=hq.out;omega)
    have hnq:((n:Int)+1)=(q:Int):=by have:=hq.out;omega
    have HNQ:=hid hnq;have HLT3:=hid hlt;have hem:=λ(x:World) (tb:Tab x) (ht:TrIs x ga gp)=>Qs4 (Cn.fm b0 d) (Cn.fm_ok b0 d) _ _ Cn.gL Cn.gP ((n:Int)+1) (b0::jt) [] HJ32.out x tb ht.lvs ht.pts Qea (Qnq d HD.out) (by rw[Qlx n (by omega)];omega)
    have hef:=λ(x:World) (ht:TrIs x ga gp)=>Qrp (Cn.fm b0 d) (Cn.fm_ok b0 d) _ _ Cn.gL Cn.gP ((n:Int)+1) (b0::jt) [] HJ32.out x ht.lvs ht.pts Qea (Qnq d HD.out) (by rw[Qlx n (by omega)];omega)
    simp only[hnq,<-HFR.out,<-HSE.out] at hem hef;have HEM:=hid hem;have HEF:=hid hef;clear hem hef hnq hlt
    go_upto_region 6 with fail
    refine wp_region_noPanic ?_;refine wp_region_held_drew (S:=λw'=>Kept wr.heap.size wr.heap.size wr w') (by kernel_rfl) (zI.drew) (λhH=>?_)
    refine tkE (i:=0) 25 rfl hH ?_
    apply zH
    ·intro w9 _
     go_simp
     first|done|rfl
    simp only[sA,sB,sC];refine tkA (i:=1) 26 (.agg ID) rfl (yK (by kernel_rfl) 23 _ rfl (fb) (0) rfl (.agg ID) (λx k=>HLI.out x (rK HF.out k))) hH ?_
    simp only[sA,sB,sC];refine tkE (i:=2) 27 rfl hH ?_
    apply zH
    ·intro w9 _
     go_simp
     first|done|rfl
    simp only[sA,sB,sC];refine tkA (i:=3) 28 (.int .i64 d) rfl (yK (by kernel_rfl) 3 _ rfl (fb) (64) rfl (.int .i64 d) (λx k=>HLD.out x (rK HF.out k))) hH ?_
    simp only[sA,sB,sC];refine tkE (i:=4) 29 rfl hH ?_
    apply zH
    ·intro w9 _
     go_simp
     first|done|rfl
    simp only[sA,sB,sC];refine tkA (i:=5) 30 (.agg #[.slice (some ⟨ga,0,none⟩) 4 4,.slice (some ⟨gp,0,none⟩) 3 3]) rfl (yK (by kernel_rfl) 45 _ rfl (fb) (65) rfl (.agg #[.slice (some ⟨ga,0,none⟩) 4 4,.slice (some ⟨gp,0,none⟩) 3 3]) (λx k=>HLT.out x (rK HF.out k))) hH ?_
    simp only[sA,sB,sC];refine tkA (i:=6) 31 (.agg FR) rfl (Qa4 (by kernel_rfl) 84 _ rfl #[(0,.agg ID),(2,.int .i64 d),(3,.agg #[.slice (some ⟨ga,0,none⟩) 4 4,.slice (some ⟨gp,0,none⟩) 3 3])] (by kernel_rfl) _ HBE2.out) hH ?_
    simp only[sA,sB,sC];refine tkE (i:=7) 32 rfl hH ?_
    apply zH
    ·intro w9 _
     go_simp
     first|done|rfl
    simp only[sA,sB,sC];refine tkA (i:=8) 33 (.agg J) rfl (yK (by kernel_rfl) 23 _ rfl (jb) (0) rfl (.agg J) (λx k=>HLJ.out x jb (rK HJ.out k))) hH ?_
    simp only[sA,sB,sC];refine wpAnyH_ready (rs:=[9]) (by kernel_rfl) (by simp) ?_
    refine AllReadyH.cons rfl (λK hK=>?_) AllReadyH.nil
    rw[zG (by rfl)]
    go_simp
    go_wp2_with (go_at_call 39;refine(HKM.out _).mono ?_;rintro e x1 ⟨rfl,kx1⟩)
    have X1:Kept wr.heap.size wr.heap.size wr x1:=(Kept.refl wr.heap.size wr.heap.size wr).drew.trans (kx1.mono (Kept.refl wr.heap.size wr.heap.size wr).drew.size (λi hi _=>zD (zC hi (Kept.refl wr.heap.size wr.heap.size wr).drew.size)))
    refine hK.out _ _ (X1) (λhH=>?_)
    clear hK K;refine wpAnyH_ready (rs:=[10]) (by kernel_rfl) (by simp) ?_
    refine AllReadyH.cons rfl (λK hK=>?_) AllReadyH.nil
    rw[zG (by rfl)]
    go_simp
    go_wp2_with (go_at_call 38;refine(HEM.out _ (HTB.out.onto11 (HG.out.kept.onto X1)) (HT.out.kept X1)).mono ?_;rintro e x2 ⟨eb,rfl,hen⟩)
    have X2:Kept wr.heap.size wr.heap.size wr x2:=X1.onto hen.k14;have HEN:=hid hen;refine hK.out _ _ X2 (λhH=>?_)
    clear hK K hen;refine tkE (i:=11) 24 rfl hH ?_
    apply zH
    ·intro w9 _
     go_simp
     first|done|rfl
    simp only[sA,sB,sC];refine tkE (i:=12) 36 rfl hH ?_
    apply zH
    ·intro w9 _
     go_simp
     first|done|rfl
    simp only[sA,sB,sC];refine tkE (i:=14) 8 rfl hH ?_
    apply zH
    ·intro w9 _
     go_simp
     first|done|rfl
    simp only[sA,sB,sC];refine tkE (i:=13) 37 rfl hH ?_
    apply zH
    ·intro w9 _
     go_simp
     first|done|rfl
    simp only[sA,sB,sC];refine tkE (i:=15) 9 rfl hH ?_
    apply zH
    ·intro w9 _
     go_simp
     first|done|rfl
    simp only[sA,sB,sC];refine wpAnyH_done (by kernel_rfl) ?_ _
    refine NoPanic.normal ?_;have KX1:=hid X1;have KX2:=hid X2;have HT9:=hid (HT.out.kept X2);have HF9:=hid (rK HF.out X2);have HJ9:=hid (rK HJ.out X2);clear X1 X2 HT HF HJ HEM
    go_upto_region 7 with fail
    refine Code.wp_mono (Q:=λe a u=>e=.normal/\∃rb y1 y2 RC,a={ tmps:=#[.agg J,.int .i64 d,.pointer (some ⟨jb,0,none⟩),undef,.pointer none,.pointer (some ⟨gb,0,none⟩),.pointer (some ⟨fb,0,none⟩),.int .i64 (q:Int),.pointer (some ⟨eb,0,none⟩),.int .i64 0,.pointer (some ⟨rb,0,none⟩),.int .i64 0,.agg GZ,.pointer (some ⟨gb,0,none⟩),.pointer (some ⟨jb,0,none⟩),.int .u8 (b0.toNat:Int),.agg ID,.int .i64 d,.agg #[.slice (some ⟨ga,0,none⟩) 4 4,.slice (some ⟨gp,0,none⟩) 3 3],.agg FR,.int .i64 (q:Int),.bool true,u22,u23,.tuple #[.pointer (some ⟨eb,0,none⟩),.int .i64 0],.pointer (some ⟨fb,0,none⟩),.agg ID,.pointer (some ⟨fb,64,none⟩),.int .i64 d,.pointer (some ⟨fb,65,none⟩),.agg #[.slice (some ⟨ga,0,none⟩) 4 4,.slice (some ⟨gp,0,none⟩) 3 3],.agg FR,.int .i64 (q:Int),.agg J,.agg SE,.tuple #[.pointer (some ⟨eb,0,none⟩),.int .i64 0],.pointer (some ⟨eb,0,none⟩),.int .i64 0,.tuple #[.agg RC,.int .i64 0],.agg FR,.int .i64 (q:Int),.agg J,.agg SE,.tuple #[.agg RC,.int .i64 0],.agg RC,.int .i64 0,u46,u47,u48,u49,u50,u51,u52,u53,u54,u55,u56,u57,undef],defers:=[] }/\Kept x2.heap.size x2.heap.size x2 y1/\RefNew y1 y2 RC (Cn.fm b0 d) Cn.gL Cn.gP (q:Int) (b0::jt) []/\Kept x2.heap.size x2.heap.size x2 u/\y2.heap.size<=u.heap.size/\(∀i,y1.heap.size<=i->i<y2.heap.size->u.heap[i]?=y2.heap[i]?)/\u.heap[rb]?=some (.cells RC 56 (0,0))) ?rest ?reg
    case reg=>
     refine wp_region_noPanic ?_;refine wp_region_held_drew (S:=λx=>Kept x2.heap.size x2.heap.size x2 x) (by kernel_rfl) (zI.drew) (λhH=>?_)
     have kd:Kept x2.heap.size x2.heap.size x2 x2.drew:=zI.drew;obtain⟨wd,hwd⟩:∃wd,wd=x2.drew:=⟨_,rfl⟩;rw[<-hwd] at hH kd |-;clear hwd;have Kwd:=hid kd;clear kd;refine tkA (i:=0) 39 (.agg FR) rfl (yK (by kernel_rfl) 49 _ rfl (fb) (0) rfl (.agg FR) (λx k=>HLF.out x (rK HF9.out k))) hH ?_
     simp only[sA,sB,sC];refine tkE (i:=1) 40 rfl hH ?_
     apply zH
     ·intro w9 _
      go_simp
      first|done|rfl
     simp only[sA,sB,sC];refine tkA (i:=2) 41 (.agg J) rfl (yK (by kernel_rfl) 23 _ rfl (jb) (0) rfl (.agg J) (λx k=>HLJ.out x jb (rK HJ9.out k))) hH ?_
     simp only[sA,sB,sC];refine wpAnyH_ready (rs:=[3,8]) (by kernel_rfl) (by simp) ?_
     refine AllReadyH.cons rfl (λK hK=>?_) ?_
     ·rw[zG (by rfl)]
      go_simp
      go_wp2_with (go_at_call 41;refine(HRM.out _).mono ?_;rintro e x7 ⟨rfl,kx⟩)
      have Kx7:=hid (Kwd.out.onto kx);clear kx;refine hK.out _ _ Kx7.out (λhH=>?_)
      clear hK K;refine wpAnyH_ready (rs:=[4,8]) (by kernel_rfl) (by simp) ?_
      refine AllReadyH.cons rfl (λK hK=>?_) ?_
      ·rw[zG (by rfl)]
       go_simp
       go_wp2_with (go_at_call 40;refine(HEF.out _ (HT9.out.kept Kx7.out)).mono ?_;rintro e x8 ⟨RC,rfl,hrn⟩)
       have kx:=hrn.k14;obtain⟨y1,hy1⟩:∃x,x=x7:=⟨_,rfl⟩;obtain⟨y2,hy2⟩:∃x,x=x8:=⟨_,rfl⟩;have HRN:=hid (show RefNew y1 y2 RC (Cn.fm b0 d) Cn.gL Cn.gP (q:Int) (b0::jt) [] by rw[hy1,hy2];exact hrn)
       have KY1:=hid (show Kept x2.heap.size x2.heap.size x2 y1 by rw[hy1];exact Kx7.out)
       have HYY:=hid (λ(i:Nat) (_:y1.heap.size<=i) (_:i<y2.heap.size)=>(show x8.heap[i]?=y2.heap[i]? by rw[hy2]))
       have HYS:=hid (show y2.heap.size<=x8.heap.size by rw[hy2];exact zB _)
       have HRS:=hid (hrn.size14 (Cn.fm_ok b0 d) HJ32.out);have HRA:=hid hrn.all14;have Kx8:=hid (Kx7.out.onto kx);clear kx hrn hy1 hy2;refine hK.out _ _ Kx8.out (λhH=>?_)
       clear hK K;refine tkE (i:=5) 38 rfl hH ?_
       apply zH
       ·intro w9 _
        go_simp
        first|done|rfl
       simp only[sA,sB,sC];refine tkE (i:=6) 44 rfl hH ?_
       apply zH
       ·intro w9 _
        go_simp
        first|done|rfl
       simp only[sA,sB,sC];refine tkE (i:=7) 45 rfl hH ?_
       apply zH
       ·intro w9 _
        go_simp
        first|done|rfl
       simp only[sA,sB,sC];refine wpAnyH_ready (rs:=[8]) (by kernel_rfl) (by simp) ?_
       refine AllReadyH.cons rfl (λK hK=>?_) AllReadyH.nil
       rw[zG (by rfl)]
       obtain⟨rb,hrb⟩:∃x,x=x8.heap.size:=⟨_,rfl⟩;have er:=Qdh x8;have ho:=Qaa x8 (.cells RZ 56)
       rw[HRZE.out] at er;rw[<-hrb] at er ho;have hkk:Kept x8.heap.size x8.heap.size x8 (x8.alloc (.cells RZ 56)):=zI.alloc (zB _) _
       have HRB:=hid (show x2.heap.size<=rb by rw[hrb];exact Kx8.out.size)
       have HRY:=hid (λ(i:Nat) (h1:y1.heap.size<=i) (h2:i<y2.heap.size)=>(show i≠rb from λe=>by have:=HYS.out;omega))
       have hyy:=λ(i:Nat) (h1:y1.heap.size<=i) (h2:i<y2.heap.size)=>(hkk.block i (zC h2 HYS.out) (zD (zC h2 HYS.out))).trans (HYY.out i h1 h2)
       have hys:=Nat.le_trans HYS.out hkk.size;generalize x8.alloc (.cells RZ 56)=x9 at er ho hkk hyy hys
       refine Qa1 56 rfl (some 10) rfl _ er ?_
       simp only[Act.put,sA,sB,sC];have Kx9:=hid (Kx8.out.onto hkk);have RBx9:=hid ho;clear HYY HYS;have HYY:=hid hyy;have HYS:=hid hys;clear hyy hys;clear er ho hkk hrb;refine hK.out _ _ Kx9.out (λhH=>?_)
       clear hK K;refine wpAnyH_ready (rs:=[9]) (by kernel_rfl) (by simp) ?_
       refine AllReadyH.cons rfl (λK hK=>?_) AllReadyH.nil
       rw[zG (by rfl)]
       refine Qau 56 _ _ rfl rfl rb RC rfl rfl 56 RZ RBx9.out (reraInfo HRS.out) (by rw[HRS.out,HRZ.out]) HRA.out ?_
       have HS:=setRow_heap x9 rb _ RC _ _ RBx9.out;have hkk:=Qak Kx9.out rb HRB.out RC;have hsz:x9.heap.size<=(x9.setRow rb RC).heap.size:=(Qa6 x9 rb RC).size;have hyy:=λ(i:Nat) (h1:y1.heap.size<=i) (h2:i<y2.heap.size)=>(Below.heap_setRow14 x9 rb RC i (HRY.out i h1 h2)).trans (HYY.out i h1 h2)
       generalize x9.setRow rb RC=u10 at HS hkk hsz hyy |-;refine hK.out _ _ hkk (λhH=>?_)
       clear hK K;refine tkE (i:=10) 11 rfl hH ?_
       apply zH
       ·intro w9 _
        go_simp
        first|done|rfl
       simp only[sA,sB,sC];refine wpAnyH_done (by kernel_rfl) ?_ _
       refine NoPanic.normal ?_;exact⟨rfl,rb,y1,y2,RC,rfl,KY1.out,HRN.out,hkk,Nat.le_trans HYS.out hsz,hyy,HS⟩
      refine AllReadyH.cons rfl (λK hK=>?_) AllReadyH.nil
      rw[zG (by rfl)]
      obtain⟨rb,hrb⟩:∃x,x=x7.heap.size:=⟨_,rfl⟩;have er:=Qdh x7;have ho:=Qaa x7 (.cells RZ 56)
      rw[HRZE.out] at er;rw[<-hrb] at er ho;have hkk:Kept x7.heap.size x7.heap.size x7 (x7.alloc (.cells RZ 56)):=zI.alloc (zB _) _
      have HRB:=hid (show x2.heap.size<=rb by rw[hrb];exact Kx7.out.size)
      generalize x7.alloc (.cells RZ 56)=x11 at er ho hkk
      refine Qa1 56 rfl (some 10) rfl _ er ?_
      simp only[Act.put,sA,sB,sC];have Kx11:=hid (Kx7.out.onto hkk);have RBx11:=hid ho;clear er ho hkk hrb;refine hK.out _ _ Kx11.out (λhH=>?_)
      clear hK K;refine wpAnyH_ready (rs:=[4]) (by kernel_rfl) (by simp) ?_
      refine AllReadyH.cons rfl (λK hK=>?_) AllReadyH.nil
      rw[zG (by rfl)]
      go_simp
      go_wp2_with (go_at_call 40;refine(HEF.out _ (HT9.out.kept Kx11.out)).mono ?_;rintro e x12 ⟨RC,rfl,hrn⟩)
      have kx:=hrn.k14;obtain⟨y1,hy1⟩:∃x,x=x11:=⟨_,rfl⟩;obtain⟨y2,hy2⟩:∃x,x=x12:=⟨_,rfl⟩;have HRN:=hid (show RefNew y1 y2 RC (Cn.fm b0 d) Cn.gL Cn.gP (q:Int) (b0::jt) [] by rw[hy1,hy2];exact hrn)
      have KY1:=hid (show Kept x2.heap.size x2.heap.size x2 y1 by rw[hy1];exact Kx11.out)
      have HYY:=hid (λ(i:Nat) (_:y1.heap.size<=i) (_:i<y2.heap.size)=>(show x12.heap[i]?=y2.heap[i]? by rw[hy2]))
      have HYS:=hid (show y2.heap.size<=x12.heap.size by rw[hy2];exact zB _)
      have HRS:=hid (hrn.size14 (Cn.fm_ok b0 d) HJ32.out);have HRA:=hid hrn.all14;have Kx12:=hid (Kx11.out.onto kx);have RBx12:=hid (rK RBx11.out kx);have HRY:=hid (λ(i:Nat) (h1:y1.heap.size<=i) (h2:i<y2.heap.size)=>(show i≠rb from λe=>by have:=zF RBx11.out;rw[hy1] at h1;omega))
      clear kx hrn hy1 hy2;refine hK.out _ _ Kx12.out (λhH=>?_)
      clear hK K;refine tkE (i:=5) 38 rfl hH ?_
      apply zH
      ·intro w9 _
       go_simp
       first|done|rfl
      simp only[sA,sB,sC];refine tkE (i:=6) 44 rfl hH ?_
      apply zH
      ·intro w9 _
       go_simp
       first|done|rfl
      simp only[sA,sB,sC];refine tkE (i:=7) 45 rfl hH ?_
      apply zH
      ·intro w9 _
       go_simp
       first|done|rfl
      simp only[sA,sB,sC];refine wpAnyH_ready (rs:=[9]) (by kernel_rfl) (by simp) ?_
      refine AllReadyH.cons rfl (λK hK=>?_) AllReadyH.nil
      rw[zG (by rfl)]
      refine Qau 56 _ _ rfl rfl rb RC rfl rfl 56 RZ RBx12.out (reraInfo HRS.out) (by rw[HRS.out,HRZ.out]) HRA.out ?_
      have HS:=setRow_heap x12 rb _ RC _ _ RBx12.out;have hkk:=Qak Kx12.out rb HRB.out RC;have hsz:x12.heap.size<=(x12.setRow rb RC).heap.size:=(Qa6 x12 rb RC).size;have hyy:=λ(i:Nat) (h1:y1.heap.size<=i) (h2:i<y2.heap.size)=>(Below.heap_setRow14 x12 rb RC i (HRY.out i h1 h2)).trans (HYY.out i h1 h2)
      generalize x12.setRow rb RC=u13 at HS hkk hsz hyy |-;refine hK.out _ _ hkk (λhH=>?_)
      clear hK K;refine tkE (i:=10) 11 rfl hH ?_
      apply zH
      ·intro w9 _
       go_simp
       first|done|rfl
      simp only[sA,sB,sC];refine wpAnyH_done (by kernel_rfl) ?_ _
      refine NoPanic.normal ?_;exact⟨rfl,rb,y1,y2,RC,rfl,KY1.out,HRN.out,hkk,Nat.le_trans HYS.out hsz,hyy,HS⟩
     refine AllReadyH.cons rfl (λK hK=>?_) AllReadyH.nil
     rw[zG (by rfl)]
     obtain⟨rb,hrb⟩:∃x,x=wd.heap.size:=⟨_,rfl⟩;have er:=Qdh wd;have ho:=Qaa wd (.cells RZ 56)
     rw[HRZE.out] at er;rw[<-hrb] at er ho;have hkk:Kept wd.heap.size wd.heap.size wd (wd.alloc (.cells RZ 56)):=zI.alloc (zB _) _
     have HRB:=hid (show x2.heap.size<=rb by rw[hrb];exact Kwd.out.size)
     generalize wd.alloc (.cells RZ 56)=x14 at er ho hkk
     refine Qa1 56 rfl (some 10) rfl _ er ?_
     simp only[Act.put,sA,sB,sC];have Kx14:=hid (Kwd.out.onto hkk);have RBx14:=hid ho;clear er ho hkk hrb;refine hK.out _ _ Kx14.out (λhH=>?_)
     clear hK K;refine wpAnyH_ready (rs:=[3]) (by kernel_rfl) (by simp) ?_
     refine AllReadyH.cons rfl (λK hK=>?_) AllReadyH.nil
     rw[zG (by rfl)]
     go_simp
     go_wp2_with (go_at_call 41;refine(HRM.out _).mono ?_;rintro e x15 ⟨rfl,kx⟩)
     have Kx15:=hid (Kx14.out.onto kx);have RBx15:=hid (rK RBx14.out kx);clear kx;refine hK.out _ _ Kx15.out (λhH=>?_)
     clear hK K;refine wpAnyH_ready (rs:=[4]) (by kernel_rfl) (by simp) ?_
     refine AllReadyH.cons rfl (λK hK=>?_) AllReadyH.nil
     rw[zG (by rfl)]
     go_simp
     go_wp2_with (go_at_call 40;refine(HEF.out _ (HT9.out.kept Kx15.out)).mono ?_;rintro e x16 ⟨RC,rfl,hrn⟩)
     have kx:=hrn.k14;obtain⟨y1,hy1⟩:∃x,x=x15:=⟨_,rfl⟩;obtain⟨y2,hy2⟩:∃x,x=x16:=⟨_,rfl⟩;have HRN:=hid (show RefNew y1 y2 RC (Cn.fm b0 d) Cn.gL Cn.gP (q:Int) (b0::jt) [] by rw[hy1,hy2];exact hrn)
     have KY1:=hid (show Kept x2.heap.size x2.heap.size x2 y1 by rw[hy1];exact Kx15.out)
     have HYY:=hid (λ(i:Nat) (_:y1.heap.size<=i) (_:i<y2.heap.size)=>(show x16.heap[i]?=y2.heap[i]? by rw[hy2]))
     have HYS:=hid (show y2.heap.size<=x16.heap.size by rw[hy2];exact zB _)
     have HRS:=hid (hrn.size14 (Cn.fm_ok b0 d) HJ32.out);have HRA:=hid hrn.all14;have Kx16:=hid (Kx15.out.onto kx);have RBx16:=hid (rK RBx15.out kx);have HRY:=hid (λ(i:Nat) (h1:y1.heap.size<=i) (h2:i<y2.heap.size)=>(show i≠rb from λe=>by have:=zF RBx15.out;rw[hy1] at h1;omega))
     clear kx hrn hy1 hy2;refine hK.out _ _ Kx16.out (λhH=>?_)
     clear hK K;refine tkE (i:=5) 38 rfl hH ?_
     apply zH
     ·intro w9 _
      go_simp
      first|done|rfl
     simp only[sA,sB,sC];refine tkE (i:=6) 44 rfl hH ?_
     apply zH
     ·intro w9 _
      go_simp
      first|done|rfl
     simp only[sA,sB,sC];refine tkE (i:=7) 45 rfl hH ?_
     apply zH
     ·intro w9 _
      go_simp
      first|done|rfl
     simp only[sA,sB,sC];refine wpAnyH_ready (rs:=[9]) (by kernel_rfl) (by simp) ?_
     refine AllReadyH.cons rfl (λK hK=>?_) AllReadyH.nil
     rw[zG (by rfl)]
     refine Qau 56 _ _ rfl rfl rb RC rfl rfl 56 RZ RBx16.out (reraInfo HRS.out) (by rw[HRS.out,HRZ.out]) HRA.out ?_
     have HS:=setRow_heap x16 rb _ RC _ _ RBx16.out;have hkk:=Qak Kx16.out rb HRB.out RC;have hsz:x16.heap.size<=(x16.setRow rb RC).heap.size:=(Qa6 x16 rb RC).size;have hyy:=λ(i:Nat) (h1:y1.heap.size<=i) (h2:i<y2.heap.size)=>(Below.heap_setRow14 x16 rb RC i (HRY.out i h1 h2)).trans (HYY.out i h1 h2)
     generalize x16.setRow rb RC=u17 at HS hkk hsz hyy |-;refine hK.out _ _ hkk (λhH=>?_)
     clear hK K;refine tkE (i:=10) 11 rfl hH ?_
     apply zH
     ·intro w9 _
      go_simp
      first|done|rfl
     simp only[sA,sB,sC];refine wpAnyH_done (by kernel_rfl) ?_ _
     refine NoPanic.normal ?_;exact⟨rfl,rb,y1,y2,RC,rfl,KY1.out,HRN.out,hkk,Nat.le_trans HYS.out hsz,hyy,HS⟩
    case rest=>
     rintro e a u ⟨rfl,rb,y1,y2,RC,rfl,ky1,hrn,ku,hys,hyy,hrb⟩;have KUZ:=hid ku;have RG8:=hid (rK HG.out.cells (KX2.out.onto ku));have HQL:=hid (show q<(gcells p R).length by rw[Qgs HG.out.len];have:=HQP.out;omega)
     have HRN:=hid hrn;have HKY:=hid ky1;have HYS:=hid hys;have HYY:=hid hyy;have HRB:=hid (show u.heap[rb]?=some (.cells RC 56 (0,0)) from hrb)
     have HRG:=hid (show rb≠gb from λe=>by rw[e] at hrb;have:=RG8.out;rw[this] at hrb;injection hrb with h9;injection h9 with _ h8;exact absurd h8 (by decide))
     clear ku hrn ky1 hys hyy hrb;have hq0:¬(q:Int)<0:=by omega
     have hq4:(q:Int)<4:=by have:=HQP.out;omega
     go_upto_region 8 with fail
     refine zA ?_;iterate 6(refine wW λK hK=>?_;go_simp;apply hK;clear hK K)
     refine @Qcd _ _ _ _ _ _ _ ?_ 40 _ _ rfl gb q (gcells p R) 59 (.pointer (some ⟨eb,0,none⟩)) rfl rfl RG8.out HQL.out rfl (by kernel_rfl) ?_;kernel_rfl
     simp only[Act.put];have HRS:=hid (HRN.out.size14 (Cn.fm_ok b0 d) HJ32.out);have HRA:=hid HRN.out.all14;have RGZ:=hid (Qaj RG8.out q (.pointer (some ⟨eb,0,none⟩)));have RBZ:=hid ((Below.heap_setCell u ⟨gb,q,none⟩ (.pointer (some ⟨eb,0,none⟩)) rb HRG.out).trans HRB.out);have hfz:=λ(i:Nat) (hi:i≠gb)=>Below.heap_setCell u ⟨gb,q,none⟩ (.pointer (some ⟨eb,0,none⟩)) i hi
     have HGR:=hid (λ(z1:World) (k9:Kept (u.setCell ⟨gb,q,none⟩ (.pointer (some ⟨eb,0,none⟩))).heap.size (u.setCell ⟨gb,q,none⟩ (.pointer (some ⟨eb,0,none⟩))).heap.size (u.setCell ⟨gb,q,none⟩ (.pointer (some ⟨eb,0,none⟩))) z1)=>(show ∃bs es cs ts p R,Gs w (z1.setCells gb (4+q*266) RC.toList) gb (Cn.fm b0 d) (b0::jt) q bs es cs ts p R from by
      have hq1:=hq.out.1;have hl:RC.toList.length=266:=HRS.out;rw[Nat.mul_comm q 266]
      revert k9
      rw[hq1];intro k9
      exact Gs.grow HG.out HLT3.out KX1.out (by rw[HNQ.out];exact HEN.out) HKY.out (by rw[HNQ.out];exact HRN.out) KUZ.out HYS.out HYY.out hl k9))
     generalize u.setCell ⟨gb,q,none⟩ (.pointer (some ⟨eb,0,none⟩))=zc at RGZ RBZ hfz HGR |-;have HFZC:=hid hfz;clear hfz
     go_upto_region 9 with fail
     refine wp_region_noPanic ?_;refine Qa9 6 (S:=λw'=>Kept zc.heap.size zc.heap.size zc w') (by kernel_rfl) (zI.drew) (λhH=>?_)
     have kd:Kept zc.heap.size zc.heap.size zc zc.drew:=zI.drew;obtain⟨zd,hzd⟩:∃x,x=zc.drew:=⟨_,rfl⟩;rw[<-hzd] at hH kd |-;clear hzd;have KZD:=hid kd;clear kd;refine tkH (i:=0) 52 rfl hH ?_
     apply zH
     ·intro w9 h9
      go_simp
      first|done|rfl
     simp only[sA,sB,sC];refine tkH (i:=1) 53 rfl hH ?_
     apply zH
     ·intro w9 h9
      go_simp
      first|done|rfl
     simp only[sA,sB,sC];refine tkT (i:=2) 54 (.agg RC) rfl (yK (by kernel_rfl) 56 _ rfl (rb) (0) rfl (.agg RC) (λx k=>run_loadVar_row x rb 56 56 _ (0,0) _ (rK RBZ.out k) Tryz.underlying56 rfl (reraInfo HRS.out))) hH ?_
     simp only[sA,sB,sC];refine Qa2 (i:=3) (by kernel_rfl) rfl (λK hK=>?_)
     rw[zG (by rfl)]
     go_simp;refine hK.out _ _ KZD.out (λhH=>?_)
     clear hK K;refine Qa2 (i:=4) (by kernel_rfl) rfl (λK hK=>?_)
     rw[zG (by rfl)]
     go_simp;refine hK.out _ _ KZD.out (λhH=>?_)
     clear hK K;refine tkH (i:=5) 57 rfl hH ?_
     apply zH
     ·intro w9 h9
      go_simp
      first|done|rfl
     simp only[sA,sB,sC];refine Qb4 (by kernel_rfl) rfl (λK hK=>?_)
     rw[zG (by rfl)]
     refine Qdj 56 _ _ rfl rfl gb (4+q*266) RC rfl rfl (Qeg (rK RGZ.out KZD.out) (o:=4+q*266) (n:=RC.size) (by rw[List.length_set,Qgs HG.out.len,HRS.out];have:=HQP.out;omega)) (reraInfo HRS.out) HRA.out ?_
     have hgr:=HGR.out _ KZD.out;refine hK.out _ _ ?_;clear hK K;refine Qb5 (by kernel_rfl) ?_ _
     refine NoPanic.normal ?_;clear hH
     (try simp only[List.toList_toArray])
     have ht9:=(HT9.out.kept KUZ.out);have hf9:=rK HF9.out KUZ.out;have hj9:=rK HJ9.out KUZ.out;have hall:=λ(i:Nat) {o:Obj} (hi:i≠gb) (h:u.heap[i]?=some o)=>(Qcv hi RC.toList (4+q*266) zd).trans (rK ((HFZC.out i hi).trans h) KZD.out)
     have HT10:=hid (show TrIs (zd.setCells gb (4+q*266) RC.toList) ga gp from⟨hall ga HNE.out.2.2.1 ht9.1,hall gp HNE.out.2.2.2 ht9.2⟩);have HF10:=hid (hall fb HNE.out.1 hf9);have HJ10:=hid (hall jb HNE.out.2.1 hj9);have HGN:=hid hgr;clear ht9 hf9 hj9 hall hgr;generalize zd.setCells gb (4+q*266) RC.toList=ze at HT10 HF10 HJ10 HGN |-;have hq9:(q:Int)+1<=4:=by have:=HQP.out;omega
     clear hq3 hq0 hq4;go_wp2
     go_roundw
     case rel=>
      obtain⟨bs2,es2,cs2,ts2,p2,R2,hg2⟩:=HGN.out;exact⟨q+1,q,by simp,hid ⟨rfl,HQP.out.2⟩,bs2,es2,cs2,ts2,p2,R2,hid hg2,HT10,HF10,HJ10⟩
     case measure=>have:=HQP.out;simp[RowKit.intOf];omega
   ·have hq3:¬(q:Int)<=3:=by have:=hq.out;omega
    have HN3:=hid (show n=3 by have:=hq.out;omega)
    clear hlt hq;go_wp2;refine bodyPost_ret (results_tmp rfl _ _ _) rfl ?_;exact⟨gb,rfl,bs,es,cs,ts,p,R,by have:=HG.out;rw[HN3.out] at this;exact this⟩
namespace Cn
def seeds (j:List UInt8)(i:Nat):List Sd:=[⟨0,0,Ky.app (Ky.key j [] 5) i⟩]
theorem seeds_good (j:List UInt8)(i:Nat):Pp.Good 8 (seeds j i):=⟨λs hs=>by rw[List.mem_singleton.1 hs];exact⟨Nat.zero_le _,by show(0:Nat)<2 ^ 0;decide,Ky.app_length _ _⟩,List.pairwise_singleton _ _⟩
theorem seeds_has (j:List UInt8)(i s:Nat)(hs:s<256):∃sd∈seeds j i,Pp.Has 8 sd s:=⟨_,List.mem_singleton.2 rfl,by
 unfold Pp.Has Pp.start Pp.stop;simp only
 omega⟩
theorem seeds_self (j:List UInt8)(i:Nat):∀sd∈seeds j i,sd.self.length=32:=λs hs=>by
 rw[List.mem_singleton.1 hs];exact Ky.app_length _ _
end Cn
section
variable {w:World} {base eb hi:Nat} {X:Nat->Prop} {y:Lay} {f:Fm} {P:List Pr} {me forks sent:Int} {ex:List UInt8} {S0:List Sd} {S:Nat->List Sd}
theorem EraSt.rowOf (h:EraSt w base eb hi X y f Cn.gL P me forks sent ex S0 S)(q:Nat)(hq:q=0\/q=2\/q=3):∃rb,y.R[q]?=some (some rb):=by
 have hq4:q<Cn.gL.length:=by rcases hq with rfl|rfl|rfl <;> decide
 have hl:q<y.R.length:=by rw[h.len];exact hq4
 have hn:¬(Cn.gL[q]'hq4).name=0:=by
  rcases hq with rfl|rfl|rfl
  ·show ¬(1:Int)=0;decide
  ·show ¬(2:Int)=0;decide
  ·show ¬(3:Int)=0;decide
 have hb:=h.blank q hq4;rw[List.getElem?_eq_getElem hl] at hb |-
 cases hr:y.R[q] with
 | none=>exact absurd (hb.1 (by rw[hr])) hn
 | some rb=>exact⟨rb,rfl⟩
end
theorem Qhd {w0 w x:World}{base eb:Nat}(k:Kept w0.heap.size w0.heap.size w0 w)(F:Frm (Out base eb) w x)(h:w0.heap.size<=base):Kept w0.heap.size w0.heap.size w0 x:=
 ⟨F.os.trans k.os,F.tape.trans k.tape,F.output.trans k.output,Nat.le_trans k.size F.size,λi hi _=>(F.block i (zC hi k.size) (.inl (zC hi h))).trans (k.block i hi (zD hi))⟩
theorem Qfl:Cn.gL.length<=1000/\Cn.gP.length<=1000:=⟨by decide,by decide⟩
theorem Qvh {w0 w:World}{gb:Nat}{b0:UInt8}{j:List UInt8}{bs es cs ts:Nat->Nat}{p:Nat->Value}{R:Nat->List Value}(h:Gs w0 w gb (Cn.fm b0 3) j 3 bs es cs ts p R)(hj:j.length=32)(tab:Tab2 w)(h0:1<w0.heap.size):
  Calls Tryz.prog 16 #[.pointer none,.pointer (some ⟨es 2,0,none⟩),.string ⟨#[97,98]⟩] w λe w'=>∃tx k,e=.returned (.tuple #[.agg (Nt.cells ⟨Cn.gid b0,3,2,0,tx⟩).toArray,.int .i64 0])/\tx=str (Pm.sealed k (Cn.head ⟨Cn.gid b0,3,2,0,tx⟩) [97,98])/\Pp.KeyAt 8 (Cn.seeds j 2) 0 k/\Frm (Out (bs 2) (es 2)) w w':=by
 obtain⟨y,e⟩:=h.era 2 (by decide) (by decide)
 obtain⟨o1,_⟩:=h.ord 2 (by decide) (by decide)
 have hl:=h.low;obtain⟨rb,hrb⟩:=e.rowOf 2 (by decide)
 have hpl:Tt.place Cn.gL Cn.gP 2=((2:Nat):Int):=Qlx 1 (by decide)
 have hp:=Qrw 0 w e (Cn.fm_ok b0 3) Qfl.1 Qfl.2 Qea tab (by omega) [97,98] (by decide) (by decide) 2 rb hpl (by decide) hrb (Cn.seeds_good j 2) (by show 1<1000000;decide) (Cn.seeds_has j 2 0 (by decide)) (λs hs=>by rw[List.mem_singleton.1 hs];show(Ky.key j [] 3).length=32;exact Ky.key_length hj _ _) (λi=>Cn.seeds_self j i) (by show(0:Int)<=3/\(3:Int)<=4611686018427387903;decide) ⟨by decide,by decide⟩
 refine hp.mono ?_;rintro e9 w' ⟨M,k,rfl,htk,_,hF⟩;exact⟨_,k,rfl,rfl,(Qid htk (by decide) (Cn.seeds_has j 2 0 (by decide))).2,hF⟩
theorem Qtf {w0 w x:World}{gb:Nat}{b0:UInt8}{j:List UInt8}{bs es cs ts:Nat->Nat}{p:Nat->Value}{R:Nat->List Value}(h:Gs w0 w gb (Cn.fm b0 3) j 3 bs es cs ts p R)(hj:j.length=32)(F:Frm (Out (bs 2) (es 2)) w x)(tab:Tab x)(tx:ByteArray)(k:List UInt8)(htx:tx=str (Pm.sealed k (Cn.head ⟨Cn.gid b0,3,2,0,tx⟩) [97,98]))(hka:Pp.KeyAt 8 (Cn.seeds j 2) 0 k):
  Calls Tryz.prog 17 #[.pointer none,.pointer (some ⟨es 3,0,none⟩),.agg (Nt.cells ⟨Cn.gid b0,3,2,0,tx⟩).toArray] x λe w'=>e=.returned (.tuple #[.string ⟨#[97,98]⟩,.int .i64 0])/\Frm (Out (bs 3) (es 3)) x w' /\
   ∀z,Kept w'.heap.size w'.heap.size w' z->Calls Tryz.prog 17 #[.pointer none,.pointer (some ⟨es 3,0,none⟩),.agg (Nt.cells ⟨Cn.gid b0,3,2,0,tx⟩).toArray] z λe z'=>e=.returned (.tuple #[.string ⟨#[]⟩,.int .i64 11])/\Kept z.heap.size z.heap.size z z':=by
 obtain⟨y,e⟩:=h.era 3 (by decide) (by decide)
 obtain⟨_,q1,q2,_⟩:=h.ord 2 (by decide) (by decide)
 have q3:=h.next 2 (by decide) (by decide)
 have q3:ts 2<=bs 3:=q3;have ex:=e.far F.size (λi hi hb hq=>F.block i hi (.inr (by rcases hq with hq|⟨_,hq⟩ <;> omega)))
 obtain⟨rb,hrb⟩:=ex.rowOf 2 (by decide)
 have hpl:Tt.place Cn.gL Cn.gP 2=((2:Nat):Int):=Qlx 1 (by decide)
 have hk:k.length=32:=by
  obtain⟨sd,_,_,h3⟩:=hka;rw[h3];exact Qaw _
 have hsz:tx.size=18:=by rw[htx,Qai,Pm.sealed_length];rfl
 have hr:Cn.right ⟨Cn.gid b0,3,2,0,tx⟩=true:=Cn.right_iff.2 ⟨⟨by simp,by simp⟩,⟨by simp,by simp⟩,⟨by simp,by simp⟩,by simp only[hsz];decide⟩
 have hu:=Qml x ex (Cn.fm_ok b0 3) Qfl.1 Qfl.2 Qea ⟨Cn.gid b0,3,2,0,tx⟩ hr rfl rfl (by show(2:Int)≠3;decide) 2 rb 0 hpl (by decide) hrb (Cn.seeds_good j 2) (by show 1<1000000;decide) rfl (λs hs=>by rw[List.mem_singleton.1 hs];show(Ky.key j [] 3).length=32;exact Ky.key_length hj _ _) (λi=>Cn.seeds_self j i) tab k hka [97,98] (by decide) htx
 refine hu.mono ?_;rintro e9 w' ⟨M,rfl,htk,ew,hF⟩;refine⟨rfl,hF,λz kz=>?_⟩
 have ez:=ew.kept kz;have hgd:=htk.good (Cn.seeds_good j 2);have hput:putS (Cn.seeds j) 2 M 2=M:=by rw[putS,zG rfl]
 exact Qj7 z ez (Cn.fm_ok b0 3) Qfl.1 Qfl.2 Qea ⟨Cn.gid b0,3,2,0,tx⟩ hr rfl rfl (by show(2:Int)≠3;decide) 2 rb 0 hpl (by decide) hrb (by show Pp.Good 8 (putS (Cn.seeds j) 2 M 2);rw[hput];exact hgd.1) (by show(putS (Cn.seeds j) 2 M 2).length<1000000;rw[hput];have:=hgd.2;have h1:(Cn.seeds j 2).length=1:=rfl;have h2:M.length<=(Cn.seeds j 2).length+8:=this;omega) rfl (by show ∀sd∈putS (Cn.seeds j) 2 M 2,¬Pp.Has 8 sd 0;rw[hput];exact htk.mine (Cn.seeds_good j 2) (by decide))
theorem Qk3 {w:World}{g o:Nat}{a:Option Addr}(h:w.cell? ⟨g,o,none⟩=some (.pointer a)):(loadVar 40 ⟨g,o,none⟩).run Tryz.prog w=.ok (.pointer a) w:=by
 go_simp
theorem Qvb (w:World):(Instr.build 23 #[(0,.int .u8 1)]).run Tryz.prog w=.ok (.agg (bY (1::List.replicate 31 0)).toArray) w:=by kernel_rfl
theorem Qme (w:World)(tab:Tab2 w):Calls Tryz.prog 6 #[] w λe w'=>e=.returned (.bool true)/\Kept w.heap.size w.heap.size w w':=by
 have hbj:=λ(x:World)=>Qvb x
 have hgc:=Ql4 1 (List.replicate 31 0) rfl 3 ⟨by decide,by decide⟩ w tab.t
 obtain⟨j,hj⟩:∃x:List UInt8,x=1::List.replicate 31 0:=⟨_,rfl⟩;have HJL:=hid (show j.length=32 by rw[hj];rfl)
 rw[<-hj] at hgc hbj;obtain⟨J,hJ⟩:∃x,x=(bY j).toArray:=⟨_,rfl⟩;rw[<-hJ] at hgc hbj;have HBJ:=hid hbj;have HGC:=hid hgc;have HTB:=hid tab;clear hbj hgc hj hJ tab
 go_enter Tryz.func6,Tryz.ntmps6
 go_upto_region 1 with fail
 refine zA ?_;refine @Qcl _ _ _ _ _ _ _ ?_ 23 _ rfl (.int .u8 1) (.agg J) rfl (HBJ.out _) ?_;kernel_rfl
 simp only[Act.put,sA,sB,sC];refine wW λK hK=>?_;go_simp;go_at_call 15
 refine(HGC.out).mono ?_;rintro e w2 ⟨gb,rfl,bs,es,cs,ts,p,R,hg⟩;have HG:=hid hg;obtain⟨e2,he2⟩:∃x,x=es 2:=⟨_,rfl⟩;obtain⟨e3,he3⟩:∃x,x=es 3:=⟨_,rfl⟩;have HE2:=hid he2;have HE3:=hid he3;have K2:=hid hg.kept;clear hg he2 he3;apply hK;clear hK K;refine wW λK hK=>?_;go_simp;apply hK;clear hK K
 have HPE:=hid (λ(z:World) (k:Kept w2.heap.size w2.heap.size w2 z)=>(show(loadVar 40 ⟨gb,2,none⟩).run Tryz.prog z=.ok (.pointer (some ⟨e2,0,none⟩)) z from Qk3 (by
  have h:=Qag (j:=2) (v:=p 2) (rK HG.out.cells k) rfl
  rw[h,HG.out.ptr 2 (by decide) (by decide),HE2.out])))
 have HSAY:=hid (Qvh HG.out HJL.out (HTB.out.kept HG.out.kept) HTB.out.lt);have HHEAR:=hid (λ(x:World) (F:Frm (Out (bs 2) (es 2)) w2 x) (tx:ByteArray) (k:List UInt8) (htx:tx=str (Pm.sealed k (Cn.head ⟨Cn.gid 1,3,2,0,tx⟩) [97,98])) (hka:Pp.KeyAt 8 (Cn.seeds j 2) 0 k)=>Qtf HG.out HJL.out F (HTB.out.t.onto11 (Qhd HG.out.kept F (Nat.le_of_lt (Nat.lt_of_le_of_lt HG.out.low (HG.out.ord 2 (by decide) (by decide)).1)))) tx k htx hka)
 rw[<-HE2.out] at HSAY;simp only[<-HE3.out,<-HE2.out] at HHEAR
 go_upto_region 2 with fail
 refine zA ?_;iterate 4(refine wW λK hK=>?_;go_simp;apply hK;clear hK K)
 refine wLk 40 (.tmp 14) rfl (gb) (2) rfl (.pointer (some ⟨e2,0,none⟩)) (HPE.out _ zI) ?_
 simp only[Act.put,sA,sB,sC];refine wW λK hK=>?_;go_simp;go_at_call 16
 refine(HSAY.out).mono ?_;rintro e w3 ⟨tx,k,rfl,htx,hka,hF⟩;have HTX:=hid htx;have HKA:=hid hka;have HF3:=hid hF;have HTS:=hid (show(tx.size:Int)=18 by rw[htx,Qai,Pm.sealed_length];rfl)
 have HNC:=hid (λ(x:World) (nb:Nat) (h:x.heap[nb]?=some (.cells (Nt.cells ⟨Cn.gid 1,3,2,0,tx⟩).toArray 25 (0,0)))=>Qbj (n:=⟨Cn.gid 1,3,2,0,tx⟩) rfl h)
 have HNL:=hid (λ(x:World) (nb:Nat) (h:x.heap[nb]?=some (.cells (Nt.cells ⟨Cn.gid 1,3,2,0,tx⟩).toArray 25 (0,0)))=>Qbu (n:=⟨Cn.gid 1,3,2,0,tx⟩) rfl h)
 have HND:=hid (Nt.size (n:=⟨Cn.gid 1,3,2,0,tx⟩) rfl);have HNA:=hid (Nt.all ⟨Cn.gid 1,3,2,0,tx⟩);have HHE:=hid (λ(x:World) (F:Frm (Out (bs 2) e2) w2 x)=>HHEAR.out x F tx k HTX.out HKA.out)
 obtain⟨ND,hND⟩:∃x,x=(Nt.cells ⟨Cn.gid 1,3,2,0,tx⟩).toArray:=⟨_,rfl⟩;rw[<-hND] at HNC HNL HND HNA HHE |-
 have HPE3:=hid (λ(z:World) (hz:z.heap[gb]?=w2.heap[gb]?)=>(show(loadVar 40 ⟨gb,3,none⟩).run Tryz.prog z=.ok (.pointer (some ⟨e3,0,none⟩)) z from Qk3 (by
  have h:=Qag (j:=3) (v:=p 3) (hz.trans HG.out.cells) rfl
  rw[h,HG.out.ptr 3 (by decide) (by decide),HE3.out])))
 have HGF:=hid (hF.block gb (zF HG.out.cells) (.inl (HG.out.ord 2 (by decide) (by decide)).1))
 have K3:=hid (Qhd K2.out hF (Nat.le_of_lt (Nat.lt_of_le_of_lt HG.out.low (HG.out.ord 2 (by decide) (by decide)).1)))
 have HE3B:=hid (show es 3<w3.heap.size from by
  have:=(HG.out.ord 3 (by decide) (by decide))
  have:=hF.size
  omega)
 clear htx hka hF hND;apply hK;clear hK K;iterate 3(refine wW λK hK=>?_;go_simp;apply hK;clear hK K)
 refine @Qas _ _ _ _ _ _ _ _ ?_ 25 rfl _ (Qbr _) ?_;kernel_rfl
 simp only[Act.put,sA,sB,sC];refine wpList_store_row rfl 25 _ _ rfl (w3.heap.size) ND rfl rfl 25 Nt.zero.cells.toArray (Qaa _ _) (noteInfo HND.out) (by rw[HND.out];exact Nt.size rfl) (HNA.out) ?_
 simp only[Act.put];rw[World.setRow_alloc_new];refine wW λK hK=>?_;go_simp;apply hK;clear hK K;have k4:Kept w3.heap.size w3.heap.size w3 (w3.alloc (.cells ND 25)):=zI.alloc (zB _) _
 have r4:=Qaa w3 (.cells ND 25)
 generalize w3.alloc (.cells ND 25)=w4 at k4 r4 |-
 obtain⟨nb,hnb⟩:∃x,x=w3.heap.size:=⟨_,rfl⟩;rw[<-hnb] at r4
 (try rw[<-hnb])
 have HNB:=hid (show e3<nb from by rw[hnb,HE3.out];exact HE3B.out)
 have RN:=hid r4;have K34:=hid k4;have HG4:=hid ((k4.block gb (zC (zF HG.out.cells) HF3.out.size) (zD (zC (zF HG.out.cells) HF3.out.size))).trans HGF.out);have K4:=hid (K3.out.onto k4);have HF4:=hid (HF3.out.trans k4.fr);clear k4 r4 hnb
 go_upto_region 3 with fail
 refine wp_region_noPanic ?_;refine wp_region_held_drew (S:=λx=>x.heap[gb]?=w2.heap[gb]?/\x.heap[nb]?=some (.cells ND 25 (0,0))) (by kernel_rfl) (⟨HG4.out,RN.out⟩) (λhH=>?_)
 refine tkE (i:=0) 20 rfl hH ?_
 apply zH
 ·intro w9 _
  go_simp
  first|done|rfl
 simp only[sA,sB,sC];refine tkE (i:=1) 21 rfl hH ?_
 apply zH
 ·intro w9 _
  go_simp
  first|done|rfl
 simp only[sA,sB,sC];refine tkE (i:=2) 22 rfl hH ?_
 apply zH
 ·intro w9 _
  go_simp
  first|done|rfl
 simp only[sA,sB,sC];refine tkE (i:=3) 23 rfl hH ?_
 apply zH
 ·intro w9 _
  go_simp
  first|done|rfl
 simp only[sA,sB,sC];refine tkA (i:=4) 24 (.pointer (some ⟨e3,0,none⟩)) rfl (yK (by kernel_rfl) 40 _ rfl (gb) (3) rfl (.pointer (some ⟨e3,0,none⟩)) (λx k=>HPE3.out x k.1)) hH ?_
 simp only[sA,sB,sC];refine tkA (i:=5) 25 (.agg ND) rfl (yK (by kernel_rfl) 25 _ rfl (nb) (0) rfl (.agg ND) (λx k=>HNL.out x nb k.2)) hH ?_
 simp only[sA,sB,sC];refine wpAnyH_ready (rs:=[6]) (by kernel_rfl) (by simp) ?_
 refine AllReadyH.cons rfl (λK hK=>?_) AllReadyH.nil
 rw[zG (by rfl)]
 go_simp
 go_wp2_with (go_at_call 17;refine(HHE.out _ (HF4.out.trans (Kept.refl w4.heap.size w4.heap.size w4).drew.fr)).mono ?_;rintro e w5 ⟨rfl,hF5,hag⟩)
 have f5:Frm (Out (bs 3) e3) w4 w5:=(Kept.refl w4.heap.size w4.heap.size w4).drew.fr.trans hF5;have HF5:=hid f5;have HAG:=hid hag;clear hF5 hag;have hnn:=(f5.block nb (zF RN.out) (.inr HNB.out)).trans RN.out;have hgg:=(f5.block gb (by have:=HG4.out;exact zF (this.trans HG.out.cells)) (.inl (HG.out.ord 3 (by decide) (by decide)).1)).trans HG4.out
 refine hK.out _ _ ⟨hgg,hnn⟩ (λhH=>?_)
 clear hK K;refine tkE (i:=7) 19 rfl hH ?_
 apply zH
 ·intro w9 _
  go_simp
  first|done|rfl
 simp only[sA,sB,sC];refine tkE (i:=8) 27 rfl hH ?_
 apply zH
 ·intro w9 _
  go_simp
  first|done|rfl
 simp only[sA,sB,sC];refine tkE (i:=10) 4 rfl hH ?_
 apply zH
 ·intro w9 _
  go_simp
  first|done|rfl
 simp only[sA,sB,sC];refine tkE (i:=9) 28 rfl hH ?_
 apply zH
 ·intro w9 _
  go_simp
  first|done|rfl
 simp only[sA,sB,sC];refine tkE (i:=11) 5 rfl hH ?_
 apply zH
 ·intro w9 _
  go_simp
  first|done|rfl
 simp only[sA,sB,sC];refine wpAnyH_done (by kernel_rfl) ?_ _
 refine NoPanic.normal ?_;have RN5:=hid hnn;have HG5:=hid hgg;have K5:=hid (Qhd K4.out f5 (Nat.le_of_lt (Nat.lt_of_le_of_lt HG.out.low (HG.out.ord 3 (by decide) (by decide)).1)))
 clear hnn hgg f5;have HL5:=hid (show gb<w5.heap.size/\True from⟨by have:=HG5.out;exact zF (this.trans HG.out.cells),trivial⟩)
 go_upto_region 4 with fail
 refine wp_region_noPanic ?_;refine wp_region_held_drew (S:=λw'=>Kept w5.heap.size w5.heap.size w5 w') (by kernel_rfl) (zI.drew) (λhH=>?_)
 refine tkE (i:=0) 30 rfl hH ?_
 apply zH
 ·intro w9 _
  go_simp
  first|done|rfl
 simp only[sA,sB,sC];refine tkE (i:=1) 31 rfl hH ?_
 apply zH
 ·intro w9 _
  go_simp
  first|done|rfl
 simp only[sA,sB,sC];refine tkE (i:=2) 32 rfl hH ?_
 apply zH
 ·intro w9 _
  go_simp
  first|done|rfl
 simp only[sA,sB,sC];refine tkE (i:=3) 33 rfl hH ?_
 apply zH
 ·intro w9 _
  go_simp
  first|done|rfl
 simp only[sA,sB,sC];refine tkA (i:=4) 34 (.pointer (some ⟨e3,0,none⟩)) rfl (yK (by kernel_rfl) 40 _ rfl (gb) (3) rfl (.pointer (some ⟨e3,0,none⟩)) (λx k=>HPE3.out x ((k.block gb HL5.out.1 (zD HL5.out.1)).trans HG5.out))) hH ?_
 simp only[sA,sB,sC];refine tkA (i:=5) 35 (.agg ND) rfl (yK (by kernel_rfl) 25 _ rfl (nb) (0) rfl (.agg ND) (λx k=>HNL.out x nb (rK RN5.out k))) hH ?_
 simp only[sA,sB,sC];refine wpAnyH_ready (rs:=[6]) (by kernel_rfl) (by simp) ?_
 refine AllReadyH.cons rfl (λK hK=>?_) AllReadyH.nil
 rw[zG (by rfl)]
 go_simp
 go_wp2_with (go_at_call 17;refine(HAG.out _ (Kept.refl w5.heap.size w5.heap.size w5).drew).mono ?_;rintro e w6 ⟨rfl,k6⟩)
 have X6:Kept w5.heap.size w5.heap.size w5 w6:=(Kept.refl w5.heap.size w5.heap.size w5).drew.onto k6;clear k6;refine hK.out _ _ X6 (λhH=>?_)
 clear hK K;refine tkE (i:=7) 29 rfl hH ?_
 apply zH
 ·intro w9 _
  go_simp
  first|done|rfl
 simp only[sA,sB,sC];refine tkE (i:=8) 37 rfl hH ?_
 apply zH
 ·intro w9 _
  go_simp
  first|done|rfl
 simp only[sA,sB,sC];refine tkE (i:=10) 6 rfl hH ?_
 apply zH
 ·intro w9 _
  go_simp
  first|done|rfl
 simp only[sA,sB,sC];refine tkE (i:=9) 38 rfl hH ?_
 apply zH
 ·intro w9 _
  go_simp
  first|done|rfl
 simp only[sA,sB,sC];refine tkE (i:=11) 7 rfl hH ?_
 apply zH
 ·intro w9 _
  go_simp
  first|done|rfl
 simp only[sA,sB,sC];refine wpAnyH_done (by kernel_rfl) ?_ _
 refine NoPanic.normal ?_;have K9:=hid (Kept.refl w6.heap.size w6.heap.size w6);have K6:=hid (K5.out.onto X6);have R6:=hid (rK RN5.out X6);have HC34:=hid (λ(x:World) (k:Kept w6.heap.size w6.heap.size w6 x)=>(HNC.out x nb (rK R6.out k)).2.2.1)
 have HC35:=hid (λ(x:World) (k:Kept w6.heap.size w6.heap.size w6 x)=>(HNC.out x nb (rK R6.out k)).2.2.2)
 clear X6;have c34:=HC34.out _ K9.out;have c35:=HC35.out _ K9.out;have hts:(tx.size:Int)=18:=HTS.out;have hne:(tx.size:Int) == 18:=by rw[hts];rfl
 go_wp2;refine bodyPost_ret (results_tmp rfl _ _ _) rfl ?_;exact⟨rfl,K6.out⟩
end Go.Proofs.YtnlbgggnpoeleaaGreatDoor
