/-
 KeyMake; KeyRefMake: several texts in one.
-/
import Derived.Test.YtnlbgggnpoeleaaGreatDoorKB
set_option maxRecDepth 100000
set_option maxHeartbeats 6400000
namespace Go.Proofs.YtnlbgggnpoeleaaGreatDoor
open Go.RowKit Go.Lib
open List renaming setIfInBounds_toArray -> sA, set_cons_zero -> sB, set_cons_succ -> sC
open BigFrame renaming wpList_want -> wQ
namespace Ky
def steps (sb:Nat)(c:ByteArray):Array Value:=(([0,1,2,3,4,5]:List Nat).flatMap λi=>[Value.pointer (some ⟨sb,32*src i,none⟩),.string (lab i),.string (cx c i),.pointer (some ⟨sb,32*(i+1),none⟩)]).toArray
def zstep:Array Value:=#[.pointer none,.string ⟨#[]⟩,.string ⟨#[]⟩,.pointer none]
end Ky
theorem Qdf (sb a b:Nat)(l c:ByteArray)(w:World):(Instr.build 131 #[(0,.pointer (some ⟨sb,a,none⟩)),(1,.string l),(2,.string c),(3,.pointer (some ⟨sb,b,none⟩))]).run Tryz.prog w=.ok (.agg #[.pointer (some ⟨sb,a,none⟩),.string l,.string c,.pointer (some ⟨sb,b,none⟩)]) w:=by kernel_rfl
theorem Qp0 (sb:Nat)(c:ByteArray)(w:World):(Instr.build 132 #[(0,.agg #[.pointer (some ⟨sb,0,none⟩),.string ⟨#[119,101,108,99,111,109,101]⟩,.string ⟨#[]⟩,.pointer (some ⟨sb,32,none⟩)]),(1,.agg #[.pointer (some ⟨sb,0,none⟩),.string ⟨#[101,112,111,99,104]⟩,.string c,.pointer (some ⟨sb,64,none⟩)]),(2,.agg #[.pointer (some ⟨sb,64,none⟩),.string ⟨#[105,110,105,116]⟩,.string ⟨#[]⟩,.pointer (some ⟨sb,96,none⟩)]),(3,.agg #[.pointer (some ⟨sb,64,none⟩),.string ⟨#[99,111,110,102,105,114,109]⟩,.string ⟨#[]⟩,.pointer (some ⟨sb,128,none⟩)]),(4,.agg #[.pointer (some ⟨sb,64,none⟩),.string ⟨#[97,112,112,115]⟩,.string ⟨#[]⟩,.pointer (some ⟨sb,160,none⟩)]),(5,.agg #[.pointer (some ⟨sb,64,none⟩),.string ⟨#[101,120,112,111,114,116]⟩,.string ⟨#[]⟩,.pointer (some ⟨sb,192,none⟩)])]).run Tryz.prog w=.ok (.agg (Ky.steps sb c)) w:=by kernel_rfl
theorem Qpk (sb:Nat)(c:ByteArray):∀(i:Nat) (_:i<6) (w:World),(Instr.index 132 (.agg (Ky.steps sb c)) (.int .i64 (i:Int))).run Tryz.prog w=.ok (.agg #[.pointer (some ⟨sb,32*Ky.src i,none⟩),.string (Ky.lab i),.string (Ky.cx c i),.pointer (some ⟨sb,32*(i+1),none⟩)]) w
 | 0,_,_=>by kernel_rfl
 | 1,_,_=>by kernel_rfl
 | 2,_,_=>by kernel_rfl
 | 3,_,_=>by kernel_rfl
 | 4,_,_=>by kernel_rfl
 | 5,_,_=>by kernel_rfl
theorem Qth (w:World):(Instr.alloc 131 true (.tuple #[])).run Tryz.prog w=.ok (.pointer (some ⟨w.heap.size,0,none⟩)) (w.alloc (.cells Ky.zstep 131)):=by kernel_rfl
theorem stepInfo (a b c d:Value):(Tryz.prog.info? 131).map (·.size)=some (#[a,b,c,d]:Array Value).size:=by kernel_rfl
theorem Qta (j c:List UInt8)(hj:j.length=32)(w:World):(Instr.build 86 #[(0,.agg (bY j).toArray)]).run Tryz.prog w=.ok (.agg (bY (Ky.flat j c 0)).toArray) w:=by
 revert j
 refine Qc2 ?_
 intros
 kernel_rfl
theorem Qri {w:World}{b:Nat}{a1 a2 a3 a4:Value}{t:TypeId}(h:w.heap[b]?=some (.cells #[a1,a2,a3,a4] t (0,0))):w.cell? ⟨b,0,none⟩=some a1/\w.cell? ⟨b,1,none⟩=some a2/\w.cell? ⟨b,2,none⟩=some a3/\w.cell? ⟨b,3,none⟩=some a4:=by
 simp[World.cell?,h]
theorem Qsd (p:Option Addr)(j:List UInt8)(hj:j.length=32)(cc:ByteArray)(w:World)(I:Nat->World->Prop)
  (h0:∀x,Kept w.heap.size w.heap.size w x->I 0 x)
  (hkp:∀i x x',I i x->Kept x.heap.size x.heap.size x x'->I i x')
  (hst:∀i (x:World) g k vs cs,I i x->w.heap.size<=g->x.heap[g]?=some (.cells cs 86 (0,0))->I i (x.setCells g k vs))
  (hsr:∀i (x:World) g vs cs,I i x->w.heap.size<=g->x.heap[g]?=some (.cells cs 86 (0,0))->I i (x.setRow g vs))
  (hdv:∀i,i<6->∀x,I i x->Calls Tryz.prog 70 #[.pointer p,.agg (bY (Ky.key j cc.data.toList (Ky.src i))).toArray,.string (Ky.lab i),.string (Ky.cx cc i)] x λe w'=>e=.returned (.agg (bY (Ky.key j cc.data.toList (i+1))).toArray)/\I (i+1) w'/\∀(g:Nat) (cs:Array Value) (t:TypeId) (fr:Nat × Nat),x.heap[g]?=some (.cells cs t fr)->t=86\/t=131->w'.heap[g]?=some (.cells cs t fr)) :
  Calls Tryz.prog 39 #[.pointer p,.agg (bY j).toArray,.string cc] w λe w'=>e=.returned (.agg (bY (Ky.secs j cc.data.toList)).toArray)/\I 6 w':=by
 obtain⟨c,hc⟩:∃c,c=cc.data.toList:=⟨_,rfl⟩;rw[<-hc] at hdv |-;clear hc;have HJ:=hid hj;have HH0:=hid h0;have HHK:=hid hkp;have HHS:=hid hst;have HHR:=hid hsr;have HD:=hid hdv;have HLD:=hid (λ(u:World) (b:Nat) (h:u.heap[b]?=some (.cells (bY j).toArray 23 (0,0)))=>Qje hj h)
 have HB0:=hid (λu=>Qta j c hj u)
 have HI0:=hid (secInfo (Ky.flat_len hj c 0));have HZ0:=hid (secSize (Ky.flat_len hj c 0));have HA0:=hid (Qae (Ky.flat j c 0));have HIF:=hid (secInfo (Ky.flat_len hj c 6));have HZF:=hid (secSize (Ky.flat_len hj c 6));have HAF:=hid (Qae (Ky.flat j c 6));have HLS:=hid (λ(u:World) (b:Nat) (h:u.heap[b]?=some (.cells (bY (Ky.flat j c 6)).toArray 86 (0,0)))=>Qur (Ky.flat_len hj c 6) h)
 obtain⟨fu,hfu⟩:∃t,t=(bY (Ky.flat j c 6)).toArray:=⟨_,rfl⟩;have HFU:Hid (fu=(bY (Ky.st j c 6).flatten).toArray):=hid hfu;rw[<-hfu] at HIF HZF HAF HLS;rw[show(bY (Ky.secs j c)).toArray=fu from hfu.symm];obtain⟨f0,hf0⟩:∃t,t=(bY (Ky.flat j c 0)).toArray:=⟨_,rfl⟩;have HF0:Hid (f0=(bY (Ky.st j c 0).flatten).toArray):=hid hf0;rw[<-hf0] at HB0 HI0 HZ0 HA0;obtain⟨kc,hkc⟩:∃t,t=(bY j).toArray:=⟨_,rfl⟩;rw[<-hkc] at HLD HB0 |-;clear hj h0 hkp hst hsr hdv hfu hf0 hkc
 go_enter Tryz.func39,Tryz.ntmps39
 go_upto_region 0 with fail
 refine zA ?_;refine wW λK hK=>?_;go_simp;apply hK;clear hK K;have kn:Kept w.heap.size w.heap.size w (w.alloc (.cells kc 23)):=zI.alloc (zB _) _
 have rpb:=Qaa w (.cells kc 23)
 have Kw1:=kn;generalize w.alloc (.cells kc 23)=w1 at kn rpb Kw1  |-
 obtain⟨pb,hpb⟩:∃n,n=w.heap.size:=⟨_,rfl⟩;rw[<-hpb] at rpb
 (try rw[<-hpb])
 clear hpb kn;refine @Qas _ _ _ _ _ _ _ _ ?_ 86 rfl _ (Qlg _) ?_;kernel_rfl
 simp only[Act.put,sA,sB,sC];have kn:Kept w1.heap.size w1.heap.size w1 (w1.alloc (.cells Qba 86)):=zI.alloc (zB _) _
 have rrb:=Qaa w1 (.cells Qba 86)
 replace rpb:=rK rpb kn
 have Kw2:=Kw1.onto kn;have HRB:Hid (w.heap.size<=w1.heap.size):=hid (Kw1.size);generalize w1.alloc (.cells Qba 86)=w2 at kn rrb Kw2 rpb |-
 obtain⟨rb,hrb⟩:∃n,n=w1.heap.size:=⟨_,rfl⟩;rw[<-hrb] at rrb HRB
 (try rw[<-hrb])
 clear hrb kn Kw1;have Rpb:=hid rpb;clear rpb;have Rrb:=hid rrb;clear rrb;have KW:=hid Kw2;clear Kw2
 go_upto_region 1 with fail
 refine zA ?_;refine wLk 23 (.tmp 4) rfl (pb) (0) rfl (.agg kc) (HLD.out _ _ Rpb.out) ?_
 simp only[Act.put,sA,sB,sC];refine @Qbw _ _ _ _ _ _ _ ?_ 86 _ rfl #[(0,.agg kc)] (by simp only[List.map_toArray,List.map_cons,List.map_nil];rfl) _ (HB0.out _) ?_;kernel_rfl
 simp only[Act.put,sA,sB,sC];refine @Qas _ _ _ _ _ _ _ _ ?_ 86 rfl _ (Qlg _) ?_;kernel_rfl
 simp only[Act.put,sA,sB,sC];refine wpList_store_row rfl 86 _ _ rfl (w2.heap.size) f0 rfl rfl 86 Qba (Qaa _ _) (HI0.out) (HZ0.out) (HA0.out) ?_
 simp only[Act.put];rw[World.setRow_alloc_new];have kb:Kept w2.heap.size w2.heap.size w2 (w2.alloc (.cells f0 86)):=zI.alloc (zB _) _
 have r3:=Qaa w2 (.cells f0 86)
 have R3:Hid ((w2.alloc (.cells f0 86)).heap[rb]?=some (.cells Qba 86 (0,0))):=hid (rK Rrb.out kb)
 have NSB:Hid (rb≠w2.heap.size):=hid (zD (zF Rrb.out));have HSB:Hid (w.heap.size<=w2.heap.size):=hid KW.out.size;have I3:=hid (HH0.out _ (KW.out.onto kb));clear kb Rpb KW;clear Rrb;generalize w2.alloc (.cells f0 86)=w3 at r3 R3 I3 |-
 generalize w2.heap.size=sb at r3 NSB HSB |-;have S3:=hid (HF0.out ▸ r3);clear r3
 go_upto_region 2 with fail
 refine zA ?_;iterate 2(refine wW λK hK=>?_;go_simp;apply hK;clear hK K)
 refine @Qbw _ _ _ _ _ _ _ ?_ 131 _ rfl #[(0,.pointer (some ⟨sb,0,none⟩)),(1,.string ⟨#[119,101,108,99,111,109,101]⟩),(2,.string ⟨#[]⟩),(3,.pointer (some ⟨sb,32,none⟩))] (by simp only[List.map_toArray,List.map_cons,List.map_nil];rfl) _ (Qdf _ _ _ _ _ _) ?_;kernel_rfl
 simp only[Act.put,sA,sB,sC];iterate 3(refine wW λK hK=>?_;go_simp;apply hK;clear hK K)
 refine @Qbw _ _ _ _ _ _ _ ?_ 131 _ rfl #[(0,.pointer (some ⟨sb,0,none⟩)),(1,.string ⟨#[101,112,111,99,104]⟩),(2,.string cc),(3,.pointer (some ⟨sb,64,none⟩))] (by simp only[List.map_toArray,List.map_cons,List.map_nil];rfl) _ (Qdf _ _ _ _ _ _) ?_;kernel_rfl
 simp only[Act.put,sA,sB,sC];iterate 2(refine wW λK hK=>?_;go_simp;apply hK;clear hK K)
 refine @Qbw _ _ _ _ _ _ _ ?_ 131 _ rfl #[(0,.pointer (some ⟨sb,64,none⟩)),(1,.string ⟨#[105,110,105,116]⟩),(2,.string ⟨#[]⟩),(3,.pointer (some ⟨sb,96,none⟩))] (by simp only[List.map_toArray,List.map_cons,List.map_nil];rfl) _ (Qdf _ _ _ _ _ _) ?_;kernel_rfl
 simp only[Act.put,sA,sB,sC];iterate 2(refine wW λK hK=>?_;go_simp;apply hK;clear hK K)
 refine @Qbw _ _ _ _ _ _ _ ?_ 131 _ rfl #[(0,.pointer (some ⟨sb,64,none⟩)),(1,.string ⟨#[99,111,110,102,105,114,109]⟩),(2,.string ⟨#[]⟩),(3,.pointer (some ⟨sb,128,none⟩))] (by simp only[List.map_toArray,List.map_cons,List.map_nil];rfl) _ (Qdf _ _ _ _ _ _) ?_;kernel_rfl
 simp only[Act.put,sA,sB,sC];iterate 2(refine wW λK hK=>?_;go_simp;apply hK;clear hK K)
 refine @Qbw _ _ _ _ _ _ _ ?_ 131 _ rfl #[(0,.pointer (some ⟨sb,64,none⟩)),(1,.string ⟨#[97,112,112,115]⟩),(2,.string ⟨#[]⟩),(3,.pointer (some ⟨sb,160,none⟩))] (by simp only[List.map_toArray,List.map_cons,List.map_nil];rfl) _ (Qdf _ _ _ _ _ _) ?_;kernel_rfl
 simp only[Act.put,sA,sB,sC];iterate 2(refine wW λK hK=>?_;go_simp;apply hK;clear hK K)
 refine @Qbw _ _ _ _ _ _ _ ?_ 131 _ rfl #[(0,.pointer (some ⟨sb,64,none⟩)),(1,.string ⟨#[101,120,112,111,114,116]⟩),(2,.string ⟨#[]⟩),(3,.pointer (some ⟨sb,192,none⟩))] (by simp only[List.map_toArray,List.map_cons,List.map_nil];rfl) _ (Qdf _ _ _ _ _ _) ?_;kernel_rfl
 simp only[Act.put,sA,sB,sC];refine @Qbw _ _ _ _ _ _ _ ?_ 132 _ rfl #[(0,.agg #[.pointer (some ⟨sb,0,none⟩),.string ⟨#[119,101,108,99,111,109,101]⟩,.string ⟨#[]⟩,.pointer (some ⟨sb,32,none⟩)]),(1,.agg #[.pointer (some ⟨sb,0,none⟩),.string ⟨#[101,112,111,99,104]⟩,.string cc,.pointer (some ⟨sb,64,none⟩)]),(2,.agg #[.pointer (some ⟨sb,64,none⟩),.string ⟨#[105,110,105,116]⟩,.string ⟨#[]⟩,.pointer (some ⟨sb,96,none⟩)]),(3,.agg #[.pointer (some ⟨sb,64,none⟩),.string ⟨#[99,111,110,102,105,114,109]⟩,.string ⟨#[]⟩,.pointer (some ⟨sb,128,none⟩)]),(4,.agg #[.pointer (some ⟨sb,64,none⟩),.string ⟨#[97,112,112,115]⟩,.string ⟨#[]⟩,.pointer (some ⟨sb,160,none⟩)]),(5,.agg #[.pointer (some ⟨sb,64,none⟩),.string ⟨#[101,120,112,111,114,116]⟩,.string ⟨#[]⟩,.pointer (some ⟨sb,192,none⟩)])] (by simp only[List.map_toArray,List.map_cons,List.map_nil];rfl) _ (Qp0 sb cc _) ?_;kernel_rfl
 simp only[Act.put,sA,sB,sC];refine wW λK hK=>?_;go_simp;apply hK;clear hK K;go_wp2
 go_loopw [32] (λs32 wr=>∃i:Nat,s32=.int .i64 (i:Int)/\Hid (i<=6)/\Hid (I i wr)/\Hid (wr.heap[sb]?=some (.cells (bY (Ky.st j c i).flatten).toArray 86 (0,0)))/\Hid (wr.heap[rb]?=some (.cells Qba 86 (0,0)))) (λs32 _=>6-(RowKit.intOf s32).toNat)
 case atStart=>exact⟨0,rfl,hid (Nat.zero_le _),I3,S3,R3⟩
 case round=>
  obtain⟨i,rfl,hi,HI,HS,HR⟩:=hrel
  by_cases hlt:i<6
  ·have hlti:(i:Int)<6:=by omega
   have HLT:=hid hlt;have HIX:=hid (Qpk sb cc i hlt wr);have HKL:=hid (Ky.key_length HJ.out c (Ky.src i));have HSR:=hid (Ky.st_src j c i hlt);obtain⟨la,hla⟩:∃t,t=Ky.lab i:=⟨_,rfl⟩;obtain⟨xx,hxx⟩:∃t,t=Ky.cx cc i:=⟨_,rfl⟩;obtain⟨so,hso⟩:∃t,t=32*Ky.src i:=⟨_,rfl⟩;obtain⟨mo,hmo⟩:∃t,t=32*(i+1):=⟨_,rfl⟩;have HMO:=hid hmo;have HSO:=hid hso;have HDV:=hid (HD.out i hlt);rw[<-hla,<-hxx,<-hso,<-hmo] at HIX;rw[<-hla,<-hxx] at HDV;obtain⟨kc1,hkc1⟩:∃t,t=(bY (Ky.key j c (Ky.src i))).toArray:=⟨_,rfl⟩;obtain⟨cu,hcu⟩:∃t,t=(bY (Ky.key j c (i+1))).toArray:=⟨_,rfl⟩;have HKC:=hid hkc1;have HCU:=hid hcu;rw[<-hkc1,<-hcu] at HDV;have hla32:=Ky.key_length HJ.out c (i+1);have HIU:=hid (show(Tryz.prog.info? 23).map (·.size)=some cu.size by rw[HCU.out];exact Qgp hla32)
   have HAU:=hid (show cu.all (·.oneCell')=true by rw[HCU.out];exact Qae _)
   have HCS:=hid (show cu.size=32 by rw[HCU.out,List.size_toArray,bZ,hla32])
   have HL7:=hid (Ky.st_length j c i);clear hla hxx hso hmo hkc1 hcu hla32 hlt
   go_upto_region 4 with fail
   refine zA ?_;refine @Qg0 _ _ _ _ _ _ _ ?_ 132 _ _ rfl _ _ rfl rfl _ HIX.out ?_;kernel_rfl
   simp only[Act.put,sA,sB,sC];refine @Qas _ _ _ _ _ _ _ _ ?_ 131 rfl _ (Qth _) ?_;kernel_rfl
   simp only[Act.put,sA,sB,sC];refine wpList_store_row rfl 131 _ _ rfl (wr.heap.size) #[.pointer (some ⟨sb,so,none⟩),.string la,.string xx,.pointer (some ⟨sb,mo,none⟩)] rfl rfl 131 Ky.zstep (Qaa _ _) (stepInfo _ _ _ _) (rfl) ((by kernel_rfl)) ?_
   simp only[Act.put];rw[World.setRow_alloc_new];have k4:Kept wr.heap.size wr.heap.size wr (wr.alloc (.cells #[.pointer (some ⟨sb,so,none⟩),.string la,.string xx,.pointer (some ⟨sb,mo,none⟩)] 131)):=zI.alloc (zB _) _
   have T4:=hid (Qaa wr (.cells #[.pointer (some ⟨sb,so,none⟩),.string la,.string xx,.pointer (some ⟨sb,mo,none⟩)] 131))
   have S4:=hid (rK HS.out k4);have R4:=hid (rK HR.out k4);have I4:=hid (HHK.out i _ _ HI.out k4);clear k4 HIX HS HR HI;generalize wr.alloc (.cells #[.pointer (some ⟨sb,so,none⟩),.string la,.string xx,.pointer (some ⟨sb,mo,none⟩)] 131)=w4 at T4 S4 R4 I4 |-
   generalize wr.heap.size=tb at T4 |-;have kd:Kept w4.heap.size w4.heap.size w4 w4.drew:=zI.drew;have hS0:w4.drew.heap[tb]?=some (.cells #[.pointer (some ⟨sb,so,none⟩),.string la,.string xx,.pointer (some ⟨sb,mo,none⟩)] 131 (0,0))/\w4.drew.heap[sb]?=some (.cells (bY (Ky.st j c i).flatten).toArray 86 (0,0))/\w4.drew.heap[rb]?=some (.cells Qba 86 (0,0)):=⟨T4.out,S4.out,R4.out⟩
   have ID:=hid (HHK.out i _ _ I4.out kd);clear kd T4 S4 R4 I4;generalize hwd:w4.drew=wd at hS0 ID;have HS0:=hid hS0;clear hS0;have HDR:=hid (HDV.out wd ID.out);clear HDV ID;obtain⟨rw0,hrw0⟩:∃t,t=(bY (Ky.st j c i).flatten).toArray:=⟨_,rfl⟩;have HRW:=hid hrw0;rw[<-hrw0] at HS0
   have HLK:=hid (λ(x:World) (h:x.heap[tb]?=some (.cells #[.pointer (some ⟨sb,so,none⟩),.string la,.string xx,.pointer (some ⟨sb,mo,none⟩)] 131 (0,0))/\x.heap[sb]?=some (.cells rw0 86 (0,0))/\x.heap[rb]?=some (.cells Qba 86 (0,0)))=>(show(loadVar 23 ⟨sb,so,none⟩).run Tryz.prog x=.ok (.agg kc1) x by
    rw[HSO.out,HKC.out]
    exact Qqt (Ky.st_all HJ.out c i) (by have:=h.2.1;rw[HRW.out] at this;exact this) _ _ HSR.out))
   have HTC:=hid (λ(x:World) (h:x.heap[tb]?=some (.cells #[.pointer (some ⟨sb,so,none⟩),.string la,.string xx,.pointer (some ⟨sb,mo,none⟩)] 131 (0,0))/\x.heap[sb]?=some (.cells rw0 86 (0,0))/\x.heap[rb]?=some (.cells Qba 86 (0,0)))=>Qri h.1)
   clear hrw0
   go_upto_region 5 with fail
   refine wp_region_noPanic ?_;refine Qa9 13 (S:=λx=>x.heap[tb]?=some (.cells #[.pointer (some ⟨sb,so,none⟩),.string la,.string xx,.pointer (some ⟨sb,mo,none⟩)] 131 (0,0))/\x.heap[sb]?=some (.cells rw0 86 (0,0))/\x.heap[rb]?=some (.cells Qba 86 (0,0))) (by kernel_rfl) (by rw[hwd];exact HS0.out) (λhH=>?_)
   rw[hwd] at hH |-;clear hwd;refine tkH (i:=0) 35 rfl hH ?_
   apply zH
   ·intro w9 h9
    go_simp
    first|done|rfl
   simp only[sA,sB,sC];refine tkH (i:=1) 36 rfl hH ?_
   apply zH
   ·intro w9 h9
    obtain⟨c0,c1,c2,c3⟩:=HTC.out w9 h9;go_simp
    first|done|rfl
   simp only[sA,sB,sC];refine tkH (i:=2) 37 rfl hH ?_
   apply zH
   ·intro w9 h9
    go_simp
    first|done|rfl
   simp only[sA,sB,sC];refine tkH (i:=3) 38 rfl hH ?_
   apply zH
   ·intro w9 h9
    go_simp
    first|done|rfl
   simp only[sA,sB,sC];refine tkH (i:=4) 39 rfl hH ?_
   apply zH
   ·intro w9 h9
    obtain⟨c0,c1,c2,c3⟩:=HTC.out w9 h9;go_simp
    first|done|rfl
   simp only[sA,sB,sC];refine tkH (i:=5) 40 rfl hH ?_
   apply zH
   ·intro w9 h9
    go_simp
    first|done|rfl
   simp only[sA,sB,sC];refine tkT (i:=6) 41 (.agg kc1) rfl (yK (by kernel_rfl) 23 _ rfl (sb) (so) rfl (.agg kc1) (HLK.out)) hH ?_
   simp only[sA,sB,sC];refine tkH (i:=7) 42 rfl hH ?_
   apply zH
   ·intro w9 h9
    go_simp
    first|done|rfl
   simp only[sA,sB,sC];refine tkH (i:=8) 43 rfl hH ?_
   apply zH
   ·intro w9 h9
    obtain⟨c0,c1,c2,c3⟩:=HTC.out w9 h9;go_simp
    first|done|rfl
   simp only[sA,sB,sC];refine tkH (i:=9) 44 rfl hH ?_
   apply zH
   ·intro w9 h9
    go_simp
    first|done|rfl
   simp only[sA,sB,sC];refine tkH (i:=10) 45 rfl hH ?_
   apply zH
   ·intro w9 h9
    obtain⟨c0,c1,c2,c3⟩:=HTC.out w9 h9;go_simp
    first|done|rfl
   simp only[sA,sB,sC];refine Qa2 (i:=11) (by kernel_rfl) rfl (λK hK=>?_)
   rw[zG (by rfl)]
   go_simp
   go_wp2_with (go_at_call 70;refine(HDR.out).mono ?_;rintro e w8 ⟨rfl,i8,s8⟩)
   have KS:w8.heap[tb]?=some (.cells #[.pointer (some ⟨sb,so,none⟩),.string la,.string xx,.pointer (some ⟨sb,mo,none⟩)] 131 (0,0))/\w8.heap[sb]?=some (.cells rw0 86 (0,0))/\w8.heap[rb]?=some (.cells Qba 86 (0,0)):=⟨s8 _ _ _ _ HS0.out.1 (.inr rfl),s8 _ _ _ _ HS0.out.2.1 (.inl rfl),s8 _ _ _ _ HS0.out.2.2 (.inl rfl)⟩
   have HK8:=hid KS;refine hK.out _ _ KS (λhH=>?_)
   clear hK K KS;refine tkH (i:=12) 47 rfl hH ?_
   apply zH
   ·intro w9 h9
    go_simp
    first|done|rfl
   simp only[sA,sB,sC];refine Qb4 (by kernel_rfl) rfl (λK hK=>?_)
   rw[zG (by rfl)]
   refine Qdj 23 _ _ rfl rfl sb mo cu rfl rfl (Qoh HK8.out.2.1 (by rw[HRW.out,HMO.out,HCS.out,List.size_toArray,bZ,Ky.flat_length (Ky.st_all HJ.out c i),HL7.out];have:=HLT.out;omega)) HIU.out HAU.out ?_
   refine hK.out _ _ ?_;clear hK K;refine Qb5 (by kernel_rfl) ?_ _
   refine NoPanic.normal ?_;clear hH
   have S9:Hid ((w8.setCells sb mo cu.toList).heap[sb]?=some (.cells (bY (Ky.st j c (i+1)).flatten).toArray 86 (0,0))):=hid (by
    have h8:=HK8.out.2.1;rw[HRW.out] at h8;rw[HMO.out,HCU.out]
    exact Qrm (Ky.st_all HJ.out c i) h8 (i+1) (by rw[HL7.out];have:=HLT.out;omega) _ (Ky.key_length HJ.out c (i+1)))
   have R9:Hid ((w8.setCells sb mo cu.toList).heap[rb]?=some (.cells Qba 86 (0,0))):=hid ((Qcv NSB.out _ _ _).trans HK8.out.2.2)
   have I9:=hid (HHS.out (i+1) w8 sb mo cu.toList _ i8 HSB.out HK8.out.2.1);clear i8 s8 HK8 HDR HLK HTC HS0;generalize w8.setCells sb mo cu.toList=w10 at S9 R9 I9 |-;go_wp2
   go_roundw
   case rel=>exact⟨i+1,by go_num,hid HLT.out,I9,S9,R9⟩
   case measure=>have:=HLT.out;simp[RowKit.intOf];omega
  ·have hnl:¬(i:Int)<6:=by omega
   obtain rfl:i=6:=by have:=hi.out;omega
   have HSF:=hid (show wr.heap[sb]?=some (.cells fu 86 (0,0)) by rw[HFU.out];exact HS.out)
   clear hlt hi HS
   go_upto_region 7 with fail
   refine zA ?_;refine wLk 86 (.tmp 7) rfl (sb) (0) rfl (.agg fu) (HLS.out _ _ HSF.out) ?_
   simp only[Act.put,sA,sB,sC];refine wpList_store_row rfl 86 _ _ rfl (rb) fu rfl rfl 86 Qba (HR.out) HIF.out HZF.out HAF.out ?_
   simp only[Act.put];have R9:=setRow_heap wr rb Qba fu _ _ (HR.out);have k9:=HHR.out 6 wr rb fu _ HI.out HRB.out HR.out;generalize wr.setRow rb fu=w9 at R9 k9 |-;go_wp2;refine bodyPost_ret (results_cell_row rfl _ _ rb 86 fu (0,0) _ rfl R9 Tryz.underlying86 rfl HIF.out) rfl ?_
   exact⟨rfl,k9⟩
theorem Qsb (j:List UInt8)(hj:j.length=32)(cc:ByteArray)(hc:cc.size<268435456)(w:World):Calls Tryz.prog 39 #[.pointer none,.agg (bY j).toArray,.string cc] w λe w'=>e=.returned (.agg (bY (Ky.secs j cc.data.toList)).toArray)/\Kept w.heap.size w.heap.size w w':=by
 refine Qsd none j hj cc w (λ_ x=>Kept w.heap.size w.heap.size w x) (λ_ k=>k) (λ_ _ _ k1 k2=>k1.onto k2) (λ_ x g k vs _ kx hg _=>Qdo g hg vs k x kx) (λ_ x g vs _ kx hg _=>Qak kx g hg vs) (λi hi x kx=>?_)
 rw[Ky.key_step j cc i hi];refine(Qi4 _ (hid (Ky.key_length hj _ _)) (Ky.lab i) (Ky.cx cc i) (hid (Nat.lt_of_le_of_lt (Ky.lab_size i) (by decide))) (hid (Nat.lt_of_le_of_lt (Ky.cx_size cc i) hc)) x).mono ?_
 rintro e w' ⟨rfl,k⟩;exact⟨rfl,kx.onto k,λ_ cs t fr h _=>rk h k⟩
theorem Qqc (w:World):(Instr.alloc 91 true (.tuple #[])).run Tryz.prog w=.ok (.pointer (some ⟨w.heap.size,0,none⟩)) (w.alloc (.cells Qba 91)):=by kernel_rfl
theorem rsecInfo {l:List UInt8}(h:l.length=224):(Tryz.prog.info? 91).map (·.size)=some (bY l).toArray.size:=by rw[List.size_toArray,bZ,h];kernel_rfl
theorem Qp1 (w:World)(l0 l1 l2 l3 l4 l5 l6:List UInt8)(h0:l0.length=32)(h1:l1.length=32)(h2:l2.length=32)(h3:l3.length=32)(h4:l4.length=32)(h5:l5.length=32)(h6:l6.length=32):
  (Instr.build 91 #[(0,.agg (bY l0).toArray),(1,.agg (bY l1).toArray),(2,.agg (bY l2).toArray),(3,.agg (bY l3).toArray),(4,.agg (bY l4).toArray),(5,.agg (bY l5).toArray),(6,.agg (bY l6).toArray)]).run Tryz.prog w=.ok (.agg (bY [l0,l1,l2,l3,l4,l5,l6].flatten).toArray) w:=by
 revert l0
 refine Qc2 ?_;intro a0 a1 a2 a3 a4 a5 a6 a7 a8 a9 a10 a11 a12 a13 a14 a15 a16 a17 a18 a19 a20 a21 a22 a23 a24 a25 a26 a27 a28 a29 a30 a31
 revert l1
 refine Qc2 ?_;intro b0 b1 b2 b3 b4 b5 b6 b7 b8 b9 b10 b11 b12 b13 b14 b15 b16 b17 b18 b19 b20 b21 b22 b23 b24 b25 b26 b27 b28 b29 b30 b31
 revert l2
 refine Qc2 ?_;intro c0 c1 c2 c3 c4 c5 c6 c7 c8 c9 c10 c11 c12 c13 c14 c15 c16 c17 c18 c19 c20 c21 c22 c23 c24 c25 c26 c27 c28 c29 c30 c31
 revert l3
 refine Qc2 ?_;intro d0 d1 d2 d3 d4 d5 d6 d7 d8 d9 d10 d11 d12 d13 d14 d15 d16 d17 d18 d19 d20 d21 d22 d23 d24 d25 d26 d27 d28 d29 d30 d31
 revert l4
 refine Qc2 ?_;intro e0 e1 e2 e3 e4 e5 e6 e7 e8 e9 e10 e11 e12 e13 e14 e15 e16 e17 e18 e19 e20 e21 e22 e23 e24 e25 e26 e27 e28 e29 e30 e31
 revert l5
 refine Qc2 ?_;intro f0 f1 f2 f3 f4 f5 f6 f7 f8 f9 f10 f11 f12 f13 f14 f15 f16 f17 f18 f19 f20 f21 f22 f23 f24 f25 f26 f27 f28 f29 f30 f31
 revert l6
 refine Qc2 ?_;intro g0 g1 g2 g3 g4 g5 g6 g7 g8 g9 g10 g11 g12 g13 g14 g15 g16 g17 g18 g19 g20 g21 g22 g23 g24 g25 g26 g27 g28 g29 g30 g31;kernel_rfl
theorem Qih {P:Program}{ops:Array Oper}{S:World->Prop}{op:Oper}{a:Act}(hw:Region.wanted op (yielded ops a.tmps)=true)(t:TypeId)(xs:Array (Nat × Operand))(ho:op.op=.build t xs)(vs:Array (Nat × Value))(hv:(xs.map λ(i,x)=>(i,a.eval x))=vs)(u:Value)(hr:∀w,(Instr.build t vs).run P w=.ok u w):YieldsIf P ops S op u a:=by
 subst hv
 exact .inl ⟨hw,λw _=>by
  unfold execOp
  simp only[ho,Sem.run_bind,hr,Result.andThen_ok,Sem.run_pure]⟩
theorem Qix (j:List UInt8)(hj:j.length=32)(cc:ByteArray)(hc:cc.size<=8000)(w:World):Calls Tryz.prog 41 #[.agg (bY j).toArray,.string cc] w λe w'=>e=.returned (.agg (bY (Ky.secs j cc.data.toList)).toArray)/\Kept w.heap.size w.heap.size w w':=by
 have HD1:=hid (λu=>(show Calls Tryz.prog 76 #[.agg (bY (Ky.key j cc.data.toList 0)).toArray,.string ⟨#[119,101,108,99,111,109,101]⟩,.string ⟨#[]⟩] u λe w'=>e=.returned (.agg (bY (Ky.key j cc.data.toList 1)).toArray)/\Kept u.heap.size u.heap.size u w' from by
  have:=Qbf (Ky.key j cc.data.toList 0) (hid (Ky.key_length hj _ _)) ⟨#[119,101,108,99,111,109,101]⟩ ⟨#[]⟩ (hid (by decide)) (hid (by decide)) u
  rw[show Mc.derive (Ky.key j cc.data.toList 0) (⟨#[119,101,108,99,111,109,101]⟩:ByteArray).data.toList (⟨#[]⟩:ByteArray).data.toList=Ky.key j cc.data.toList 1 from rfl] at this
  exact this))
 have HD2:=hid (λu=>(show Calls Tryz.prog 76 #[.agg (bY (Ky.key j cc.data.toList 0)).toArray,.string ⟨#[101,112,111,99,104]⟩,.string cc] u λe w'=>e=.returned (.agg (bY (Ky.key j cc.data.toList 2)).toArray)/\Kept u.heap.size u.heap.size u w' from by
  have:=Qbf (Ky.key j cc.data.toList 0) (hid (Ky.key_length hj _ _)) ⟨#[101,112,111,99,104]⟩ cc (hid (by decide)) (hid (hc)) u
  rw[show Mc.derive (Ky.key j cc.data.toList 0) (⟨#[101,112,111,99,104]⟩:ByteArray).data.toList (cc:ByteArray).data.toList=Ky.key j cc.data.toList 2 from rfl] at this
  exact this))
 have HD3:=hid (λu=>(show Calls Tryz.prog 76 #[.agg (bY (Ky.key j cc.data.toList 2)).toArray,.string ⟨#[105,110,105,116]⟩,.string ⟨#[]⟩] u λe w'=>e=.returned (.agg (bY (Ky.key j cc.data.toList 3)).toArray)/\Kept u.heap.size u.heap.size u w' from by
  have:=Qbf (Ky.key j cc.data.toList 2) (hid (Ky.key_length hj _ _)) ⟨#[105,110,105,116]⟩ ⟨#[]⟩ (hid (by decide)) (hid (by decide)) u
  rw[show Mc.derive (Ky.key j cc.data.toList 2) (⟨#[105,110,105,116]⟩:ByteArray).data.toList (⟨#[]⟩:ByteArray).data.toList=Ky.key j cc.data.toList 3 from rfl] at this
  exact this))
 have HD4:=hid (λu=>(show Calls Tryz.prog 76 #[.agg (bY (Ky.key j cc.data.toList 2)).toArray,.string ⟨#[99,111,110,102,105,114,109]⟩,.string ⟨#[]⟩] u λe w'=>e=.returned (.agg (bY (Ky.key j cc.data.toList 4)).toArray)/\Kept u.heap.size u.heap.size u w' from by
  have:=Qbf (Ky.key j cc.data.toList 2) (hid (Ky.key_length hj _ _)) ⟨#[99,111,110,102,105,114,109]⟩ ⟨#[]⟩ (hid (by decide)) (hid (by decide)) u
  rw[show Mc.derive (Ky.key j cc.data.toList 2) (⟨#[99,111,110,102,105,114,109]⟩:ByteArray).data.toList (⟨#[]⟩:ByteArray).data.toList=Ky.key j cc.data.toList 4 from rfl] at this
  exact this))
 have HD5:=hid (λu=>(show Calls Tryz.prog 76 #[.agg (bY (Ky.key j cc.data.toList 2)).toArray,.string ⟨#[97,112,112,115]⟩,.string ⟨#[]⟩] u λe w'=>e=.returned (.agg (bY (Ky.key j cc.data.toList 5)).toArray)/\Kept u.heap.size u.heap.size u w' from by
  have:=Qbf (Ky.key j cc.data.toList 2) (hid (Ky.key_length hj _ _)) ⟨#[97,112,112,115]⟩ ⟨#[]⟩ (hid (by decide)) (hid (by decide)) u
  rw[show Mc.derive (Ky.key j cc.data.toList 2) (⟨#[97,112,112,115]⟩:ByteArray).data.toList (⟨#[]⟩:ByteArray).data.toList=Ky.key j cc.data.toList 5 from rfl] at this
  exact this))
 have HD6:=hid (λu=>(show Calls Tryz.prog 76 #[.agg (bY (Ky.key j cc.data.toList 2)).toArray,.string ⟨#[101,120,112,111,114,116]⟩,.string ⟨#[]⟩] u λe w'=>e=.returned (.agg (bY (Ky.key j cc.data.toList 6)).toArray)/\Kept u.heap.size u.heap.size u w' from by
  have:=Qbf (Ky.key j cc.data.toList 2) (hid (Ky.key_length hj _ _)) ⟨#[101,120,112,111,114,116]⟩ ⟨#[]⟩ (hid (by decide)) (hid (by decide)) u
  rw[show Mc.derive (Ky.key j cc.data.toList 2) (⟨#[101,120,112,111,114,116]⟩:ByteArray).data.toList (⟨#[]⟩:ByteArray).data.toList=Ky.key j cc.data.toList 6 from rfl] at this
  exact this))
 have HBU:=hid (λu=>Qp1 u _ _ _ _ _ _ _ hj (Ky.key_length hj cc.data.toList 1) (Ky.key_length hj cc.data.toList 2) (Ky.key_length hj cc.data.toList 3) (Ky.key_length hj cc.data.toList 4) (Ky.key_length hj cc.data.toList 5) (Ky.key_length hj cc.data.toList 6))
 rw[show [j,Ky.key j cc.data.toList 1,Ky.key j cc.data.toList 2,Ky.key j cc.data.toList 3,Ky.key j cc.data.toList 4,Ky.key j cc.data.toList 5,Ky.key j cc.data.toList 6].flatten=Ky.secs j cc.data.toList from rfl] at HBU;have hfl:(Ky.secs j cc.data.toList).length=224:=Ky.flat_len hj _ 6;have HIF:=hid (rsecInfo hfl);have HZF:=hid (secSize hfl);have HAF:=hid (Qae (Ky.secs j cc.data.toList));have hel:=Ky.key_length hj cc.data.toList 2;have HIE:=hid (Qgo hel);have HZE:=hid (Qjh hel);have HAE:=hid (Qae (Ky.key j cc.data.toList 2));have HLD:=hid (λ(u:World) (b:Nat) (h:u.heap[b]?=some (.cells (bY j).toArray 22 (0,0)))=>Qhb hj h)
 have HLE:=hid (λ(u:World) (b:Nat) (h:u.heap[b]?=some (.cells (bY (Ky.key j cc.data.toList 2)).toArray 22 (0,0)))=>Qhb hel h)
 rw[show Ky.key j cc.data.toList 0=j from rfl] at HD1 HD2;generalize (bY (Ky.secs j cc.data.toList)).toArray=fu at HBU HIF HZF HAF |-;generalize (bY (Ky.key j cc.data.toList 1)).toArray=x1 at HD1 HBU;generalize (bY (Ky.key j cc.data.toList 2)).toArray=ec at HD2 HD3 HD4 HD5 HD6 HBU HIE HZE HAE HLE;generalize (bY (Ky.key j cc.data.toList 3)).toArray=x3 at HD3 HBU;generalize (bY (Ky.key j cc.data.toList 4)).toArray=x4 at HD4 HBU;generalize (bY (Ky.key j cc.data.toList 5)).toArray=x5 at HD5 HBU;generalize (bY (Ky.key j cc.data.toList 6)).toArray=x6 at HD6 HBU;generalize (bY j).toArray=kc at HD1 HD2 HBU HLD |-;clear hfl hel hj hc
 go_enter Tryz.func41,Tryz.ntmps41
 go_upto_region 0 with fail
 refine zA ?_;refine wW λK hK=>?_;go_simp;apply hK;clear hK K;have kn:Kept w.heap.size w.heap.size w (w.alloc (.cells kc 22)):=zI.alloc (zB _) _
 have rpb:=Qaa w (.cells kc 22)
 have Kw1:=kn;generalize w.alloc (.cells kc 22)=w1 at kn rpb Kw1  |-
 obtain⟨pb,hpb⟩:∃n,n=w.heap.size:=⟨_,rfl⟩;rw[<-hpb] at rpb
 (try rw[<-hpb])
 clear hpb kn;refine @Qas _ _ _ _ _ _ _ _ ?_ 91 rfl _ (Qqc _) ?_;kernel_rfl
 simp only[Act.put,sA,sB,sC];have kn:Kept w1.heap.size w1.heap.size w1 (w1.alloc (.cells Qba 91)):=zI.alloc (zB _) _
 have rrb:=Qaa w1 (.cells Qba 91)
 replace rpb:=rK rpb kn
 have Kw2:=Kw1.onto kn;have HRB:Hid (w.heap.size<=w1.heap.size):=hid (Kw1.size);generalize w1.alloc (.cells Qba 91)=w2 at kn rrb Kw2 rpb |-
 obtain⟨rb,hrb⟩:∃n,n=w1.heap.size:=⟨_,rfl⟩;rw[<-hrb] at rrb HRB
 (try rw[<-hrb])
 clear hrb kn Kw1;have Rpb:=hid rpb;clear rpb;have Rrb:=hid rrb;clear rrb;have KW:=hid Kw2;clear Kw2
 go_upto_region 1 with fail
 refine zA ?_;refine wLk 22 (.tmp 2) rfl (pb) (0) rfl (.agg kc) (HLD.out _ _ Rpb.out) ?_
 simp only[Act.put,sA,sB,sC];refine wW λK hK=>?_;go_simp;apply hK;clear hK K;refine wW λK hK=>?_;go_simp;go_at_call 76
 refine(HD2.out _).mono ?_;rintro e w3 ⟨rfl,k3⟩;have K3:=hid (KW.out.onto k3);have Rpb3:=rK Rpb.out k3;have Rrb3:=rK Rrb.out k3;clear k3 KW Rpb Rrb;apply hK;clear hK K;refine @Qas _ _ _ _ _ _ _ _ ?_ 22 rfl _ (Qj5 _) ?_;kernel_rfl
 simp only[Act.put,sA,sB,sC];refine wpList_store_row rfl 22 _ _ rfl (w3.heap.size) ec rfl rfl 22 zY (Qaa _ _) (HIE.out) (HZE.out) (HAE.out) ?_
 simp only[Act.put];rw[World.setRow_alloc_new];have kb:Kept w3.heap.size w3.heap.size w3 (w3.alloc (.cells ec 22)):=zI.alloc (zB _) _
 have E4:=hid (Qaa w3 (.cells ec 22))
 have Rpb4:=hid (rK Rpb3 kb);have Rrb4:=hid (rK Rrb3 kb);have K4:=hid (K3.out.onto kb);clear Rpb3 Rrb3 kb K3;generalize w3.alloc (.cells ec 22)=w4 at E4 Rpb4 Rrb4 K4 |-
 generalize w3.heap.size=eb at E4 |-;have HLA:=hid (λ(x:World) (k:Kept w4.heap.size w4.heap.size w4 x)=>HLD.out x pb (rK Rpb4.out k))
 have HLB:=hid (λ(x:World) (k:Kept w4.heap.size w4.heap.size w4 x)=>HLE.out x eb (rK E4.out k))
 go_upto_region 2 with fail
 obtain⟨wd,hwd⟩:∃wd,wd=w4.drew:=⟨_,rfl⟩;have KD:Kept w4.heap.size w4.heap.size w4 wd:=by rw[hwd];exact zI.drew
 refine wp_region_noPanic ?_;refine Qa9 13 (S:=λw'=>Kept w4.heap.size w4.heap.size w4 w') (by kernel_rfl) (by rw[<-hwd];exact KD) (λhH=>?_)
 rw[<-hwd] at hH |-;clear hwd;refine tkT (i:=0) 9 (.agg kc) rfl (yK (by kernel_rfl) 22 _ rfl (pb) (0) rfl (.agg kc) (HLA.out)) hH ?_
 simp only[sA,sB,sC];refine tkT (i:=1) 10 (.agg kc) rfl (yK (by kernel_rfl) 22 _ rfl (pb) (0) rfl (.agg kc) (HLA.out)) hH ?_
 simp only[sA,sB,sC];refine tkT (i:=3) 12 (.agg ec) rfl (yK (by kernel_rfl) 22 _ rfl (eb) (0) rfl (.agg ec) (HLB.out)) hH ?_
 simp only[sA,sB,sC];refine tkT (i:=4) 13 (.agg ec) rfl (yK (by kernel_rfl) 22 _ rfl (eb) (0) rfl (.agg ec) (HLB.out)) hH ?_
 simp only[sA,sB,sC];refine tkT (i:=6) 15 (.agg ec) rfl (yK (by kernel_rfl) 22 _ rfl (eb) (0) rfl (.agg ec) (HLB.out)) hH ?_
 simp only[sA,sB,sC];refine tkT (i:=8) 17 (.agg ec) rfl (yK (by kernel_rfl) 22 _ rfl (eb) (0) rfl (.agg ec) (HLB.out)) hH ?_
 simp only[sA,sB,sC];refine tkT (i:=10) 19 (.agg ec) rfl (yK (by kernel_rfl) 22 _ rfl (eb) (0) rfl (.agg ec) (HLB.out)) hH ?_
 simp only[sA,sB,sC];refine Qa2 (i:=2) (by kernel_rfl) rfl (λK hK=>?_)
 rw[zG (by rfl)]
 go_simp
 go_wp2_with (go_at_call 76;refine(HD1.out _).mono ?_;rintro e v1 ⟨rfl,q1⟩)
 have KS:Kept w4.heap.size w4.heap.size w4 v1:=KD.onto q1;have Q1:=KS;refine hK.out _ _ KS (λhH=>?_)
 clear hK K KS;refine Qa2 (i:=5) (by kernel_rfl) rfl (λK hK=>?_)
 rw[zG (by rfl)]
 go_simp
 go_wp2_with (go_at_call 76;refine(HD3.out _).mono ?_;rintro e v3 ⟨rfl,q3⟩)
 have KS:Kept w4.heap.size w4.heap.size w4 v3:=Q1.onto q3;have Q3:=KS;refine hK.out _ _ KS (λhH=>?_)
 clear hK K KS;refine Qa2 (i:=7) (by kernel_rfl) rfl (λK hK=>?_)
 rw[zG (by rfl)]
 go_simp
 go_wp2_with (go_at_call 76;refine(HD4.out _).mono ?_;rintro e v4 ⟨rfl,q4⟩)
 have KS:Kept w4.heap.size w4.heap.size w4 v4:=Q3.onto q4;have Q4:=KS;refine hK.out _ _ KS (λhH=>?_)
 clear hK K KS;refine Qa2 (i:=9) (by kernel_rfl) rfl (λK hK=>?_)
 rw[zG (by rfl)]
 go_simp
 go_wp2_with (go_at_call 76;refine(HD5.out _).mono ?_;rintro e v5 ⟨rfl,q5⟩)
 have KS:Kept w4.heap.size w4.heap.size w4 v5:=Q4.onto q5;have Q5:=KS;refine hK.out _ _ KS (λhH=>?_)
 clear hK K KS;refine Qa2 (i:=11) (by kernel_rfl) rfl (λK hK=>?_)
 rw[zG (by rfl)]
 go_simp
 go_wp2_with (go_at_call 76;refine(HD6.out _).mono ?_;rintro e v6 ⟨rfl,q6⟩)
 have KS:Kept w4.heap.size w4.heap.size w4 v6:=Q5.onto q6;have Q6:=KS;refine hK.out _ _ KS (λhH=>?_)
 clear hK K KS;refine tkT (i:=12) 21 (.agg fu) rfl (Qih (by kernel_rfl) _ _ rfl #[(0,.agg kc),(1,.agg x1),(2,.agg ec),(3,.agg x3),(4,.agg x4),(5,.agg x5),(6,.agg x6)] (by simp only[List.map_toArray,List.map_cons,List.map_nil];rfl) _ (λw9=>HBU.out w9)) hH ?_
 simp only[sA,sB,sC];refine Qb4 (by kernel_rfl) rfl (λK hK=>?_)
 rw[zG (by rfl)]
 have R9:=rK Rrb4.out Q6;refine Qdi 91 _ _ rfl rfl rb fu rfl rfl 91 Qba R9 HIF.out HZF.out HAF.out ?_
 refine hK.out _ _ ?_;clear hK K;refine Qb5 (by kernel_rfl) ?_ _
 refine NoPanic.normal ?_;clear hH;have R10:=setRow_heap v6 rb _ fu _ _ R9;have k10:Kept w.heap.size w.heap.size w (v6.setRow rb fu):=Qak (K4.out.onto Q6) rb HRB.out fu;generalize v6.setRow rb fu=w10 at R10 k10 |-;go_wp2;refine bodyPost_ret (results_cell_row rfl _ _ rb 91 fu (0,0) _ rfl R10 Tryz.underlying91 rfl HIF.out) rfl ?_
 exact⟨rfl,k10⟩
end Go.Proofs.YtnlbgggnpoeleaaGreatDoor
