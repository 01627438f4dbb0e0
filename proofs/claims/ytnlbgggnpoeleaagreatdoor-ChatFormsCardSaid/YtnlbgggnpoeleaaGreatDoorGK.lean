/-
 MacRefCode; MacRefDerive: several texts in one.
-/
import Derived.Test.YtnlbgggnpoeleaaGreatDoorGI
import Derived.Test.YtnlbgggnpoeleaaGreatDoorGJ
set_option maxRecDepth 100000
set_option maxHeartbeats 1600000
namespace Go.Proofs.YtnlbgggnpoeleaaGreatDoor
open Go.RowKit
open Go.Lib (hid)
theorem Qgm:(Tryz.prog.info? 22).map (·.size)=some 32:=by kernel_rfl
theorem Qjv (w:World)(c:UInt8):(convert 106 9 (.slice (some ⟨w.heap.size,0,none⟩) 1 1)).run Tryz.prog (w.alloc (.cells #[.int .u8 (c.toNat:Int)] 5))=.ok (.string (str [c])) (w.alloc (.cells #[.int .u8 (c.toNat:Int)] 5)):=
 Qdx _ w.heap.size [c] _ (0,0) (Qaa _ _) 0 1 [c] rfl
theorem Qlb (w:World)(o:Obj)(c:UInt8):(convert 106 9 (.slice (some ⟨w.heap.size+1,0,none⟩) 1 1)).run Tryz.prog ((w.alloc o).alloc (.cells #[.int .u8 (c.toNat:Int)] 5))=.ok (.string (str [c])) ((w.alloc o).alloc (.cells #[.int .u8 (c.toNat:Int)] 5)):=by
 have:=Qjv (w.alloc o) c
 rwa[show(w.alloc o).heap.size=w.heap.size+1 by simp] at this
theorem Qqp (x:UInt8)(f:List UInt8)(i:Nat)(h:i<f.length):Mc.put x (f.take (i+1))=Mc.put x (f.take i)++[f[i] ^^^ x]:=by
 rw[List.take_succ_eq_append_getElem h,Mc.put,Mc.put,List.map_append]
 rfl
theorem Qlv (key text:ByteArray)(hk:Hid (key.size<=20000))(ht:Hid (text.size<=19000))(w:World):Calls Tryz.prog 103 #[.string key,.string text] w λe w'=>e=.returned (.agg (bY (Mc.code key.data.toList text.data.toList)).toArray)/\Kept w.heap.size w.heap.size w w':=by
 go_enter Tryz.func103,Tryz.ntmps103
 go_upto_region 1 with fail
 rw[Qao];have hA:(w.alloc (.cells zY 22)).heap[w.heap.size]?=some (.cells zY 22 (0,0)):=Qaa _ _
 have k1:Kept w.heap.size w.heap.size w (w.alloc (.cells zY 22)):=zI.alloc (zB _) _
 have s1:(w.alloc (.cells zY 22)).heap.size=w.heap.size+1:=by simp
 generalize w.alloc (.cells zY 22)=w1 at hA k1 s1 |-
 obtain⟨wa,hwa⟩:∃wa,wa=w.heap.size:=⟨_,rfl⟩;rw[<-hwa] at hA k1 s1 |-;have HWA:=hid hwa;have HA:=hid hA;have HK1:=hid k1;have HS1:=hid s1;clear hwa hA k1 s1
 go_upto_if 13 with fail
 go_cut [0] (λs wx=>∃T:ByteArray,s=.string T/\Hid (T.data.toList=Mc.short key.data.toList)/\Hid (Kept w1.heap.size w1.heap.size w1 wx))
 case first=>
  have hall:=Qae (Sm.sum key.data.toList);have hcs:(bY (Sm.sum key.data.toList)).toArray.size=32:=by rw[List.size_toArray,bZ,Qaw]
  have hone:=Qe3 key w1 hk.out;have hcv:=λ(w:World)=>Qfd (w:=w.alloc (.cells (bY (Sm.sum key.data.toList)).toArray 22)) (b:=w.heap.size) (Qaw key.data.toList) (Qaa _ _)
  have Hone:=hid hone;have Hcv:=hid hcv;have Hall:=hid hall;have Hcs:=hid hcs;clear hone hcv hall hcs
  by_cases hl:64<key.size
  ·have hd:decide ((64:Int)<(key.size:Int))=true:=decide_eq_true (by omega)
   go_wp2_with fail
   refine Hone.out.mono ?_;rintro e w2 ⟨rfl,k2⟩
   go_wp2_with fail
   rw[Qce w2 22 _ _ (by rw[Hcs.out];rfl) Hall.out]
   go_wp2_with fail
   rw[Hcv.out w2];go_wp2
   go_meet
   refine⟨_,rfl,hid ?_,hid ?_⟩
   ·rw[Mc.short,zG (by simpa using hl)]
   ·exact k2.alloc k2.size _
  ·have hd:decide ((64:Int)<(key.size:Int))=false:=decide_eq_false (by omega)
   go_wp2
   go_meet
   refine⟨_,rfl,hid ?_,hid zI⟩;rw[Mc.short,if_neg (by simpa using hl)]
 case rest=>
  obtain⟨T,rfl,hT,hK⟩:=hcut;have hT64:=Qql _ T hT.out;have hlT:T.data.toList.length=T.size:=by simp
  have hfl:Mc.filled key.data.toList=T.data.toList++List.replicate (64-T.size) 0:=by rw[Mc.filled,<-hT.out,hlT]
  have hfn:=Mc.filled_length key.data.toList;generalize hFF:Mc.filled key.data.toList=F at hfl hfn;have HFF:=hid hFF;have Hfn:=hid hfn;have Hfl:=hid hfl;clear hFF hfn hfl hT
  go_wp2_with fail
  go_loopw [6,7,8,9] (λs6 s7 s8 s9 w9=>∃i:Nat,i<=64/\s6=.string (str (Mc.put 54 (F.take i)))/\s7=.string (str (Mc.put 92 (F.take i)))/\s8=.int .i64 (i:Int)/\Hid (Kept w1.heap.size w1.heap.size w1 w9)) (λ_ _ s8 _ _=>64-(RowKit.intOf s8).toNat)
  case atStart=>exact⟨0,by omega,rfl,rfl,rfl,hK⟩
  case round=>
   obtain⟨i,hi,rfl,rfl,rfl,hK9⟩:=hrel
   by_cases hlt:i<64
   ·have hiF:i<F.length:=by rw[Hfn.out];exact hlt
    have hpl1:(Mc.put 54 (F.take i)).length<=100:=by rw[Mc.put_length,List.length_take];omega
    have hpl2:(Mc.put 92 (F.take i)).length<=100:=by rw[Mc.put_length,List.length_take];omega
    have hm1:=Qqp 54 F i hiF;have hm2:=Qqp 92 F i hiF
    by_cases hin:i<T.size
    ·have hx:F[i]=T[i]:=by
      have h1:F[i]?=some T[i]:=by
       rw[Hfl.out,List.getElem?_append_left (by rw[hlT];exact hin)]
       rw[List.getElem?_eq_getElem (by rw[hlT];exact hin)]
       rfl
      rw[List.getElem?_eq_getElem hiF] at h1;exact Option.some.inj h1
     have hd:decide ((i:Int)<(T.size:Int))=true:=decide_eq_true (by omega)
     have hx1:bits .xor .u8 ((T[i]).toNat:Int) 54=((F[i] ^^^ 54).toNat:Int):=by rw[hx];exact xor8 _ 54
     have hx2:bits .xor .u8 ((T[i]).toNat:Int) 92=((F[i] ^^^ 92).toNat:Int):=by rw[hx];exact xor8 _ 92
     generalize F[i] ^^^ 54=A at hm1 hx1;generalize F[i] ^^^ 92=B at hm2 hx2;have Hm1:=hid hm1;have Hm2:=hid hm2;have Hx1:=hid hx1;have Hx2:=hid hx2;have k10:=hK9.out.alloc hK9.out.size (.cells #[.int .u8 (A.toNat:Int)] 5)
     have k11:=k10.alloc k10.size (.cells #[.int .u8 (B.toNat:Int)] 5)
     have HK11:=hid k11;clear hm1 hm2 hx1 hx2 hx k10 k11
     go_wp2_with fail
     rw[Hx1.out,Qjv wr A]
     go_wp2_with fail
     rw[Hx2.out,Qlb wr _ B];go_wp2;exact⟨⟨i+1,by omega,by rw[Hm1.out,<-Qa5],by rw[Hm2.out,<-Qa5],by rw[Int.natCast_add];rfl,HK11⟩,by simp only[RowKit.intOf];omega⟩
    ·have hx:F[i]=0:=by
      have h1:F[i]?=some 0:=by
       rw[Hfl.out,List.getElem?_append_right (by rw[hlT];omega),hlT,List.getElem?_replicate,zG (by omega)]
      rw[List.getElem?_eq_getElem hiF] at h1;exact Option.some.inj h1
     have hd:decide ((i:Int)<(T.size:Int))=false:=decide_eq_false (by omega)
     rw[hx,show(0:UInt8) ^^^ 54=54 from rfl] at hm1;rw[hx,show(0:UInt8) ^^^ 92=92 from rfl] at hm2;have Hm1:=hid hm1;have Hm2:=hid hm2;have hc1:(convert 106 9 (.slice (some ⟨wr.heap.size,0,none⟩) 1 1)).run Tryz.prog (wr.alloc (.cells #[.int .u8 54] 5))=.ok (.string (str [54])) (wr.alloc (.cells #[.int .u8 54] 5)):=Qjv wr 54
     have hc2:(convert 106 9 (.slice (some ⟨wr.heap.size+1,0,none⟩) 1 1)).run Tryz.prog ((wr.alloc (.cells #[.int .u8 54] 5)).alloc (.cells #[.int .u8 92] 5))=.ok (.string (str [92])) ((wr.alloc (.cells #[.int .u8 54] 5)).alloc (.cells #[.int .u8 92] 5)):=Qlb wr _ 92
     have Hc1:=hid hc1;have Hc2:=hid hc2;have k10:=hK9.out.alloc hK9.out.size (.cells #[.int .u8 54] 5)
     have k11:=k10.alloc k10.size (.cells #[.int .u8 92] 5)
     have HK11:=hid k11;clear hm1 hm2 hx hc1 hc2 k10 k11
     go_wp2_with fail
     try rw[show bits .xor .u8 0 54=54 from rfl]
     rw[Hc1.out]
     go_wp2_with fail
     try rw[show bits .xor .u8 0 92=92 from rfl]
     rw[Hc2.out];go_wp2;exact⟨⟨i+1,by omega,by rw[Hm1.out,<-Qa5],by rw[Hm2.out,<-Qa5],by rw[Int.natCast_add];rfl,HK11⟩,by simp only[RowKit.intOf];omega⟩
   ·obtain rfl:i=64:=by omega
    have hFt:F.take 64=F:=List.take_of_length_le (by rw[Hfn.out];exact zB _)
    rw[hFt];have hA9:=(hK9.out.block wa (by have:=HS1.out;omega) (by have:=HS1.out;omega)).trans HA.out
    have hl1:(str (Mc.put 54 F)++text).data.toList=Mc.put 54 F++text.data.toList:=by rw[ByteArray.data_append,Array.toList_append]
    have hz1:(str (Mc.put 54 F)++text).size<=20000:=by
     have h1:(str (Mc.put 54 F)++text).size=(str (Mc.put 54 F)).size+text.size:=ByteArray.size_append;rw[h1,Qai,Mc.put_length,Hfn.out];have:=ht.out
     omega
    have hs1:=λw=>Qe3 (str (Mc.put 54 F)++text) w hz1
    rw[hl1] at hs1;generalize hS:Sm.sum (Mc.put 54 F++text.data.toList)=S at hs1;have hS32:S.length=32:=by rw[<-hS];exact Qaw _
    have hcs:(bY S).toArray.size=32:=by rw[List.size_toArray,bZ,hS32]
    have hall:=Qae S;have hcv:=λ(w:World)=>Qfd (w:=w.alloc (.cells (bY S).toArray 22)) (b:=w.heap.size) hS32 (Qaa _ _)
    have hl2:(str (Mc.put 92 F)++str S).data.toList=Mc.put 92 F++S:=by rw[ByteArray.data_append,Array.toList_append]
    have hz2:(str (Mc.put 92 F)++str S).size<=20000:=by
     have h1:(str (Mc.put 92 F)++str S).size=(str (Mc.put 92 F)).size+(str S).size:=ByteArray.size_append;rw[h1,Qai,Qai,Mc.put_length,Hfn.out,hS32]
     decide
    have hs2:=λw=>Qe3 (str (Mc.put 92 F)++str S) w hz2
    rw[hl2] at hs2;have hU:Mc.code key.data.toList text.data.toList=Sm.sum (Mc.put 92 F++S):=by rw[Mc.code,HFF.out,Mc.under,hS]
    have hcs2:(bY (Sm.sum (Mc.put 92 F++S))).toArray.size=32:=by rw[List.size_toArray,bZ,Qaw]
    have hall2:=Qae (Sm.sum (Mc.put 92 F++S));have hUF:(bY (Mc.code key.data.toList text.data.toList)).toArray=(bY (Sm.sum (Mc.put 92 F++S))).toArray:=by rw[hU]
    generalize (bY (Sm.sum (Mc.put 92 F++S))).toArray=cu at hs2 hcs2 hall2 hUF;generalize (bY S).toArray=cs at hs1 hcs hall hcv;have hq1:(str S).size<=100:=by rw[Qai,hS32];decide
    have hq2:(str (Mc.put 54 F)).size<=100:=by rw[Qai,Mc.put_length,Hfn.out];decide
    have hq3:(str (Mc.put 92 F)).size<=100:=by rw[Qai,Mc.put_length,Hfn.out];decide
    have hq4:=ht.out;generalize str S=sS at hs2 hcv hq1;generalize str (Mc.put 54 F)=s54 at hs1 hq2 |-;generalize str (Mc.put 92 F)=s92 at hs2 hq3 |-;have Hs1:=hid hs1;have Hs2:=hid hs2;have Hcv:=hid hcv;have Hcs:=hid hcs;have Hall:=hid hall;have Hcs2:=hid hcs2;have Hall2:=hid hall2;have HUF:=hid hUF;have HA9:=hid hA9;have HKr:=hid hK9.out;clear hs1 hs2 hcv hcs hall hcs2 hall2 hUF hA9 hU hl1 hl2 hz1 hz2 hS hS32 hFt hK9 hK
    go_wp2_with fail
    refine(Hs1.out _).mono ?_;rintro e w2 ⟨rfl,k2⟩;have hkw:Kept wr.heap.size wr.heap.size wr (w2.alloc (.cells cs 22)):=k2.alloc k2.size _
    have HKW:=hid hkw;clear hkw
    go_wp2_with fail
    rw[Qce w2 22 _ cs (by rw[Hcs.out];rfl) Hall.out]
    go_wp2_with fail
    rw[Hcv.out w2]
    go_wp2_with fail
    refine(Hs2.out _).mono ?_;rintro e w8 ⟨rfl,k8⟩;have hwr:=HKr.out.size;have hw1:=HS1.out;have hwW:=HKW.out.size;have hR8:=(k8.block wa (by omega) (by omega)).trans ((HKW.out.block wa (by omega) (by omega)).trans HA9.out)
    have hk8:Kept w.heap.size w.heap.size w w8:=by
     have h1:=HWA.out;rw[<-h1];exact((HK1.out.trans (HKr.out.mono (by omega) (λk hk _=>by omega))).trans (HKW.out.mono (by omega) (λk hk _=>by omega))).trans (k8.mono (by omega) (λk hk _=>by omega))
    have HK8:=hid hk8;have hz32:=Qah;generalize zY=z at hR8 hz32;have hcu:=Hcs2.out;clear hwr hw1 hwW hk8
    go_wp2_with (with_reducible refine wpList_store_row rfl 22 _ _ rfl wa cu rfl rfl 22 _ hR8 (by rw[Qgm,hcu]) (by rw[hz32,hcu]) Hall2.out ?_)
    obtain⟨t1,t2⟩:Kept w.heap.size w.heap.size w (w8.setRow wa cu)/\(w8.setRow wa cu).heap[wa]?=some (.cells cu 22 (0,0)):=
     ⟨HK8.out.trans ⟨rfl,rfl,rfl,by simp[World.setRow],λk hk _=>setRow_other w8 wa k cu (by have:=HWA.out;omega)⟩,setRow_heap w8 wa z cu _ _ hR8⟩
    refine bodyPost_ret (results_cell_row rfl _ _ wa 22 cu (0,0) _ rfl t2 Tryz.underlying22 rfl (by rw[Qgm,hcu])) rfl ?_
    exact⟨by rw[HUF.out],t1⟩
theorem Qbf (k:List UInt8)(hk:Hid (k.length=32))(label context:ByteArray)(h1:Hid (label.size<=8000))(h2:Hid (context.size<=8000))(w:World):
  Calls Tryz.prog 76 #[.agg (bY k).toArray,.string label,.string context] w λe w'=>e=.returned (.agg (bY (Mc.derive k label.data.toList context.data.toList)).toArray)/\Kept w.heap.size w.heap.size w w':=by
 generalize hkc:(bY k).toArray=kc;have Hkc:=hid hkc;clear hkc
 go_enter Tryz.func76,Tryz.ntmps76
 go_upto_region 1 with fail
 rw[Qao];have hP:((w.alloc (.cells kc 22)).alloc (.cells zY 22)).heap[w.heap.size]?=some (.cells kc 22 (0,0)):=heap_alloc2_old w _ _
 have hR:((w.alloc (.cells kc 22)).alloc (.cells zY 22)).heap[w.heap.size+1]?=some (.cells zY 22 (0,0)):=Qaq w _ _
 have k1:Kept w.heap.size w.heap.size w ((w.alloc (.cells kc 22)).alloc (.cells zY 22)):=(zI.alloc (zB _) _).alloc (by simp) _
 have s1:((w.alloc (.cells kc 22)).alloc (.cells zY 22)).heap.size=w.heap.size+2:=by simp
 generalize (w.alloc (.cells kc 22)).alloc (.cells zY 22)=w1 at hP hR k1 s1 |-
 obtain⟨wa,hwa⟩:∃wa,wa=w.heap.size:=⟨_,rfl⟩;rw[<-hwa] at hP hR k1 s1 |-
 have hcv:∀w',Kept w1.heap.size w1.heap.size w1 w'->(convert 106 9 (.slice (some ⟨wa,0,none⟩) 32 32)).run Tryz.prog w'=.ok (.string (str k)) w':=λw' kk=>
  Qfd hk.out (by rw[Hkc.out];exact(kk.block wa (by omega) (by omega)).trans hP)
 have hrow:∀w',Kept w1.heap.size w1.heap.size w1 w'->w'.heap[wa+1]?=some (.cells zY 22 (0,0)):=λw' kk=>(kk.block (wa+1) (by omega) (by omega)).trans hR
 have hcode:∀w':World,Calls Tryz.prog 103 #[.string (str k),.string (str (Mc.four label.size)++label++context)] w' λe w''=>e=.returned (.agg (bY (Mc.derive k label.data.toList context.data.toList)).toArray)/\Kept w'.heap.size w'.heap.size w' w'':=λw'=>by
  have hll:label.data.toList.length=label.size:=by simp
  have hz:(str (Mc.four label.size)++label++context).size<=19000:=by
   have e1:(str (Mc.four label.size)++label++context).size=(str (Mc.four label.size)++label).size+context.size:=ByteArray.size_append;have e2:(str (Mc.four label.size)++label).size=(str (Mc.four label.size)).size+label.size:=ByteArray.size_append;rw[e1,e2,Qai,Mc.four_length];have:=h1.out;have:=h2.out
   omega
  have:=Qlv (str k) (str (Mc.four label.size)++label++context) (hid (by rw[Qai,hk.out];decide)) (hid hz) w'
  rw[Qgd,ByteArray.data_append,ByteArray.data_append,Array.toList_append,Array.toList_append,Qgd] at this;rw[Mc.derive,hll];exact this
 have hcs:(bY (Mc.derive k label.data.toList context.data.toList)).toArray.size=32:=by rw[List.size_toArray,bZ,Mc.derive_length]
 have hall:=Qae (Mc.derive k label.data.toList context.data.toList);generalize hcu:(bY (Mc.derive k label.data.toList context.data.toList)).toArray=cu at hcode hcs hall;have hfour:=λw=>Qlt label.size (hid (by have:=h1.out;omega)) w
 have hq1:(str (Mc.four label.size)).size<=100:=by rw[Qai,Mc.four_length];decide
 have hq2:=h1.out;have hq3:=h2.out;have hst:∀w',w'.heap[wa+1]?=some (.cells zY 22 (0,0))->(storeCells ⟨wa+1,0,none⟩ cu.toList).run Tryz.prog w'=.ok () (w'.setRow (wa+1) cu):=λw' h=>Qdb w' (wa+1) 22 zY cu h (by rw[hcs];rfl) hall
 generalize str (Mc.four label.size)=s4 at hfour hcode hq1;generalize str k=sk at hcv hcode;have HCV:=hid hcv;have HROW:=hid hrow;have HCODE:=hid hcode;have HST:=hid hst;have Hcs:=hid hcs;have Hcu:=hid hcu;have H4:=hid hfour;have HK1:=hid k1;have HS1:=hid s1;have HWA:=hid hwa;have cA:=hcv w1.drew zI.drew;clear hcv hrow hcode hst hcs hcu hfour hP hR k1 s1 hwa hall
 go_region_with (first
  | (go_at_call 104;refine(H4.out _).mono ?_;rintro e w7 ⟨rfl,k7⟩;have K7:Kept w1.heap.size w1.heap.size w1 w7:=zI.drew.trans k7;have c7:=HCV.out w7 K7)
  | (go_at_call 103;refine(HCODE.out _).mono ?_;rintro e w8 ⟨rfl,k8⟩;have K8:Kept w1.heap.size w1.heap.size w1 w8:=K7.trans (k8.mono K7.size (λk hk _=>zD (zC hk K7.size)));have h8:=HST.out w8 (HROW.out w8 K8)))
 all_goals
  have t2:=setRow_heap w8 (wa+1) zY cu _ _ (HROW.out w8 K8)
  have t1:Kept w.heap.size w.heap.size w (w8.setRow (wa+1) cu):=by
   have e1:=HWA.out;have e2:=HS1.out;refine Kept.trans (w2:=w8) ?_ ⟨rfl,rfl,rfl,by simp[World.setRow],λk hk _=>setRow_other w8 (wa+1) k cu (by omega)⟩
   rw[<-e1];exact HK1.out.trans (K8.mono (by omega) (λk hk _=>by omega))
  have hcu:=Hcs.out
  go_wp2_with fail
  refine bodyPost_ret (results_cell_row rfl _ _ (wa+1) 22 cu (0,0) _ rfl t2 Tryz.underlying22 rfl (by rw[Qgm,hcu])) rfl ?_
  exact⟨by rw[Hcu.out],t1⟩
end Go.Proofs.YtnlbgggnpoeleaaGreatDoor
