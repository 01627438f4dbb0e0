/-
 PrimTag; PrimMask; PrimSeal; PrimOpen: several texts in one.
-/
import Derived.Test.YtnlbgggnpoeleaaGreatDoorGE
import Derived.Deep.OwnRows
set_option maxRecDepth 100000
set_option maxHeartbeats 3200000
namespace Go.Proofs.YtnlbgggnpoeleaaGreatDoor
open Go.RowKit Go.Lib
open List renaming setIfInBounds_toArray -> sA, set_cons_zero -> sB, set_cons_succ -> sC
open BigFrame renaming wpList_want -> wQ
def Qar:Array Value:=(bY (List.replicate 16 0)).toArray
theorem Qc8 : #[Value.int IntKind.u8 0,Value.int IntKind.u8 0,Value.int IntKind.u8 0,Value.int IntKind.u8 0,Value.int IntKind.u8 0,Value.int IntKind.u8 0,Value.int IntKind.u8 0,Value.int IntKind.u8 0,Value.int IntKind.u8 0,Value.int IntKind.u8 0,Value.int IntKind.u8 0,Value.int IntKind.u8 0,Value.int IntKind.u8 0,Value.int IntKind.u8 0,Value.int IntKind.u8 0,Value.int IntKind.u8 0]=Qar:=rfl
theorem Qcx:Qar.size = 16:=rfl
theorem Qn9 (w:World):(Instr.alloc 150 true (.tuple #[])).run Tryz.prog w=.ok (.pointer (some ⟨w.heap.size,0,none⟩)) (w.alloc (.cells Qar 150)):=by
 rw[<-Qc8];kernel_rfl
theorem tagInfo:(Tryz.prog.info? 150).map (·.size)=some 16:=by kernel_rfl
theorem Qgv:(Tryz.prog.info? 5).map (·.size)=some 1:=by kernel_rfl
theorem Qin (k:List UInt8)(hk:Hid (k.length=32))(about c:ByteArray)(h1:Hid (about.size<268435456))(h2:Hid (c.size<268435456))(w:World):Calls Tryz.prog 82 #[.agg (bY k).toArray,.string about,.string c] w λe w'=>e=.returned (.agg (bY (Pm.tag k about.data.toList c.data.toList)).toArray)/\Kept w.heap.size w.heap.size w w':=by
 have hku:=keyInfo hk.out;generalize hkc:(bY k).toArray=kc at hku;have Hkc:=hid hkc;have HKI:=hid hku
 have hd1:∀w',Calls Tryz.prog 98 #[.agg kc,.string ⟨#[116,97,103]⟩,.string ⟨#[]⟩] w' λe w''=>e=.returned (.agg (bY (Pm.tagKey k)).toArray)/\Kept w'.heap.size w'.heap.size w' w'':=λw'=>by
  rw[<-Hkc.out];exact Qdw k hk ⟨#[116,97,103]⟩ ⟨#[]⟩ (hid (by decide)) (hid (by decide)) w'
 have hd2:∀w',Calls Tryz.prog 98 #[.agg (bY (Pm.tagKey k)).toArray,.string about,.string c] w' λe w''=>e=.returned (.agg (bY (Mc.derive (Pm.tagKey k) about.data.toList c.data.toList)).toArray)/\Kept w'.heap.size w'.heap.size w' w'':=λw'=>Qdw (Pm.tagKey k) (hid (Pm.tagKey_length k)) about c h1 h2 w'
 have hml:(Mc.derive (Pm.tagKey k) about.data.toList c.data.toList).length=32:=Mc.derive_length _ _ _;have htg:Pm.tag k about.data.toList c.data.toList=(Mc.derive (Pm.tagKey k) about.data.toList c.data.toList).take 16:=rfl;rw[htg];generalize Mc.derive (Pm.tagKey k) about.data.toList c.data.toList=m at hd2 hml |-;have htl:(m.take 16).length=16:=by rw[List.length_take,hml];rfl
 have hui:=keyInfo hml;have huz:=keySize hml;have hua:=Qae m;have hti:(Tryz.prog.info? 150).map (·.size)=some (bY (m.take 16)).toArray.size:=by rw[tagInfo,List.size_toArray,bZ,htl]
 have htz:Qar.size=(bY (m.take 16)).toArray.size:=by rw[Qcx,List.size_toArray,bZ,htl]
 have hta:=Qae (m.take 16);generalize (bY (Pm.tagKey k)).toArray=ck at hd1 hd2;generalize hcu:(bY m).toArray=cu at hd2 hui huz hua;generalize hct:(bY (m.take 16)).toArray=ct at hti htz hta;have HCU:=hid hcu;have HCT:=hid hct;have HD1:=hid hd1;have HD2:=hid hd2;have HML:=hid hml;have HTL:=hid htl;have HUI:=hid hui;have HUZ:=hid huz;have HUA:=hid hua;have HTI:=hid hti;have HTZ:=hid htz;have HTA:=hid hta;clear hkc hku hd1 hd2 hml htl hui huz hua hti htz hta htg hcu hct
 go_enter Tryz.func82,Tryz.ntmps82
 go_upto_region 1 with fail
 rw[Qc8];have hP:((w.alloc (.cells kc 23)).alloc (.cells Qar 150)).heap[w.heap.size]?=some (.cells kc 23 (0,0)):=heap_alloc2_old w _ _
 have hR:((w.alloc (.cells kc 23)).alloc (.cells Qar 150)).heap[w.heap.size+1]?=some (.cells Qar 150 (0,0)):=Qaq w _ _
 have k1:Kept w.heap.size w.heap.size w ((w.alloc (.cells kc 23)).alloc (.cells Qar 150)):=(zI.alloc (zB _) _).alloc (by simp) _
 have s1:((w.alloc (.cells kc 23)).alloc (.cells Qar 150)).heap.size=w.heap.size+2:=by simp
 generalize (w.alloc (.cells kc 23)).alloc (.cells Qar 150)=w1 at hP hR k1 s1 |-
 obtain⟨wa,hwa⟩:∃wa,wa=w.heap.size:=⟨_,rfl⟩;rw[<-hwa] at hP hR k1 s1 |-;have hrow:∀w',Kept w1.heap.size w1.heap.size w1 w'->w'.heap[wa+1]?=some (.cells Qar 150 (0,0)):=λw' kk=>(kk.block (wa+1) (by omega) (by omega)).trans hR
 have HROW:=hid hrow;have HP:=hid hP;have HK1:=hid k1;have HS1:=hid s1;have HWA:=hid hwa;clear hrow hP k1 s1 hwa hR;refine zA ?_;refine Qav ?hwa0 23 _ rfl (wa) rfl 23 kc (0,0) _ (HP.out) Tryz.underlying23 rfl HKI.out ?_
 case hwa0=>kernel_rfl
 simp only[Act.put,sA,sB,sC];refine wW λK hK=>?_;go_simp;go_at_call 98;refine(HD1.out _).mono ?_;rintro e w2 ⟨rfl,k2⟩
 apply hK;clear hK K;iterate 2(refine wW λK hK=>?_;go_simp;apply hK;clear hK K)
 refine wW λK hK=>?_;go_simp;go_at_call 98;refine(HD2.out _).mono ?_;rintro e w3 ⟨rfl,k3⟩
 apply hK;clear hK K;have K3:Kept w1.heap.size w1.heap.size w1 w3:=k2.trans (k3.mono k2.size (λi hi _=>by have:=k2.size;omega))
 refine Qa8 rfl 23 rfl (Qhl _) ?_
 simp only[Act.put,sA,sB,sC];refine wpList_store_row rfl 23 _ _ rfl (w3.heap.size) cu rfl rfl 23 zY (Qaa _ _) HUI.out HUZ.out HUA.out ?_
 simp only[Act.put];have K4:Kept w1.heap.size w1.heap.size w1 (w3.alloc (.cells zY 23)):=K3.alloc K3.size _
 have K5:Kept w1.heap.size w1.heap.size w1 ((w3.alloc (.cells zY 23)).setRow w3.heap.size cu):=Kept.ofBelow (below_setRow (K4.below (zB _) (zB _)) K3.size cu) (zB _)
 have r5:=setRow_heap (w3.alloc (.cells zY 23)) w3.heap.size zY cu _ _ (Qaa _ _)
 generalize (w3.alloc (.cells zY 23)).setRow w3.heap.size cu=w5 at K5 r5 |-
 generalize w3.heap.size=wc at r5 |-;clear K4
 go_upto_region 2 with fail
 refine zA ?_;refine Qa8 rfl 150 rfl (Qn9 _) ?_
 simp only[Act.put,sA,sB,sC];have K6:Kept w1.heap.size w1.heap.size w1 (w5.alloc (.cells Qar 150)):=K5.alloc K5.size _
 have r6:(w5.alloc (.cells Qar 150)).heap[wc]?=some (.cells cu 23 (0,0)):=by rw[Below.heap_alloc _ _ _ (zF r5)];exact r5
 have t6:(w5.alloc (.cells Qar 150)).heap[w5.heap.size]?=some (.cells Qar 150 (0,0)):=Qaa _ _
 have hwt:w1.heap.size<=w5.heap.size:=K5.size;generalize w5.alloc (.cells Qar 150)=w6 at K6 r6 t6 |-
 generalize w5.heap.size=wt at t6 hwt |-;have R6:=hid r6;have T6:=hid t6;have HK6:=hid K6;have HWT:=hid hwt;clear r5 K5 K3 k2 k3 r6 t6 K6 hwt
 go_upto_region 3 with fail
 refine wp_region_still_tail 2 (by kernel_rfl) (by kernel_rfl) ?_
 simp only[List.take_succ_cons,List.take_zero,List.drop_succ_cons,List.drop_zero];generalize hw9:({ heap:=w6.heap,tape:=w6.tape,drawn:=w6.drawn+1,os:=w6.os,output:=w6.output }:World)=wd
 have r7:wd.heap[wc]?=some (.cells cu 23 (0,0)):=by rw[<-hw9];exact R6.out
 have t7:wd.heap[wt]?=some (.cells Qar 150 (0,0)):=by rw[<-hw9];exact T6.out
 have K7:Kept w1.heap.size w1.heap.size w1 wd:=by rw[<-hw9];exact HK6.out.drew
 have hcp:=run_copy_row (P:=Tryz.prog) wd 106 106 3 5 wt 0 16 16 ⟨wc,0,none⟩ 32 32 Qar 150 (bY (m.take 16)) Tryz.underlying106 Qgv t7 (by rw[bZ,HTL.out];rfl) (λj v hj=>by
  rw[Addr.add_lit]
  have hj2:j<16:=by
   have:=(List.getElem?_eq_some_iff.1 hj).1;rw[bZ,HTL.out] at this;exact this
  have hj3:(bY m)[j]?=some v:=by
   rw[<-hj];simp[bY,hj2]
  have r7b:=r7;rw[<-HCU.out] at r7b;rw[Nat.zero_add]
  exact Qag r7b hj3) (by rw[bZ,HTL.out,Qcx];decide) (Qan _)
 have hrw:(Qar.toList.take 0++bY (m.take 16)++Qar.toList.drop (0+(bY (m.take 16)).length)).toArray=ct:=by
  rw[List.take_zero,List.nil_append,Nat.zero_add,bZ,HTL.out,List.drop_of_length_le (by rw[Array.length_toList,Qcx];decide),List.append_nil,HCT.out]
 rw[hrw] at hcp;have t8:=setRow_heap wd wt Qar ct _ _ t7;have K8:Kept w1.heap.size w1.heap.size w1 (wd.setRow wt ct):=Kept.ofBelow (below_setRow (K7.below (zB _) (zB _)) HWT.out ct) (zB _);generalize wd.setRow wt ct=w8 at hcp t8 K8;have Hcp:=hid hcp;have T8:=hid t8;have HK8:=hid K8;clear hw9 r7 t7 K7 hcp hrw t8 K8;iterate 2 still_step
 refine wpStill_nil ?_
 go_wp2_with fail
 rw[Hcp.out]
 go_upto_region 4 with fail
 refine zA ?_;refine Qav ?hwc0 150 _ rfl (wt) rfl 150 ct (0,0) _ (T8.out) Tryz.underlying150 rfl HTI.out ?_
 case hwc0=>kernel_rfl
 simp only[Act.put,sA,sB,sC];refine wpList_store_row rfl 150 _ _ rfl (wa+1) ct rfl rfl 150 Qar (HROW.out w8 HK8.out) HTI.out HTZ.out HTA.out ?_
 simp only[Act.put];have t2:=setRow_heap w8 (wa+1) Qar ct _ _ (HROW.out w8 HK8.out)
 have t1:Kept w.heap.size w.heap.size w (w8.setRow (wa+1) ct):=by
  have e1:=HWA.out;have e2:=HS1.out;refine Kept.trans (w2:=w8) ?_ ⟨rfl,rfl,rfl,by simp[World.setRow],λk hk _=>setRow_other w8 (wa+1) k ct (by omega)⟩
  rw[<-e1];exact HK1.out.trans (HK8.out.mono (by omega) (λk hk _=>by omega))
 have hti:=HTI.out
 go_wp2_with fail
 refine bodyPost_ret (results_cell_row rfl _ _ (wa+1) 150 ct (0,0) _ rfl t2 Tryz.underlying150 rfl hti) rfl ?_
 exact⟨rfl,t1⟩
open Go.RowKit
open Go.Lib (hid)
theorem Qrg (k:List UInt8)(hk:Hid (k.length=32))(n:Nat)(h2:Hid (n<=65536))(w:World):Calls Tryz.prog 113 #[.agg (bY k).toArray,.int .i64 (n:Int)] w λe w'=>e=.returned (.string (str (Mc.stream k n)))/\Kept w.heap.size w.heap.size w w':=by
 by_cases h0:n=0
 ·subst h0
  rw[Mc.stream_zero];exact Qoj k ((0:Nat):Int) (.inl (by decide)) w
 ·exact Qmr k hk n (hid (by omega)) h2 w
theorem maskInfo:(Tryz.prog.info? 5).map (·.size)=some 1:=by kernel_rfl
def mixed (s st:List UInt8)(j:Nat):List UInt8:=Pm.both (s.take j) (st.take j)++st.drop j
theorem Qr8 (s st:List UInt8):mixed s st 0=st:=by simp[mixed,Pm.both]
theorem Quk (s st:List UInt8)(h:s.length=st.length):mixed s st s.length=Pm.both s st:=by
 rw[mixed,List.take_of_length_le (zB _),h,List.take_of_length_le (zB _),List.drop_of_length_le (zB _),List.append_nil]
theorem Qcg (s st:List UInt8)(h:s.length=st.length)(j:Nat)(hj:j<=s.length):(Pm.both (s.take j) (st.take j)).length=j:=by
 rw[Pm.both_length _ _ (by rw[List.length_take,List.length_take,h]),List.length_take]
 omega
theorem Qnd (s st:List UInt8)(h:s.length=st.length)(j:Nat)(hj:j<=s.length):(mixed s st j).length=s.length:=by
 rw[mixed,zE,Qcg s st h j hj,List.length_drop]
 omega
theorem Qwd (s st:List UInt8)(h:s.length=st.length)(j:Nat)(hj:j<s.length):(mixed s st j)[j]?=some (st[j]'(by omega)):=by
 rw[mixed,List.getElem?_append_right (by rw[Qcg s st h j (by omega)];exact zB _),Qcg s st h j (by omega),Nat.sub_self,List.getElem?_drop,Nat.add_zero,List.getElem?_eq_getElem]
theorem Qr9 (s st:List UInt8)(h:s.length=st.length)(j:Nat)(hj:j<s.length):mixed s st (j+1)=(mixed s st j).set j (st[j]'(by omega) ^^^ s[j]):=by
 have hl:=Qcg s st h j (by omega)
 have hd:st.drop j=st[j]'(by omega)::st.drop (j+1):=by rw[List.drop_eq_getElem_cons]
 rw[mixed,mixed,hd,List.set_append_right _ _ (by omega),hl,Nat.sub_self,List.set_cons_zero,List.take_succ_eq_append_getElem hj,List.take_succ_eq_append_getElem (show j<st.length by omega),Pm.both,List.zipWith_append (by rw[List.length_take,List.length_take,h])]
 rw[List.append_assoc]
 congr 1
 simp[UInt8.xor_comm]
theorem Qhy (k:List UInt8)(hk:Hid (k.length=32))(s:List UInt8)(hs:Hid (s.length<=65536))(w:World):Calls Tryz.prog 81 #[.agg (bY k).toArray,.string (str s)] w λe w'=>∃g,e=.returned (.slice (some ⟨g,0,none⟩) s.length s.length)/\w.heap.size<=g/\w'.heap[g]?=some (.cells (bY (Pm.cross k s)).toArray 5 (0,0))/\Kept w.heap.size w.heap.size w w':=by
 have hku:(Tryz.prog.info? 23).map (·.size)=some (bY k).toArray.size:=by rw[Qbi,List.size_toArray,bZ,hk.out]
 generalize hkc:(bY k).toArray=kc at hku;have Hkc:=hid hkc;have HKI:=hid hku;obtain⟨st,hst⟩:∃st,st=Mc.stream (Pm.under k) s.length:=⟨_,rfl⟩;have hstl:s.length=st.length:=by rw[hst,Mc.stream_length]
 have hcr:Pm.cross k s=Pm.both s st:=by rw[Pm.cross,hst]
 obtain⟨sx,hsx⟩:∃sx,sx=str s:=⟨_,rfl⟩;have hsl:s.length=sx.size:=by rw[hsx,Qai]
 have hsj:∀j (h1:j<sx.size) (h2:j<s.length),sx[j]'h1=s[j]:=λj h1 h2=>by subst hsx;rfl
 have hdv:∀w',Calls Tryz.prog 98 #[.agg kc,.string ⟨#[115,116,114,101,97,109]⟩,.string ⟨#[]⟩] w' λe w''=>e=.returned (.agg (bY (Pm.under k)).toArray)/\Kept w'.heap.size w'.heap.size w' w'':=λw'=>by
  rw[<-Hkc.out];exact Qdw k hk ⟨#[115,116,114,101,97,109]⟩ ⟨#[]⟩ (hid (by decide)) (hid (by decide)) w'
 have hsr:∀w',Calls Tryz.prog 113 #[.agg (bY (Pm.under k)).toArray,.int .i64 (sx.size:Int)] w' λe w''=>e=.returned (.string (str st))/\Kept w'.heap.size w'.heap.size w' w'':=λw'=>by
  rw[hst,hsl];exact Qrg (Pm.under k) (hid (Pm.under_length k)) sx.size (hid (by rw[<-hsl];exact hs.out)) w'
 have hn64:sx.size<=65536:=by rw[<-hsl];exact hs.out
 generalize (bY (Pm.under k)).toArray=cu at hdv hsr;rw[<-hsx,hcr,hsl];obtain⟨i8,hi8,hz8,hs8,hb8⟩:=Qhp;have HI8:=hid hi8;have HZ8:=hid hz8;have HS8:=hid hs8;have HB8:=hid hb8;have HDV:=hid hdv;have HSR:=hid hsr;have HSL:=hid hsl;have HSTL:=hid hstl;have HSJ:=hid hsj;clear hkc hku hst hcr hsx hdv hsr hi8 hz8 hs8 hb8 hsl hstl hsj
 go_enter Tryz.func81,Tryz.ntmps81
 go_upto_region 1 with fail
 have hP:(w.alloc (.cells kc 23)).heap[w.heap.size]?=some (.cells kc 23 (0,0)):=Qaa _ _
 have k1:Kept w.heap.size w.heap.size w (w.alloc (.cells kc 23)):=zI.alloc (zB _) _
 generalize w.alloc (.cells kc 23)=w1 at hP k1 |-
 obtain⟨wa,hwa⟩:∃wa,wa=w.heap.size:=⟨_,rfl⟩;rw[<-hwa] at hP |-;have HWA:=hid hwa;clear hwa;refine zA ?_;iterate 2(refine wW λK hK=>?_;go_simp;apply hK;clear hK K)
 refine wpList_make_row w1 rfl _ _ 106 rfl 5 i8 (.int .u8 0) Tryz.underlying106 HI8.out HZ8.out HS8.out rfl .i64 .i64 sx.size rfl rfl (by rw[HB8.out];omega) (by omega) ?_
 simp only[Act.put,sA,sB,sC];refine wW λK hK=>?_;go_simp;apply hK;clear hK K;have hG:(w1.alloc (.cells (madeCells #[.int .u8 0] sx.size) 5)).heap[w1.heap.size]?=some (.cells (madeCells #[.int .u8 0] sx.size) 5 (0,0)):=Qaa _ _
 have k2:Kept w1.heap.size w1.heap.size w1 (w1.alloc (.cells (madeCells #[.int .u8 0] sx.size) 5)):=zI.alloc (zB _) _
 have hmc:(madeCells #[Value.int .u8 0] sx.size).size=sx.size:=size_madeCells _ _;have hP2:=rk hP k2;generalize madeCells #[Value.int .u8 0] sx.size=zc at hG k2 hmc hP2 |-;generalize w1.alloc (.cells zc 5)=w2 at hG k2 hP2 |-
 obtain⟨g,hg⟩:∃g,g=w1.heap.size:=⟨_,rfl⟩;rw[<-hg] at hG |-;have hgk:Kept w1.heap.size w1.heap.size w1 w2:=k2;have HP2:=hid hP2;have HG:=hid hG;have HK2:=hid k2;have HK1:=hid k1;have HWG:=hid hg;have HMC:=hid hmc;clear hP2 hG k2 k1 hg hmc hP hgk
 go_upto_region 2 with fail
 refine zA ?_;refine wW λK hK=>?_;go_simp;apply hK;clear hK K;refine Qav ?hwb1 23 _ rfl (wa) rfl 23 kc (0,0) _ (HP2.out) Tryz.underlying23 rfl HKI.out ?_
 case hwb1=>kernel_rfl
 simp only[Act.put,sA,sB,sC];refine wW λK hK=>?_;go_simp;go_at_call 98;refine(HDV.out _).mono ?_;rintro e w3 ⟨rfl,k3⟩
 apply hK;clear hK K;iterate 2(refine wW λK hK=>?_;go_simp;apply hK;clear hK K)
 refine wW λK hK=>?_;go_simp;go_at_call 113;refine(HSR.out _).mono ?_;rintro e w4 ⟨rfl,k4⟩
 apply hK;clear hK K;have k24:Kept w2.heap.size w2.heap.size w2 w4:=k3.trans (k4.mono k3.size (λi hi _=>by have:=k3.size;omega))
 have g4:w4.heap[g]?=some (.cells zc 5 (0,0)):=(k24.block _ (zF HG.out) (zD (zF HG.out))).trans HG.out
 have hss:(str st).size=sx.size:=by rw[Qai,<-HSTL.out,HSL.out]
 have hcp:=Qe0 (P:=Tryz.prog) w4 106 9 3 5 g 0 sx.size sx.size (str st) zc 5 sx.size (by rw[hss];exact(Nat.min_self _).symm) Tryz.underlying106 maskInfo g4 (by rw[HMC.out];omega)
 have hrow4:(zc.toList.take 0++bY ((str st).data.toList.take sx.size)++zc.toList.drop (0+sx.size)).toArray=(bY st).toArray:=by
  rw[List.take_zero,List.nil_append,Nat.zero_add,List.drop_of_length_le (by rw[Array.length_toList,HMC.out];exact zB _),List.append_nil,Qgd,List.take_of_length_le (by rw[<-HSTL.out,HSL.out];exact zB _)]
 rw[hrow4] at hcp;have r5:=setRow_heap w4 g zc (bY st).toArray _ _ g4
 have k5:Kept w1.heap.size w1.heap.size w1 (w4.setRow g (bY st).toArray):=by
  have e:=HWG.out;have k14:=HK2.out.trans (k24.mono HK2.out.size (λi hi _=>by have:=HK2.out.size;omega))
  exact Kept.ofBelow (below_setRow (k14.below (zB _) (zB _)) (by omega) _) (zB _)
 generalize w4.setRow g (bY st).toArray=w5 at hcp r5 k5;have Hcp:=hid hcp;have HR5:=hid r5;have HK5:=hid k5;generalize str st=sst at Hcp |-;clear hcp r5 k5 hrow4 g4 k24 k3 k4 hss
 go_wp2_with fail
 rw[Hcp.out]
 go_wp2_with fail
 go_loopw [19] (λi w9=>∃j:Nat,j<=sx.size/\i=.int .i64 (j:Int)/\Hid (w9.heap[g]?=some (.cells (bY (mixed s st j)).toArray 5 (0,0)))/\Hid (Kept w1.heap.size w1.heap.size w1 w9)) (λi _=>sx.size-(RowKit.intOf i).toNat)
 case atStart=>exact⟨0,by omega,rfl,hid (by rw[Qr8];exact HR5.out),HK5⟩
 case round=>
  obtain⟨j,hj,rfl,hR,hK⟩:=hrel
  by_cases hlt:j<sx.size
  ·have hjs:j<s.length:=by rw[HSL.out];exact hlt
   have hln:(j:Int)<(sx.size:Int):=by omega
   have hj0:¬(j:Int)<0:=by omega
   have hat:=Qwd s st HSTL.out j hjs;have hmo:=Qr9 s st HSTL.out j hjs;have hml:=Qnd s st HSTL.out j (by omega)
   have hsy:=HSJ.out j hlt hjs;generalize st[j]'(by have:=HSTL.out;omega)=X at hat hmo
   generalize s[j]=Y at hmo hsy;have hx:bits .xor .u8 (X.toNat:Int) ((sx[j]'hlt).toNat:Int)=((X ^^^ Y).toNat:Int):=by rw[hsy];exact xor8 X Y
   have c0:=Qmd hR.out hat;have hset:=Qj3 hR.out j (X ^^^ Y);rw[<-hmo] at hset;have f0:wr.frozen? ⟨g,j,none⟩=false:=by simp[World.frozen?,hR.out]
   have hk6:Kept w1.heap.size w1.heap.size w1 (wr.drew.setCell ⟨g,j,none⟩ (.int .u8 ((X ^^^ Y).toNat:Int))):=hK.out.drew.setCell (.inr (by show w1.heap.size<=g;rw[HWG.out];exact zB _)) _
   generalize (X ^^^ Y)=Z at hx hset hk6;have HX:=hid hx;have HSET:=hid hset;have HK6:=hid hk6;clear hat hmo hml hsy hset hk6 hx
   go_upto_region 6 with fail
   refine wp_region_still_tail 7 (by kernel_rfl) (by kernel_rfl) ?_
   simp only[List.take_succ_cons,List.take_zero,List.drop_succ_cons,List.drop_zero];generalize hw9:({ heap:=wr.heap,tape:=wr.tape,drawn:=wr.drawn+1,os:=wr.os,output:=wr.output }:World)=wd
   have c0d:wd.cell? ⟨g,j,none⟩=some (.int .u8 (X.toNat:Int)):=by rw[<-hw9];exact c0
   have f0d:wd.frozen? ⟨g,j,none⟩=false:=by rw[<-hw9];exact f0
   have HSETd:Hid ((wd.setCell ⟨g,j,none⟩ (.int .u8 (Z.toNat:Int))).heap[g]?=some (.cells (bY (mixed s st (j+1))).toArray 5 (0,0))):=hid (by rw[<-hw9];exact HSET.out)
   have HKd:Hid (Kept w1.heap.size w1.heap.size w1 (wd.setCell ⟨g,j,none⟩ (.int .u8 (Z.toNat:Int)))):=hid (by rw[<-hw9];exact HK6.out)
   clear hw9 c0 f0 hR HSET HK6;iterate 7 still_step
   refine wpStill_nil ?_
   go_wp2_with fail
   rw[HX.out];exact⟨⟨j+1,by omega,by rw[Int.natCast_add];rfl,HSETd,HKd⟩,by simp only[RowKit.intOf];omega⟩
  ·obtain rfl:j=sx.size:=by omega
   have hd3:decide ((sx.size:Int)<(sx.size:Int))=false:=decide_eq_false (by omega)
   have hRR:=hR.out;rw[show mixed s st sx.size=Pm.both s st by rw[<-HSL.out];exact Quk s st HSTL.out] at hRR
   have HRR:=hid hRR;clear hRR;go_wp2;go_ret;exact⟨g,rfl,by rw[HWG.out];exact HK1.out.size,HRR.out,HK1.out.trans (hK.out.mono HK1.out.size (λi hi _=>by have:=HK1.out.size;omega))⟩
theorem Qcs {w:World}{g:Nat}{l:List UInt8}{t:TypeId}(h:w.heap[g]?=some (.cells (bY l).toArray t (0,0)))(m:List UInt8)(n:Nat)(hm:m=l.take n)(hn:m.length=n)(c:Nat):(convert 106 9 (.slice (some ⟨g,0,none⟩) n c)).run Tryz.prog w=.ok (.string (str m)) w:=by
 have:=Qdx w g l t (0,0) h 0 c m (by rw[List.drop_zero,hn];exact hm)
 rwa[hn] at this
theorem Qse (n:Nat):madeCells #[Value.int .u8 0] n=(bY (List.replicate n 0)).toArray:=by
 apply Array.ext
 ·simp[madeCells,bY]
 ·intro i h1 h2
  simp[madeCells,bY,Nat.mod_one]
theorem Qv2 (k:List UInt8)(hk:Hid (k.length=32))(about:ByteArray)(h1:Hid (about.size<268435456))(s:List UInt8)(hs:Hid (s.length<=65536))(w:World):Calls Tryz.prog 45 #[.pointer none,.agg (bY k).toArray,.string about,.string (str s),.slice none 0 0] w λe w'=>e=.returned (.string (str (Pm.sealed k about.data.toList s)))/\Kept w.heap.size w.heap.size w w':=by
 have hku:=keyInfo hk.out;generalize hkc:(bY k).toArray=kc at hku;have Hkc:=hid hkc;have HKI:=hid hku;have hd:decide ((65536:Int)<((str s).size:Int))=false:=decide_eq_false (by rw[Qai];have:=hs.out;omega)
 have hn64:(str s).size<=65536:=by rw[Qai];exact hs.out
 have hmk:∀w',Calls Tryz.prog 81 #[.agg kc,.string (str s)] w' λe w2=>∃g,e=.returned (.slice (some ⟨g,0,none⟩) (str s).size (str s).size)/\w'.heap.size<=g/\w2.heap[g]?=some (.cells (bY (Pm.cross k s)).toArray 5 (0,0))/\Kept w'.heap.size w'.heap.size w' w2:=λw'=>by
  rw[<-Hkc.out];have:=Qhy k hk s hs w';rw[<-Qai s] at this;exact this
 have hcl:(Pm.cross k s).length=(str s).size:=by rw[Pm.cross_length,Qai]
 have htg:∀w',Calls Tryz.prog 82 #[.agg kc,.string about,.string (str (Pm.cross k s))] w' λe w''=>e=.returned (.agg (bY (Pm.tag k about.data.toList (Pm.cross k s))).toArray)/\Kept w'.heap.size w'.heap.size w' w'':=λw'=>by
  rw[<-Hkc.out];exact Qin k hk about (str (Pm.cross k s)) h1 (hid (by rw[Qai,hcl];omega)) w'
 have htl:(Pm.tag k about.data.toList (Pm.cross k s)).length=16:=Pm.tag_length _ _ _;have hsd:Pm.sealed k about.data.toList s=Pm.cross k s++Pm.tag k about.data.toList (Pm.cross k s):=rfl;rw[hsd];generalize Pm.tag k about.data.toList (Pm.cross k s)=tg at htg htl |-;generalize Pm.cross k s=cr at hmk hcl htg |-;generalize str s=sx at hd hn64 hmk hcl |-;obtain⟨res,hres⟩:∃res,res=str (cr++tg):=⟨_,rfl⟩;rw[<-hres];obtain⟨sc,hsc⟩:∃sc,sc=str cr:=⟨_,rfl⟩;rw[<-hsc] at htg;have hti:(Tryz.prog.info? 150).map (·.size)=some (bY tg).toArray.size:=by rw[tagInfo,List.size_toArray,bZ,htl]
 have htz:Qar.size=(bY tg).toArray.size:=by rw[Qcx,List.size_toArray,bZ,htl]
 have hta:=Qae tg;generalize hct:(bY tg).toArray=ct at htg hti htz hta;obtain⟨i8,hi8,hz8,hs8,hb8⟩:=Qhp;have HI8:=hid hi8;have HZ8:=hid hz8;have HS8:=hid hs8;have HB8:=hid hb8;have HMK:=hid hmk;have HCL:=hid hcl;have HTG:=hid htg;have HTL:=hid htl;have HTI:=hid hti;have HTZ:=hid htz;have HTA:=hid hta;have HRES:=hid hres;have HSC:=hid hsc;have HCT:=hid hct;clear hkc hku hmk hcl htg htl hti htz hta hct hi8 hz8 hs8 hb8 hsd hres hsc
 go_enter Tryz.func45,Tryz.ntmps45
 go_upto_region 5 with fail
 have hP:(w.alloc (.cells kc 23)).heap[w.heap.size]?=some (.cells kc 23 (0,0)):=Qaa _ _
 have k1:Kept w.heap.size w.heap.size w (w.alloc (.cells kc 23)):=zI.alloc (zB _) _
 generalize w.alloc (.cells kc 23)=w1 at hP k1 |-
 obtain⟨wa,hwa⟩:∃wa,wa=w.heap.size:=⟨_,rfl⟩;rw[<-hwa] at hP |-;have HWA:=hid hwa;clear hwa;refine zA ?_;iterate 2(refine wW λK hK=>?_;go_simp;apply hK;clear hK K)
 refine @wQ _ _ _ _ _ _ _ ?_ ?_;kernel_rfl;intro K hK;go_simp
 try go_bits
 apply hK;clear hK K;refine wpList_make_row w1 rfl _ _ 106 rfl 5 i8 (.int .u8 0) Tryz.underlying106 HI8.out HZ8.out HS8.out rfl .i64 .i64 (sx.size+16) (by rw[Int.natCast_add];rfl) (by rw[Int.natCast_add];rfl) (by rw[HB8.out];omega) (by omega) ?_
 simp only[Act.put,sA,sB,sC];refine wW λK hK=>?_;go_simp;apply hK;clear hK K;have hG:(w1.alloc (.cells (madeCells #[.int .u8 0] (sx.size+16)) 5)).heap[w1.heap.size]?=some (.cells (madeCells #[.int .u8 0] (sx.size+16)) 5 (0,0)):=Qaa _ _
 have k2:Kept w1.heap.size w1.heap.size w1 (w1.alloc (.cells (madeCells #[.int .u8 0] (sx.size+16)) 5)):=zI.alloc (zB _) _
 have hmc:(madeCells #[Value.int .u8 0] (sx.size+16)).size=sx.size+16:=size_madeCells _ _;have hP2:=rk hP k2;generalize hzc:madeCells #[Value.int .u8 0] (sx.size+16)=zc at hG k2 hmc hP2 |-;rw[Qse] at hzc;have HZC:=hid hzc;clear hzc;generalize w1.alloc (.cells zc 5)=w2 at hG k2 hP2 |-
 obtain⟨g,hg⟩:∃g,g=w1.heap.size:=⟨_,rfl⟩;rw[<-hg] at hG |-;have HP2:=hid hP2;have HG:=hid hG;have HK2:=hid k2;have HK1:=hid k1;have HWG:=hid hg;have HMC:=hid hmc;clear hP2 hG k2 k1 hg hmc hP
 go_upto_region 6 with fail
 refine zA ?_;refine wW λK hK=>?_;go_simp;apply hK;clear hK K;refine Qav ?hwb1 23 _ rfl (wa) rfl 23 kc (0,0) _ (HP2.out) Tryz.underlying23 rfl HKI.out ?_
 case hwb1=>kernel_rfl
 simp only[Act.put,sA,sB,sC];refine wW λK hK=>?_;go_simp;apply hK;clear hK K;refine wW λK hK=>?_;go_simp;go_at_call 81;refine(HMK.out _).mono ?_;rintro e w4 ⟨gm,rfl,hgm,hrm,k4⟩
 apply hK;clear hK K;have g4:w4.heap[g]?=some (.cells zc 5 (0,0)):=(k4.block _ (zF HG.out) (zD (zF HG.out))).trans HG.out
 have hcp:=run_copy_row (P:=Tryz.prog) w4 106 106 3 5 g 0 (sx.size+16) (sx.size+16) ⟨gm,0,none⟩ sx.size sx.size zc 5 (bY cr) Tryz.underlying106 Qgv g4 (by rw[bZ,HCL.out];exact(Nat.min_eq_left (Nat.le_add_right _ _)).symm) (λj v hj=>by rw[Addr.add_lit,Nat.zero_add];exact Qag hrm hj) (by rw[bZ,HCL.out,HMC.out];omega) (Qan _)
 obtain⟨zt,hzt⟩:∃zt,zt=zc.toList.drop (0+(bY cr).length):=⟨_,rfl⟩;have hzb:zt=bY (List.replicate 16 0):=by rw[hzt,<-HZC.out,List.toList_toArray,bZ,HCL.out,bY,<-List.map_drop,List.drop_replicate,show sx.size+16-(0+sx.size)=16 by omega];rfl
 rw[List.take_zero,List.nil_append,<-hzt,hzb,<-Qax] at hcp;obtain⟨row,hrow⟩:∃row,row=cr++List.replicate 16 0:=⟨_,rfl⟩;rw[<-hrow] at hcp;have HROW:=hid hrow;clear hrow;have r5:=setRow_heap w4 g zc (bY row).toArray _ _ g4;have k14:=HK2.out.trans (k4.mono HK2.out.size (λi hi _=>by have:=HK2.out.size;omega))
 have k5:Kept w1.heap.size w1.heap.size w1 (w4.setRow g (bY row).toArray):=by
  have e:=HWG.out;exact Kept.ofBelow (below_setRow (k14.below (zB _) (zB _)) (by omega) _) (zB _)
 have p5:(w4.setRow g (bY row).toArray).heap[wa]?=some (.cells kc 23 (0,0)):=by
  have p4:=(k4.block _ (zF HP2.out) (zD (zF HP2.out))).trans HP2.out
  have hne:wa≠g:=λe=>by
   subst e;rw[g4] at p4;injection p4 with p4
   injection p4 with _ p5 _
   exact absurd p5 (by decide)
  rw[setRow_other w4 g wa _ hne];exact p4
 generalize hw5:w4.setRow g (bY row).toArray=w5 at hcp r5 k5 p5;have Hcp:=hid hcp;have HR5:=hid r5;have HK5:=hid k5;have HP5:=hid p5;clear hcp r5 k5 p5 hzb g4 k14 k4 hrm hgm hzt hw5
 go_wp2_with fail
 rw[Hcp.out]
 have hld:∀w',Kept w5.heap.size w5.heap.size w5 w'->(loadVar 23 ⟨wa,0,none⟩).run Tryz.prog w'=.ok (.agg kc) w'/\(convert 106 9 (.slice (some ⟨g,0,none⟩) sx.size (sx.size+16))).run Tryz.prog w'=.ok (.string sc) w':=λw' kk=>by
  have hrow:=(kk.block _ (zF HR5.out) (zD (zF HR5.out))).trans HR5.out;refine⟨run_loadVar_row w' wa 23 23 kc (0,0) _ (rk HP5.out kk) Tryz.underlying23 rfl HKI.out,?_⟩
  rw[HSC.out];exact Qcs hrow cr sx.size (by rw[HROW.out,List.take_append_of_le_length (by rw[HCL.out];exact zB _),List.take_of_length_le (by rw[HCL.out];exact zB _)]) HCL.out _
 have HLD:=hid hld;clear hld;have hb1:(sx.size:Int)<=(sx.size:Int)+16:=by omega
 go_upto_region 7 with fail
 refine wp_region_noPanic ?_;refine wp_region_held_drew (S:=λw'=>Kept w5.heap.size w5.heap.size w5 w') (by kernel_rfl) (zI.drew) (λhH=>?_)
 refine tkA (i:=0) 33 (.agg kc) rfl (yK (by rfl) 23 _ rfl (wa) (0) rfl (.agg kc) (λw' hw'=>(HLD.out w' hw').1)) hH ?_
 simp only[sA,sB,sC];refine tkA (i:=1) 34 (.string about) rfl (.inl ⟨by rfl,λw9 _=>by go_simp⟩) hH ?_
 simp only[sA,sB,sC];refine tkA (i:=2) 35 (.slice (some ⟨g,0,none⟩) (sx.size+16) (sx.size+16)) rfl (.inl ⟨by rfl,λw9 _=>by go_simp⟩) hH ?_
 simp only[sA,sB,sC];refine tkA (i:=3) 36 (.string sx) rfl (.inl ⟨by rfl,λw9 _=>by go_simp⟩) hH ?_
 simp only[sA,sB,sC];refine tkA (i:=4) 37 (.int .i64 (sx.size:Int)) rfl (.inl ⟨by rfl,λw9 _=>by go_simp⟩) hH ?_
 simp only[sA,sB,sC];refine tkA (i:=5) 38 (.slice (some ⟨g,0,none⟩) sx.size (sx.size+16)) rfl (.inl ⟨by rfl,λw9 _=>by go_simp⟩) hH ?_
 simp only[sA,sB,sC];refine tkA (i:=6) 39 (.string sc) rfl (.inl ⟨by rfl,λw9 h9=>by have h8:=(HLD.out w9 h9).2;go_simp⟩) hH ?_
 simp only[sA,sB,sC];refine wpAnyH_ready (rs:=[7,8]) (by kernel_rfl) (by simp) ?_
 refine AllReadyH.cons rfl (λK hK=>?_) ?_
 ·rw[zG (by rfl)]
  go_simp
  go_wp2_with (go_at_call 82;refine(HTG.out _).mono ?_;rintro e w6 ⟨rfl,k6⟩)
  have KA:Kept w5.heap.size w5.heap.size w5 w6:=zI.drew.trans k6;refine hK.out _ _ (KA) (λhH=>?_)
  clear hK K;refine wpAnyH_ready (rs:=[8]) (by kernel_rfl) (by simp) ?_
  refine AllReadyH.cons rfl (λK hK=>?_) AllReadyH.nil
  rw[zG (by rfl)]
  go_simp;rw[Qc8];have KB:Kept w5.heap.size w5.heap.size w5 (w6.alloc (.cells Qar 150)):=KA.alloc KA.size _
  have HWT:Hid (w5.heap.size<=w6.heap.size):=hid KA.size;refine hK.out _ _ (KB) (λhH=>?_)
  clear hK K;refine wpAnyH_ready (rs:=[9]) (by kernel_rfl) (by simp) ?_
  refine AllReadyH.cons rfl (λK hK=>?_) AllReadyH.nil
  rw[zG (by rfl)]
  refine wp_store_row 150 _ _ rfl (w6.heap.size) ct rfl rfl 150 Qar (Qaa _ _) HTI.out HTZ.out HTA.out ?_
  have KS:Kept w5.heap.size w5.heap.size w5 ((w6.alloc (.cells Qar 150)).setRow (w6.heap.size) ct):=Kept.ofBelow (below_setRow (KB.below (zB _) (zB _)) HWT.out ct) (zB _)
  have tS:=setRow_heap (w6.alloc (.cells Qar 150)) (w6.heap.size) Qar ct _ _ (Qaa _ _)
  refine hK.out _ _ (KS) (λhH=>?_)
  clear hK K;refine wpAnyH_done (by kernel_rfl) ?_ _
  refine NoPanic.normal ?_;generalize (w6.alloc (.cells Qar 150)).setRow (w6.heap.size) ct=w8 at KS tS |-
  have r8:=(KS.block _ (zF HR5.out) (zD (zF HR5.out))).trans HR5.out;have hWT:=HWT.out;generalize (w6.heap.size)=wt at tS hWT |-;have HKS:=hid KS;have HTS:=hid tS;have HR8:=hid r8;clear KS tS r8 hWT
  go_upto_region 8 with fail
  refine wp_region_still_tail 5 (by kernel_rfl) (by kernel_rfl) ?_
  simp only[List.take_succ_cons,List.take_zero,List.drop_succ_cons,List.drop_zero];generalize hw9:({ heap:=w8.heap,tape:=w8.tape,drawn:=w8.drawn+1,os:=w8.os,output:=w8.output }:World)=wd
  have rd:wd.heap[g]?=some (.cells (bY row).toArray 5 (0,0)):=by rw[<-hw9];exact HR8.out
  have td:wd.heap[wt]?=some (.cells ct 150 (0,0)):=by rw[<-hw9];exact HTS.out
  have kd:Kept w5.heap.size w5.heap.size w5 wd:=by rw[<-hw9];exact HKS.out.drew
  have hrl:row.length=sx.size+16:=by rw[HROW.out,zE,HCL.out,List.length_replicate]
  have hcp:=run_copy_row (P:=Tryz.prog) wd 106 106 3 5 g sx.size 16 16 ⟨wt,0,none⟩ 16 16 (bY row).toArray 5 (bY tg) Tryz.underlying106 Qgv rd (by rw[bZ,HTL.out];rfl) (λj v hj=>by
   rw[Addr.add_lit,Nat.zero_add];have tdb:=td;rw[<-HCT.out] at tdb
   exact Qag tdb hj) (by rw[bZ,HTL.out,List.size_toArray,bZ,hrl];exact zB _) (Qan _)
  have hfin:((bY row).toArray.toList.take sx.size++bY tg++(bY row).toArray.toList.drop (sx.size+(bY tg).length)).toArray=(bY (cr++tg)).toArray:=by
   rw[List.toList_toArray,bZ,HTL.out,List.drop_of_length_le (by rw[bZ,hrl];exact zB _),List.append_nil,HROW.out,Qax,List.take_append_of_le_length (by rw[bZ,HCL.out];exact zB _),List.take_of_length_le (by rw[bZ,HCL.out];exact zB _),Qax]
  rw[hfin] at hcp;have rf:=setRow_heap wd g _ (bY (cr++tg)).toArray _ _ rd;have k15:Kept w1.heap.size w1.heap.size w1 wd:=HK5.out.trans (kd.mono HK5.out.size (λi hi _=>by have:=HK5.out.size;omega))
  have kf:Kept w1.heap.size w1.heap.size w1 (wd.setRow g (bY (cr++tg)).toArray):=by
   have e:=HWG.out;exact Kept.ofBelow (below_setRow (k15.below (zB _) (zB _)) (by omega) _) (zB _)
  generalize wd.setRow g (bY (cr++tg)).toArray=wf at hcp rf kf
  have cv:(convert 106 9 (.slice (some ⟨g,0,none⟩) (sx.size+16) (sx.size+16))).run Tryz.prog wf=.ok (.string res) wf:=by
   rw[HRES.out];exact Qcs rf (cr++tg) (sx.size+16) (by rw[List.take_of_length_le (by rw[zE,HCL.out,HTL.out];exact zB _)]) (by rw[zE,HCL.out,HTL.out]) _
  have Hcp2:=hid hcp;have HKF:=hid kf;clear hw9 rd td kd hrl hcp hfin rf k15 kf;iterate 5 still_step
  refine wpStill_nil ?_
  go_wp2_with fail
  rw[Hcp2.out];go_wp2;go_ret;exact⟨rfl,HK1.out.trans (HKF.out.mono HK1.out.size (λi hi _=>by have:=HK1.out.size;omega))⟩
 ·refine AllReadyH.cons rfl (λK hK=>?_) AllReadyH.nil
  rw[zG (by rfl)]
  go_simp;rw[Qc8];have KA:Kept w5.heap.size w5.heap.size w5 (w5.drew.alloc (.cells Qar 150)):=zI.drew.alloc (zB _) _
  have tA:(w5.drew.alloc (.cells Qar 150)).heap[w5.heap.size]?=some (.cells Qar 150 (0,0)):=Qaa _ _
  refine hK.out _ _ (KA) (λhH=>?_)
  clear hK K;refine wpAnyH_ready (rs:=[7]) (by kernel_rfl) (by simp) ?_
  refine AllReadyH.cons rfl (λK hK=>?_) AllReadyH.nil
  rw[zG (by rfl)]
  go_simp
  go_wp2_with (go_at_call 82;refine(HTG.out _).mono ?_;rintro e w6 ⟨rfl,k6⟩)
  have KB:Kept w5.heap.size w5.heap.size w5 w6:=KA.trans (k6.mono KA.size (λi hi _=>zD (zC hi KA.size)))
  have tB:=rk tA k6;have HWT:Hid (w5.heap.size<=w5.heap.size):=hid (zB _);refine hK.out _ _ (KB) (λhH=>?_)
  clear hK K;refine wpAnyH_ready (rs:=[9]) (by kernel_rfl) (by simp) ?_
  refine AllReadyH.cons rfl (λK hK=>?_) AllReadyH.nil
  rw[zG (by rfl)]
  refine wp_store_row 150 _ _ rfl (w5.heap.size) ct rfl rfl 150 Qar (tB) HTI.out HTZ.out HTA.out ?_
  have KS:Kept w5.heap.size w5.heap.size w5 ((w6).setRow (w5.heap.size) ct):=Kept.ofBelow (below_setRow (KB.below (zB _) (zB _)) HWT.out ct) (zB _);have tS:=setRow_heap (w6) (w5.heap.size) Qar ct _ _ (tB);refine hK.out _ _ (KS) (λhH=>?_)
  clear hK K;refine wpAnyH_done (by kernel_rfl) ?_ _
  refine NoPanic.normal ?_;generalize (w6).setRow (w5.heap.size) ct=w8 at KS tS |-;have r8:=(KS.block _ (zF HR5.out) (zD (zF HR5.out))).trans HR5.out;have hWT:=HWT.out;generalize (w5.heap.size)=wt at tS hWT |-;have HKS:=hid KS;have HTS:=hid tS;have HR8:=hid r8;clear KS tS r8 hWT
  go_upto_region 8 with fail
  refine wp_region_still_tail 5 (by kernel_rfl) (by kernel_rfl) ?_
  simp only[List.take_succ_cons,List.take_zero,List.drop_succ_cons,List.drop_zero];generalize hw9:({ heap:=w8.heap,tape:=w8.tape,drawn:=w8.drawn+1,os:=w8.os,output:=w8.output }:World)=wd
  have rd:wd.heap[g]?=some (.cells (bY row).toArray 5 (0,0)):=by rw[<-hw9];exact HR8.out
  have td:wd.heap[wt]?=some (.cells ct 150 (0,0)):=by rw[<-hw9];exact HTS.out
  have kd:Kept w5.heap.size w5.heap.size w5 wd:=by rw[<-hw9];exact HKS.out.drew
  have hrl:row.length=sx.size+16:=by rw[HROW.out,zE,HCL.out,List.length_replicate]
  have hcp:=run_copy_row (P:=Tryz.prog) wd 106 106 3 5 g sx.size 16 16 ⟨wt,0,none⟩ 16 16 (bY row).toArray 5 (bY tg) Tryz.underlying106 Qgv rd (by rw[bZ,HTL.out];rfl) (λj v hj=>by
   rw[Addr.add_lit,Nat.zero_add];have tdb:=td;rw[<-HCT.out] at tdb
   exact Qag tdb hj) (by rw[bZ,HTL.out,List.size_toArray,bZ,hrl];exact zB _) (Qan _)
  have hfin:((bY row).toArray.toList.take sx.size++bY tg++(bY row).toArray.toList.drop (sx.size+(bY tg).length)).toArray=(bY (cr++tg)).toArray:=by
   rw[List.toList_toArray,bZ,HTL.out,List.drop_of_length_le (by rw[bZ,hrl];exact zB _),List.append_nil,HROW.out,Qax,List.take_append_of_le_length (by rw[bZ,HCL.out];exact zB _),List.take_of_length_le (by rw[bZ,HCL.out];exact zB _),Qax]
  rw[hfin] at hcp;have rf:=setRow_heap wd g _ (bY (cr++tg)).toArray _ _ rd;have k15:Kept w1.heap.size w1.heap.size w1 wd:=HK5.out.trans (kd.mono HK5.out.size (λi hi _=>by have:=HK5.out.size;omega))
  have kf:Kept w1.heap.size w1.heap.size w1 (wd.setRow g (bY (cr++tg)).toArray):=by
   have e:=HWG.out;exact Kept.ofBelow (below_setRow (k15.below (zB _) (zB _)) (by omega) _) (zB _)
  generalize wd.setRow g (bY (cr++tg)).toArray=wf at hcp rf kf
  have cv:(convert 106 9 (.slice (some ⟨g,0,none⟩) (sx.size+16) (sx.size+16))).run Tryz.prog wf=.ok (.string res) wf:=by
   rw[HRES.out];exact Qcs rf (cr++tg) (sx.size+16) (by rw[List.take_of_length_le (by rw[zE,HCL.out,HTL.out];exact zB _)]) (by rw[zE,HCL.out,HTL.out]) _
  have Hcp2:=hid hcp;have HKF:=hid kf;clear hw9 rd td kd hrl hcp hfin rf k15 kf;iterate 5 still_step
  refine wpStill_nil ?_
  go_wp2_with fail
  rw[Hcp2.out];go_wp2;go_ret;exact⟨rfl,HK1.out.trans (HKF.out.mono HK1.out.size (λi hi _=>by have:=HK1.out.size;omega))⟩
theorem Qr7 (k:List UInt8)(hk:Hid (k.length=32))(about:ByteArray)(h1:Hid (about.size<268435456))(s:List UInt8)(n:Nat)(hn:s.length=n+16)(hn2:n<=65536)(w:World):Calls Tryz.prog 51 #[.agg (bY k).toArray,.string about,.string (str s)] w λe w'=>e=.returned (.tuple #[.string (str (Pm.opened k about.data.toList s).1),.int .i64 (((Pm.opened k about.data.toList s).2:Nat):Int)])/\Kept w.heap.size w.heap.size w w':=by
 have hop:Pm.opened k about.data.toList s=if(Pm.tag k about.data.toList (Pm.body s) == Pm.rest s)=true then(Pm.cross k (Pm.body s),0) else([],6):=by
  rw[Pm.opened,if_neg (by omega),if_neg (by omega)]
  by_cases h:Pm.tag k about.data.toList (Pm.body s)=Pm.rest s
  ·rw[zG h,zG (by rw[h];exact beq_self_eq_true _)]
  ·rw[if_neg h,if_neg (λe=>h (eq_of_beq e))]
 rw[hop];have hbl:(Pm.body s).length=n:=by rw[Pm.body,List.length_take];omega
 have hx1:(str s).extract 0 n=str (Pm.body s):=by rw[Qlk,Pm.body,hn,Nat.add_sub_cancel]
 have hx2:(str s).extract n (str s).size=str (Pm.rest s):=by rw[Qll,Pm.rest,hn,Nat.add_sub_cancel]
 have hsz:(str s).size=n+16:=by rw[Qai,hn]
 have hku:=keyInfo hk.out;generalize hkc:(bY k).toArray=kc at hku
 have htg:∀w',Calls Tryz.prog 82 #[.agg kc,.string about,.string (str (Pm.body s))] w' λe w''=>e=.returned (.agg (bY (Pm.tag k about.data.toList (Pm.body s))).toArray)/\Kept w'.heap.size w'.heap.size w' w'':=λw'=>by
  rw[<-hkc];exact Qin k hk about (str (Pm.body s)) h1 (hid (by rw[Qai,hbl];omega)) w'
 have hmk:∀w',Calls Tryz.prog 81 #[.agg kc,.string (str (Pm.body s))] w' λe w2=>∃g,e=.returned (.slice (some ⟨g,0,none⟩) n n)/\w'.heap.size<=g/\w2.heap[g]?=some (.cells (bY (Pm.cross k (Pm.body s))).toArray 5 (0,0))/\Kept w'.heap.size w'.heap.size w' w2:=λw'=>by
  rw[<-hkc];have:=Qhy k hk (Pm.body s) (hid (by rw[hbl];exact hn2)) w'
  rw[hbl] at this;exact this
 have hcl:(Pm.cross k (Pm.body s)).length=n:=by rw[Pm.cross_length,hbl]
 have htl:(Pm.tag k about.data.toList (Pm.body s)).length=16:=Pm.tag_length _ _ _;generalize Pm.cross k (Pm.body s)=cr at hmk hcl |-;generalize Pm.tag k about.data.toList (Pm.body s)=tg at htg htl |-;generalize Pm.rest s=rs at hx2 |-;generalize str (Pm.body s)=sb at hx1 htg hmk;generalize str s=sx at hx1 hx2 hsz |-;have hti:(Tryz.prog.info? 150).map (·.size)=some (bY tg).toArray.size:=by rw[tagInfo,List.size_toArray,bZ,htl]
 have htz:Qar.size=(bY tg).toArray.size:=by rw[Qcx,List.size_toArray,bZ,htl]
 have hta:=Qae tg;generalize hct:(bY tg).toArray=ct at htg hti htz hta;have HKI:=hid hku;have HMK:=hid hmk;have HCL:=hid hcl;have HTG:=hid htg;have HTL:=hid htl;have HTI:=hid hti;have HTZ:=hid htz;have HTA:=hid hta;have HCT:=hid hct;have hsub:(sx.size:Int)-16=(n:Int):=by rw[hsz,Int.natCast_add];omega
 have hb1:¬((n:Int)<0):=by omega
 have hb2:(n:Int)<=(sx.size:Int):=by rw[hsz,Int.natCast_add];omega
 have hb3:decide ((65536:Int)<(n:Int))=false:=decide_eq_false (by omega)
 have hb4:(sx.size:Int)<=100000:=by rw[hsz,Int.natCast_add];omega
 clear hkc hku hmk hcl htg htl hti htz hta hct hop hbl hn hsz
 go_enter Tryz.func51,Tryz.ntmps51
 go_upto_region 6 with fail
 have hP:(w.alloc (.cells kc 23)).heap[w.heap.size]?=some (.cells kc 23 (0,0)):=Qaa _ _
 have k1:Kept w.heap.size w.heap.size w (w.alloc (.cells kc 23)):=zI.alloc (zB _) _
 generalize w.alloc (.cells kc 23)=w5 at hP k1 |-
 obtain⟨wa,hwa⟩:∃wa,wa=w.heap.size:=⟨_,rfl⟩;rw[<-hwa] at hP |-;have hld:∀w',Kept w5.heap.size w5.heap.size w5 w'->(loadVar 23 ⟨wa,0,none⟩).run Tryz.prog w'=.ok (.agg kc) w':=λw' kk=>run_loadVar_row w' wa 23 23 kc (0,0) _ (rk hP kk) Tryz.underlying23 rfl HKI.out
 have HLD:=hid hld;have HK1:=hid k1;have HWA:=hid hwa;clear hwa hld k1 hP;refine wp_region_noPanic ?_;refine wp_region_held_drew (S:=λw'=>Kept w5.heap.size w5.heap.size w5 w') (by kernel_rfl) (zI.drew) (λhH=>?_)
 refine tkA (i:=0) 17 (.agg kc) rfl (yK (by rfl) 23 _ rfl (wa) (0) rfl (.agg kc) (λw' hw'=>HLD.out w' hw')) hH ?_
 simp only[sA,sB,sC];refine tkA (i:=1) 18 (.string about) rfl (.inl ⟨by rfl,λw9 _=>by go_simp⟩) hH ?_
 simp only[sA,sB,sC];refine tkA (i:=2) 19 (.string sx) rfl (.inl ⟨by rfl,λw9 _=>by go_simp⟩) hH ?_
 simp only[sA,sB,sC];refine tkA (i:=3) 20 (.int .i64 (n:Int)) rfl (.inl ⟨by rfl,λw9 _=>by go_simp⟩) hH ?_
 simp only[sA,sB,sC];refine tkA (i:=4) 21 (.string sb) rfl (.inl ⟨by rfl,λw9 _=>by go_simp⟩) hH ?_
 simp only[sA,sB,sC];refine wpAnyH_ready (rs:=[5,6]) (by kernel_rfl) (by simp) ?_
 refine AllReadyH.cons rfl (λK hK=>?_) ?_
 ·rw[zG (by rfl)]
  go_simp
  go_wp2_with (go_at_call 82;refine(HTG.out _).mono ?_;rintro e w6 ⟨rfl,k6⟩)
  have KA:Kept w5.heap.size w5.heap.size w5 w6:=zI.drew.trans k6;refine hK.out _ _ (KA) (λhH=>?_)
  clear hK K;refine wpAnyH_ready (rs:=[6]) (by kernel_rfl) (by simp) ?_
  refine AllReadyH.cons rfl (λK hK=>?_) AllReadyH.nil
  rw[zG (by rfl)]
  go_simp;rw[Qc8];have KB:Kept w5.heap.size w5.heap.size w5 (w6.alloc (.cells Qar 150)):=KA.alloc KA.size _
  have HWT:Hid (w5.heap.size<=w6.heap.size):=hid KA.size;refine hK.out _ _ (KB) (λhH=>?_)
  clear hK K;refine wpAnyH_ready (rs:=[7]) (by kernel_rfl) (by simp) ?_
  refine AllReadyH.cons rfl (λK hK=>?_) AllReadyH.nil
  rw[zG (by rfl)]
  refine wp_store_row 150 _ _ rfl (w6.heap.size) ct rfl rfl 150 Qar (Qaa _ _) HTI.out HTZ.out HTA.out ?_
  have KS:Kept w5.heap.size w5.heap.size w5 ((w6.alloc (.cells Qar 150)).setRow (w6.heap.size) ct):=Kept.ofBelow (below_setRow (KB.below (zB _) (zB _)) HWT.out ct) (zB _)
  have tS:=setRow_heap (w6.alloc (.cells Qar 150)) (w6.heap.size) Qar ct _ _ (Qaa _ _)
  refine hK.out _ _ (KS) (λhH=>?_)
  clear hK K;refine wpAnyH_done (by kernel_rfl) ?_ _
  refine NoPanic.normal ?_;generalize (w6.alloc (.cells Qar 150)).setRow (w6.heap.size) ct=w8 at KS tS |-
  generalize (w6.heap.size)=wt at tS |-;have HKS:=hid KS;have HTS:=hid tS;clear KS tS
  go_upto_region 7 with fail
  refine wp_region_still_tail 5 (by kernel_rfl) (by kernel_rfl) ?_
  simp only[List.take_succ_cons,List.take_zero,List.drop_succ_cons,List.drop_zero];generalize hw9:({ heap:=w8.heap,tape:=w8.tape,drawn:=w8.drawn+1,os:=w8.os,output:=w8.output }:World)=wd
  have td:wd.heap[wt]?=some (.cells ct 150 (0,0)):=by rw[<-hw9];exact HTS.out
  have kd:Kept w5.heap.size w5.heap.size w5 wd:=by rw[<-hw9];exact HKS.out.drew
  have cv:(convert 106 9 (.slice (some ⟨wt,0,none⟩) 16 16)).run Tryz.prog wd=.ok (.string (str tg)) wd:=by
   rw[<-HCT.out] at td;exact Qcs td tg 16 (by rw[List.take_of_length_le (by rw[HTL.out];exact zB _)]) HTL.out 16
  have HKD:=hid kd;clear hw9 td kd;iterate 5 still_step
  refine wpStill_nil ?_;refine wW λK hK=>?_;go_simp;apply hK;clear hK K;generalize hq:(tg == rs)=q
  cases q with
  | false=>
   go_wp2
   all_goals refine bodyPost_ret (results_tmp2 rfl _ _ _) rfl ?_
   all_goals exact⟨rfl,HK1.out.trans (HKD.out.mono HK1.out.size (λi hi _=>by have:=HK1.out.size;omega))⟩
  | true=>
   go_upto_region 9 with fail
   refine wp_region_noPanic ?_;refine wp_region_held_drew (S:=λw'=>Kept w5.heap.size w5.heap.size w5 w') (by kernel_rfl) (HKD.out.drew) (λhH=>?_)
   refine tkA (i:=0) 29 (.agg kc) rfl (yK (by rfl) 23 _ rfl (wa) (0) rfl (.agg kc) (λw' hw'=>HLD.out w' hw')) hH ?_
   simp only[sA,sB,sC];refine tkA (i:=1) 30 (.string sx) rfl (.inl ⟨by rfl,λw9 _=>by go_simp⟩) hH ?_
   simp only[sA,sB,sC];refine tkA (i:=2) 31 (.int .i64 (n:Int)) rfl (.inl ⟨by rfl,λw9 _=>by go_simp⟩) hH ?_
   simp only[sA,sB,sC];refine tkA (i:=3) 32 (.string sb) rfl (.inl ⟨by rfl,λw9 _=>by go_simp⟩) hH ?_
   simp only[sA,sB,sC];refine wpAnyH_ready (rs:=[4]) (by kernel_rfl) (by simp) ?_
   refine AllReadyH.cons rfl (λK hK=>?_) AllReadyH.nil
   rw[zG (by rfl)]
   go_simp
   go_wp2_with (go_at_call 81;refine(HMK.out _).mono ?_;rintro e w10 ⟨gm,rfl,hgm,hrm,k10⟩)
   have K10:Kept w5.heap.size w5.heap.size w5 w10:=HKD.out.drew.trans (k10.mono HKD.out.drew.size (λi hi _=>zD (zC hi HKD.out.drew.size)))
   refine hK.out _ _ (K10) (λhH=>?_)
   clear hK K;have cv2:=Qcs hrm cr n (by rw[List.take_of_length_le (by rw[HCL.out];exact zB _)]) HCL.out n
   refine wpAnyH_ready (rs:=[5]) (by kernel_rfl) (by simp) ?_
   refine AllReadyH.cons rfl (λK hK=>?_) AllReadyH.nil
   rw[zG (by rfl)]
   go_simp;refine hK.out _ _ (K10) (λhH=>?_)
   clear hK K;refine tkA (i:=6) 6 (.string (str cr)) rfl (.inl ⟨by rfl,λw9 _=>by go_simp⟩) hH ?_
   simp only[sA,sB,sC];refine tkA (i:=7) 7 (.int .i64 0) rfl (.inl ⟨by rfl,λw9 _=>by go_simp⟩) hH ?_
   simp only[sA,sB,sC];refine wpAnyH_done (by kernel_rfl) ?_ _
   refine NoPanic.normal ?_;clear cv2;go_wp2;refine bodyPost_ret (results_tmp2 rfl _ _ _) rfl ?_;exact⟨rfl,HK1.out.trans (K10.mono HK1.out.size (λi hi _=>by have:=HK1.out.size;omega))⟩
 ·refine AllReadyH.cons rfl (λK hK=>?_) AllReadyH.nil
  rw[zG (by rfl)]
  go_simp;rw[Qc8];have KA:Kept w5.heap.size w5.heap.size w5 (w5.drew.alloc (.cells Qar 150)):=zI.drew.alloc (zB _) _
  have tA:(w5.drew.alloc (.cells Qar 150)).heap[w5.heap.size]?=some (.cells Qar 150 (0,0)):=Qaa _ _
  refine hK.out _ _ (KA) (λhH=>?_)
  clear hK K;refine wpAnyH_ready (rs:=[5]) (by kernel_rfl) (by simp) ?_
  refine AllReadyH.cons rfl (λK hK=>?_) AllReadyH.nil
  rw[zG (by rfl)]
  go_simp
  go_wp2_with (go_at_call 82;refine(HTG.out _).mono ?_;rintro e w6 ⟨rfl,k6⟩)
  have KB:Kept w5.heap.size w5.heap.size w5 w6:=KA.trans (k6.mono KA.size (λi hi _=>zD (zC hi KA.size)))
  have tB:=rk tA k6;have HWT:Hid (w5.heap.size<=w5.heap.size):=hid (zB _);refine hK.out _ _ (KB) (λhH=>?_)
  clear hK K;refine wpAnyH_ready (rs:=[7]) (by kernel_rfl) (by simp) ?_
  refine AllReadyH.cons rfl (λK hK=>?_) AllReadyH.nil
  rw[zG (by rfl)]
  refine wp_store_row 150 _ _ rfl (w5.heap.size) ct rfl rfl 150 Qar (tB) HTI.out HTZ.out HTA.out ?_
  have KS:Kept w5.heap.size w5.heap.size w5 ((w6).setRow (w5.heap.size) ct):=Kept.ofBelow (below_setRow (KB.below (zB _) (zB _)) HWT.out ct) (zB _);have tS:=setRow_heap (w6) (w5.heap.size) Qar ct _ _ (tB);refine hK.out _ _ (KS) (λhH=>?_)
  clear hK K;refine wpAnyH_done (by kernel_rfl) ?_ _
  refine NoPanic.normal ?_;generalize (w6).setRow (w5.heap.size) ct=w8 at KS tS |-;generalize (w5.heap.size)=wt at tS |-;have HKS:=hid KS;have HTS:=hid tS;clear KS tS
  go_upto_region 7 with fail
  refine wp_region_still_tail 5 (by kernel_rfl) (by kernel_rfl) ?_
  simp only[List.take_succ_cons,List.take_zero,List.drop_succ_cons,List.drop_zero];generalize hw9:({ heap:=w8.heap,tape:=w8.tape,drawn:=w8.drawn+1,os:=w8.os,output:=w8.output }:World)=wd
  have td:wd.heap[wt]?=some (.cells ct 150 (0,0)):=by rw[<-hw9];exact HTS.out
  have kd:Kept w5.heap.size w5.heap.size w5 wd:=by rw[<-hw9];exact HKS.out.drew
  have cv:(convert 106 9 (.slice (some ⟨wt,0,none⟩) 16 16)).run Tryz.prog wd=.ok (.string (str tg)) wd:=by
   rw[<-HCT.out] at td;exact Qcs td tg 16 (by rw[List.take_of_length_le (by rw[HTL.out];exact zB _)]) HTL.out 16
  have HKD:=hid kd;clear hw9 td kd;iterate 5 still_step
  refine wpStill_nil ?_;refine wW λK hK=>?_;go_simp;apply hK;clear hK K;generalize hq:(tg == rs)=q
  cases q with
  | false=>
   go_wp2
   all_goals refine bodyPost_ret (results_tmp2 rfl _ _ _) rfl ?_
   all_goals exact⟨rfl,HK1.out.trans (HKD.out.mono HK1.out.size (λi hi _=>by have:=HK1.out.size;omega))⟩
  | true=>
   go_upto_region 9 with fail
   refine wp_region_noPanic ?_;refine wp_region_held_drew (S:=λw'=>Kept w5.heap.size w5.heap.size w5 w') (by kernel_rfl) (HKD.out.drew) (λhH=>?_)
   refine tkA (i:=0) 29 (.agg kc) rfl (yK (by rfl) 23 _ rfl (wa) (0) rfl (.agg kc) (λw' hw'=>HLD.out w' hw')) hH ?_
   simp only[sA,sB,sC];refine tkA (i:=1) 30 (.string sx) rfl (.inl ⟨by rfl,λw9 _=>by go_simp⟩) hH ?_
   simp only[sA,sB,sC];refine tkA (i:=2) 31 (.int .i64 (n:Int)) rfl (.inl ⟨by rfl,λw9 _=>by go_simp⟩) hH ?_
   simp only[sA,sB,sC];refine tkA (i:=3) 32 (.string sb) rfl (.inl ⟨by rfl,λw9 _=>by go_simp⟩) hH ?_
   simp only[sA,sB,sC];refine wpAnyH_ready (rs:=[4]) (by kernel_rfl) (by simp) ?_
   refine AllReadyH.cons rfl (λK hK=>?_) AllReadyH.nil
   rw[zG (by rfl)]
   go_simp
   go_wp2_with (go_at_call 81;refine(HMK.out _).mono ?_;rintro e w10 ⟨gm,rfl,hgm,hrm,k10⟩)
   have K10:Kept w5.heap.size w5.heap.size w5 w10:=HKD.out.drew.trans (k10.mono HKD.out.drew.size (λi hi _=>zD (zC hi HKD.out.drew.size)))
   refine hK.out _ _ (K10) (λhH=>?_)
   clear hK K;have cv2:=Qcs hrm cr n (by rw[List.take_of_length_le (by rw[HCL.out];exact zB _)]) HCL.out n
   refine wpAnyH_ready (rs:=[5]) (by kernel_rfl) (by simp) ?_
   refine AllReadyH.cons rfl (λK hK=>?_) AllReadyH.nil
   rw[zG (by rfl)]
   go_simp;refine hK.out _ _ (K10) (λhH=>?_)
   clear hK K;refine tkA (i:=6) 6 (.string (str cr)) rfl (.inl ⟨by rfl,λw9 _=>by go_simp⟩) hH ?_
   simp only[sA,sB,sC];refine tkA (i:=7) 7 (.int .i64 0) rfl (.inl ⟨by rfl,λw9 _=>by go_simp⟩) hH ?_
   simp only[sA,sB,sC];refine wpAnyH_done (by kernel_rfl) ?_ _
   refine NoPanic.normal ?_;clear cv2;go_wp2;refine bodyPost_ret (results_tmp2 rfl _ _ _) rfl ?_;exact⟨rfl,HK1.out.trans (K10.mono HK1.out.size (λi hi _=>by have:=HK1.out.size;omega))⟩
end Go.Proofs.YtnlbgggnpoeleaaGreatDoor
