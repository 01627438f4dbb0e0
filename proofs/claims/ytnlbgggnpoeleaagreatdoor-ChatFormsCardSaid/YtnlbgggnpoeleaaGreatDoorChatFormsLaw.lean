/-
 The law ChatForms.
-/
import Derived.Test.YtnlbgggnpoeleaaGreatDoorCE
import Derived.Test.YtnlbgggnpoeleaaGreatDoorCF
import Derived.Test.YtnlbgggnpoeleaaGreatDoorCG
set_option maxRecDepth 100000
set_option maxHeartbeats 12800000
namespace Go.Proofs.YtnlbgggnpoeleaaGreatDoor
open Go.RowKit Go.Lib
open List renaming setIfInBounds_toArray -> sA, set_cons_zero -> sB, set_cons_succ -> sC
open BigFrame renaming wpList_want -> wQ
theorem Qkh (n:Nt)(hn:n.ep.length=32)(ha : -9223372036854775808<=n.author/\n.author<=9223372036854775807)(hg : -9223372036854775808<=n.gen/\n.gen<=9223372036854775807)(s:ByteArray)(w:World)(tab:Tab2 w):
  Calls Tryz.prog 3 #[.agg n.cells.toArray,.string s] w λe w'=>e=.returned (.bool true)/\Kept w.heap.size w.heap.size w w':=by
 have HAW:=hid (λ(x:World) (k:Kept w.heap.size w.heap.size w x)=>Qme x (tab.kept k))
 have HUN:=hid (λ(x:World) (k:Kept w.heap.size w.heap.size w x)=>Qfs s x (tab.kept k).t)
 have HRU:=hid (λ(x:World)=>Qg5 s x)
 have HPU:=hid (λ(h:Cn.unErr s.data.toList=0) (x:World) (k:Kept w.heap.size w.heap.size w x)=>(show Calls Tryz.prog 9 #[.agg (Cn.unNt s.data.toList).cells.toArray] x λe w'=>e=.returned (.string s)/\Kept x.heap.size x.heap.size x w' from by
  have:=Qhv (Cn.unNt s.data.toList) (Cn.unNt_ep _) x (tab.kept k).t;rw[Cn.packed,zG (Cn.un_right h).1,(Cn.un_right h).2,Qff] at this
  exact this))
 have HNA:=hid (λ(x:World) (k:Kept w.heap.size w.heap.size w x)=>Qhx n.ep hn n.author n.gen ha.1 ha.2 hg.1 hg.2 x (tab.kept k))
 have HNB:=hid (λ(x:World)=>Qiw n.ep hn n.author n.gen ha.1 ha.2 hg.1 hg.2 x)
 have HRT:=hid (λ(x:World)=>Qcn n hn x)
 have HRR:=hid (λ(x:World)=>Qdt n hn x)
 have HPK:=hid (λ(x:World) (k:Kept w.heap.size w.heap.size w x)=>Qhv n hn x (tab.kept k).t)
 have HPR:=hid (λ(hr:Cn.right n=true) (x:World)=>Qiv n hn hr x)
 have HUB:=hid (λ(hr:Cn.right n=true) (x:World) (k:Kept w.heap.size w.heap.size w x)=>(show Calls Tryz.prog 7 #[.string (Cn.packed n)] x λe w'=>e=.returned (.tuple #[.agg n.cells.toArray,.int .i64 0])/\Kept x.heap.size x.heap.size x w' from by
  have:=Qfs (Cn.packed n) x (tab.kept k).t;have hp:(Cn.packed n).data.toList=Cn.body n:=by rw[Cn.packed,zG hr]
  rw[hp,(Cn.un_body hn hr).1,(Cn.un_body hn hr).2] at this
  exact this))
 have HPZ:=hid (show Cn.right n=false->Cn.packed n=⟨#[]⟩ from λh=>by rw[Cn.packed,h];rfl)
 have HLN:=hid (λ(u:World) (nb:Nat) (h:u.heap[nb]?=some (.cells n.cells.toArray 25 (0,0)))=>Qbu hn h)
 have HLE:=hid (λ(u:World) (nb:Nat) (h:u.heap[nb]?=some (.cells n.cells.toArray 25 (0,0)))=>Qi9 hn h)
 have HLC:=hid (λ(u:World) (nb:Nat) (h:u.heap[nb]?=some (.cells n.cells.toArray 25 (0,0)))=>(Qbj hn h).2)
 have HEN:=hid (λx=>Qhw x n hn)
 have HNI:=hid (Qdd hn);have HNS:=hid (show Nt.zero.cells.toArray.size=n.cells.toArray.size by rw[Nt.size hn,Nt.size Cn.zero_ep])
 have HNL:=hid n.all;have hu:=Cn.unNt_ep s.data.toList;have HEU:=hid (λx=>Qhw x (Cn.unNt s.data.toList) hu)
 have HUI:=hid (Qdd hu);have HUS:=hid (show Nt.zero.cells.toArray.size=(Cn.unNt s.data.toList).cells.toArray.size by rw[Nt.size hu,Nt.size Cn.zero_ep])
 have HUL:=hid (Cn.unNt s.data.toList).all;have HLU:=hid (λ(u:World) (nb:Nat) (h:u.heap[nb]?=some (.cells (Cn.unNt s.data.toList).cells.toArray 25 (0,0)))=>Qbu hu h)
 obtain⟨ND,hND⟩:∃x,x=n.cells.toArray:=⟨_,rfl⟩;rw[<-hND] at HRT HRR HPK HPR HUB HLN HLE HLC HEN HNI HNS HNL |-;obtain⟨UQ,hUQ⟩:∃x,x=(Cn.unNt s.data.toList).cells.toArray:=⟨_,rfl⟩;rw[<-hUQ] at HUN HRU HPU HEU HUI HUS HUL HLU;obtain⟨er,her⟩:∃x,x=Cn.unErr s.data.toList:=⟨_,rfl⟩;rw[<-her] at HUN HRU HPU;obtain⟨pk,hpk⟩:∃x,x=Cn.packed n:=⟨_,rfl⟩;rw[<-hpk] at HPK HPR HPZ HUB;obtain⟨rt,hrt⟩:∃x,x=Cn.right n:=⟨_,rfl⟩;rw[<-hrt] at HRT HRR HPR HPZ HUB;obtain⟨nm,hnm⟩:∃x,x=str (Cn.name n.ep n.author n.gen):=⟨_,rfl⟩;rw[<-hnm] at HNA HNB;obtain⟨EP,hEP⟩:∃x,x=(bY n.ep).toArray:=⟨_,rfl⟩;rw[<-hEP] at HNA HNB HLE;obtain⟨av,hav⟩:∃x,x=n.author:=⟨_,rfl⟩;obtain⟨gv,hgv⟩:∃x,x=n.gen:=⟨_,rfl⟩;obtain⟨tx,htx⟩:∃x,x=n.text:=⟨_,rfl⟩;rw[<-hav,<-hgv] at HNA HNB HLC;rw[<-htx] at HLC;obtain⟨ZN,hZN⟩:∃x,x=Nt.zero.cells.toArray:=⟨_,rfl⟩;have HZN:=hid hZN.symm;rw[<-hZN] at HNS HUS;clear hn ha hg hu hND hUQ her hpk hrt hnm hEP hav hgv htx hZN tab
 go_enter Tryz.func3,Tryz.ntmps3
 go_upto_region 0 with fail
 refine zA ?_;iterate 2(refine wW λK hK=>?_;go_simp;apply hK;clear hK K)
 have kn:Kept w.heap.size w.heap.size w (w.alloc (.cells ND 25)):=zI.alloc (zB _) _
 have rn:=Qaa w (.cells ND 25)
 generalize w.alloc (.cells ND 25)=w1 at kn rn |-
 obtain⟨nb,hnb⟩:∃x,x=w.heap.size:=⟨_,rfl⟩;rw[<-hnb] at rn
 (try rw[<-hnb])
 have RN:=hid rn;have K1:=hid kn;clear kn rn hnb
 by_cases hlg:(5000:Int)<(tx.size:Int)
 ·go_upto_region 1 with fail
  refine zA ?_;refine wW λK hK=>?_;go_simp;go_at_call 6
  refine(HAW.out _ K1.out).mono ?_;rintro e w2 ⟨rfl,kx⟩;have K2:=hid (K1.out.onto kx);have RN2:=hid (rK RN.out kx);have c35:=(HLC.out _ _ RN2.out).2.2;clear kx;apply hK;clear hK K;iterate 8(refine wW λK hK=>?_;go_simp;apply hK;clear hK K)
  (iterate 3(refine @wpList_skip _ _ _ _ _ _ _ ?_ ?_;kernel_rfl;simp only[Act.put,sA,sB,sC]));refine wW λK hK=>?_;go_simp;apply hK;clear hK K;clear c35
  go_upto_region 2 with fail
  refine zA ?_;refine wW λK hK=>?_;go_simp;go_at_call 6
  refine(HAW.out _ K2.out).mono ?_;rintro e w3 ⟨rfl,kx⟩;have K3:=hid (K2.out.onto kx);have RN3:=hid (rK RN2.out kx);have c35:=(HLC.out _ _ RN3.out).2.2;clear kx;apply hK;clear hK K;refine wW λK hK=>?_;go_simp;apply hK;clear hK K;go_wp2;go_ret;exact⟨rfl,K3.out⟩
 by_cases hls:(5000:Int)<(s.size:Int)
 ·go_upto_region 1 with fail
  refine zA ?_;refine wW λK hK=>?_;go_simp;go_at_call 6
  refine(HAW.out _ K1.out).mono ?_;rintro e w2 ⟨rfl,kx⟩;have K2:=hid (K1.out.onto kx);have RN2:=hid (rK RN.out kx);have c35:=(HLC.out _ _ RN2.out).2.2;clear kx;apply hK;clear hK K;iterate 12(refine wW λK hK=>?_;go_simp;apply hK;clear hK K)
  clear c35
  go_upto_region 2 with fail
  refine zA ?_;refine wW λK hK=>?_;go_simp;go_at_call 6
  refine(HAW.out _ K2.out).mono ?_;rintro e w3 ⟨rfl,kx⟩;have K3:=hid (K2.out.onto kx);have RN3:=hid (rK RN2.out kx);have c35:=(HLC.out _ _ RN3.out).2.2;clear kx;apply hK;clear hK K;refine wW λK hK=>?_;go_simp;apply hK;clear hK K;go_wp2;go_ret;exact⟨rfl,K3.out⟩
 go_upto_region 1 with fail
 refine zA ?_;refine wW λK hK=>?_;go_simp;go_at_call 6
 refine(HAW.out _ K1.out).mono ?_;rintro e w2 ⟨rfl,kx⟩;have K2:=hid (K1.out.onto kx);have RN2:=hid (rK RN.out kx);have c35:=(HLC.out _ _ RN2.out).2.2;clear kx;apply hK;clear hK K;iterate 12(refine wW λK hK=>?_;go_simp;apply hK;clear hK K)
 clear c35
 go_upto_region 3 with fail
 refine zA ?_;refine wW λK hK=>?_;go_simp;apply hK;clear hK K;refine wW λK hK=>?_;go_simp;go_at_call 7
 refine(HUN.out _ K2.out).mono ?_;rintro e w3 ⟨rfl,kx⟩;have K3:=hid (K2.out.onto kx);have RN3:=hid (rK RN2.out kx);clear kx;apply hK;clear hK K;iterate 3(refine wW λK hK=>?_;go_simp;apply hK;clear hK K)
 refine @Qas _ _ _ _ _ _ _ _ ?_ 25 rfl _ (Qbr _) ?_;kernel_rfl
 simp only[Act.put,sA,sB,sC];rw[HZN.out];refine wpList_store_row rfl 25 _ _ rfl (w3.heap.size) UQ rfl rfl 25 ZN (Qaa _ _) (HUI.out) (HUS.out) (HUL.out) ?_
 simp only[Act.put];rw[World.setRow_alloc_new];refine wW λK hK=>?_;go_simp;apply hK;clear hK K;have kk:Kept w3.heap.size w3.heap.size w3 (w3.alloc (.cells UQ 25)):=zI.alloc (zB _) _
 have t:=Qaa w3 (.cells UQ 25)
 have k:=K3.out.onto kk;have r:=rK RN3.out kk;generalize w3.alloc (.cells UQ 25)=w4 at kk t k r |-
 obtain⟨ub,hb⟩:∃x,x=w3.heap.size:=⟨_,rfl⟩;rw[<-hb] at t
 (try rw[<-hb])
 have T4:=hid t;have K4:=hid k;have RN4:=hid r;clear kk t k r hb
 go_upto_region 4 with fail
 refine zA ?_;refine wW λK hK=>?_;go_simp;apply hK;clear hK K;refine wW λK hK=>?_;go_simp;go_at_call 8
 refine(HRU.out _).mono ?_;rintro e w5 ⟨rfl,kx⟩;have K5:=hid (K4.out.onto kx);have RN5:=hid (rK RN4.out kx);have T5:=hid (rK T4.out kx);clear kx;apply hK;clear hK K;iterate 3(refine wW λK hK=>?_;go_simp;apply hK;clear hK K)
 refine @Qas _ _ _ _ _ _ _ _ ?_ 25 rfl _ (Qbr _) ?_;kernel_rfl
 simp only[Act.put,sA,sB,sC];rw[HZN.out];refine wpList_store_row rfl 25 _ _ rfl (w5.heap.size) UQ rfl rfl 25 ZN (Qaa _ _) (HUI.out) (HUS.out) (HUL.out) ?_
 simp only[Act.put];rw[World.setRow_alloc_new];refine wW λK hK=>?_;go_simp;apply hK;clear hK K;have kk:Kept w5.heap.size w5.heap.size w5 (w5.alloc (.cells UQ 25)):=zI.alloc (zB _) _
 have t:=Qaa w5 (.cells UQ 25)
 have k:=K5.out.onto kk;have r:=rK RN5.out kk;have t2:=rK T5.out kk;generalize w5.alloc (.cells UQ 25)=w6 at kk t k r t2 |-
 obtain⟨vb,hb⟩:∃x,x=w5.heap.size:=⟨_,rfl⟩;rw[<-hb] at t
 (try rw[<-hb])
 have V6:=hid t;have K6:=hid k;have RN6:=hid r;have T6:=hid t2;clear t2;clear kk t k r hb;have HU6:=hid (λ(u:World) (k:Kept w6.heap.size w6.heap.size w6 u)=>HLU.out u ub (rK T6.out k))
 have HV6:=hid (λ(u:World) (k:Kept w6.heap.size w6.heap.size w6 u)=>HLU.out u vb (rK V6.out k))
 have HN6:=hid (λ(u:World) (k:Kept w6.heap.size w6.heap.size w6 u)=>HLN.out u nb (rK RN6.out k))
 have HE6:=hid (λ(u:World) (k:Kept w6.heap.size w6.heap.size w6 u)=>HLE.out u nb (rK RN6.out k))
 have HA6:=hid (λ(u:World) (k:Kept w6.heap.size w6.heap.size w6 u)=>Qdn (HLC.out u nb (rK RN6.out k)).1)
 have HG6:=hid (λ(u:World) (k:Kept w6.heap.size w6.heap.size w6 u)=>Qdn (HLC.out u nb (rK RN6.out k)).2.1)
 have KD:Kept w6.heap.size w6.heap.size w6 w6.drew:=zI.drew;have hne0:(er != er)=false:=by simp
 by_cases he:er=0
 ·subst he
  go_upto_region 5 with fail
  refine wp_region_noPanic ?_;refine wp_region_held_drew (S:=λw'=>Kept w6.heap.size w6.heap.size w6 w') (by kernel_rfl) (KD) (λhH=>?_)
  refine tkE (i:=0) 34 rfl hH ?_
  apply zH
  ·intro w9 _
   go_simp
   first|done|rfl
  simp only[sA,sB,sC];refine tkE (i:=1) 35 rfl hH ?_
  apply zH
  ·intro w9 _
   go_simp
   first|done|rfl
  simp only[sA,sB,sC];refine tkA (i:=2) 36 (.bool false) rfl (.inl ⟨by kernel_rfl,λw9 h9=>by go_simp⟩) hH ?_
  simp only[sA,sB,sC];refine tkE (i:=3) 37 rfl hH ?_
  apply zH
  ·intro w9 _
   go_simp
   first|done|rfl
  simp only[sA,sB,sC];refine tkA (i:=4) 38 (.agg UQ) rfl (yK (by kernel_rfl) 25 _ rfl (ub) (0) rfl (.agg UQ) (λx k=>HU6.out x k)) hH ?_
  simp only[sA,sB,sC];refine tkA (i:=5) 39 (.agg UQ) rfl (yK (by kernel_rfl) 25 _ rfl (vb) (0) rfl (.agg UQ) (λx k=>HV6.out x k)) hH ?_
  simp only[sA,sB,sC];refine tkA (i:=6) 40 (.bool false) rfl (Qct (by kernel_rfl) 25 25 _ _ rfl UQ UQ rfl rfl Qgk HEU.out) hH ?_
  simp only[sA,sB,sC];refine tkE (i:=7) 41 rfl hH ?_
  apply zH
  ·intro w9 _
   go_simp
   first|done|rfl
  simp only[sA,sB,sC];refine tkE (i:=8) 42 rfl hH ?_
  apply zH
  ·intro w9 _
   go_simp
   first|done|rfl
  simp only[sA,sB,sC];refine tkE (i:=9) 43 rfl hH ?_
  apply zH
  ·intro w9 _
   go_simp
   first|done|rfl
  simp only[sA,sB,sC];refine tkA (i:=10) 44 (.bool true) rfl (.inl ⟨by kernel_rfl,λw9 h9=>by go_simp⟩) hH ?_
  simp only[sA,sB,sC];refine tkE (i:=11) 45 rfl hH ?_
  apply zH
  ·intro w9 _
   go_simp
   first|done|rfl
  simp only[sA,sB,sC];refine tkA (i:=12) 46 (.agg UQ) rfl (yK (by kernel_rfl) 25 _ rfl (ub) (0) rfl (.agg UQ) (λx k=>HU6.out x k)) hH ?_
  simp only[sA,sB,sC];refine tkE (i:=14) 48 rfl hH ?_
  apply zH
  ·intro w9 _
   go_simp
   first|done|rfl
  simp only[sA,sB,sC];refine wpAnyH_ready (rs:=[13]) (by kernel_rfl) (by simp) ?_
  refine AllReadyH.cons rfl (λK hK=>?_) AllReadyH.nil
  rw[zG (by rfl)]
  go_simp
  go_wp2_with (go_at_call 9;refine(HPU.out (by trivial) _ (K6.out.onto KD)).mono ?_;rintro e x1 ⟨rfl,kx1⟩)
  have X1:Kept w6.heap.size w6.heap.size w6 x1:=KD.trans (kx1.mono KD.size (λi hi _=>zD (zC hi KD.size)))
  refine hK.out _ _ (X1) (λhH=>?_)
  clear hK K;refine tkA (i:=15) 49 (.bool false) rfl (.inl ⟨by kernel_rfl,λw9 h9=>by go_simp⟩) hH ?_
  simp only[sA,sB,sC];refine tkE (i:=16) 50 rfl hH ?_
  apply zH
  ·intro w9 _
   go_simp
   first|done|rfl
  simp only[sA,sB,sC];refine tkE (i:=17) 51 rfl hH ?_
  apply zH
  ·intro w9 _
   go_simp
   first|done|rfl
  simp only[sA,sB,sC];refine tkE (i:=18) 52 rfl hH ?_
  apply zH
  ·intro w9 _
   go_simp
   first|done|rfl
  simp only[sA,sB,sC];refine tkE (i:=19) 53 rfl hH ?_
  apply zH
  ·intro w9 _
   go_simp
   first|done|rfl
  simp only[sA,sB,sC];refine tkA (i:=20) 54 (.agg EP) rfl (yK (by kernel_rfl) 23 _ rfl (nb) (0) rfl (.agg EP) (λx k=>HE6.out x k)) hH ?_
  simp only[sA,sB,sC];refine tkE (i:=21) 55 rfl hH ?_
  apply zH
  ·intro w9 _
   go_simp
   first|done|rfl
  simp only[sA,sB,sC];refine tkA (i:=22) 56 (.int .i64 av) rfl (yK (by kernel_rfl) 3 _ rfl (nb) (33) rfl (.int .i64 av) (λx k=>HA6.out x k)) hH ?_
  simp only[sA,sB,sC];refine tkE (i:=23) 57 rfl hH ?_
  apply zH
  ·intro w9 _
   go_simp
   first|done|rfl
  simp only[sA,sB,sC];refine tkA (i:=24) 58 (.int .i64 gv) rfl (yK (by kernel_rfl) 3 _ rfl (nb) (34) rfl (.int .i64 gv) (λx k=>HG6.out x k)) hH ?_
  simp only[sA,sB,sC];refine tkE (i:=26) 60 rfl hH ?_
  apply zH
  ·intro w9 _
   go_simp
   first|done|rfl
  simp only[sA,sB,sC];refine tkA (i:=27) 61 (.agg EP) rfl (yK (by kernel_rfl) 23 _ rfl (nb) (0) rfl (.agg EP) (λx k=>HE6.out x k)) hH ?_
  simp only[sA,sB,sC];refine tkE (i:=28) 62 rfl hH ?_
  apply zH
  ·intro w9 _
   go_simp
   first|done|rfl
  simp only[sA,sB,sC];refine tkA (i:=29) 63 (.int .i64 av) rfl (yK (by kernel_rfl) 3 _ rfl (nb) (33) rfl (.int .i64 av) (λx k=>HA6.out x k)) hH ?_
  simp only[sA,sB,sC];refine tkE (i:=30) 64 rfl hH ?_
  apply zH
  ·intro w9 _
   go_simp
   first|done|rfl
  simp only[sA,sB,sC];refine tkA (i:=31) 65 (.int .i64 gv) rfl (yK (by kernel_rfl) 3 _ rfl (nb) (34) rfl (.int .i64 gv) (λx k=>HG6.out x k)) hH ?_
  simp only[sA,sB,sC];refine wpAnyH_ready (rs:=[25]) (by kernel_rfl) (by simp) ?_
  refine AllReadyH.cons rfl (λK hK=>?_) AllReadyH.nil
  rw[zG (by rfl)]
  go_simp
  go_wp2_with (go_at_call 10;refine(HNA.out _ (K6.out.onto X1)).mono ?_;rintro e x2 ⟨rfl,kx2⟩)
  have X2:Kept w6.heap.size w6.heap.size w6 x2:=X1.trans (kx2.mono X1.size (λi hi _=>zD (zC hi X1.size)))
  refine hK.out _ _ (X2) (λhH=>?_)
  clear hK K;refine wpAnyH_ready (rs:=[32]) (by kernel_rfl) (by simp) ?_
  refine AllReadyH.cons rfl (λK hK=>?_) AllReadyH.nil
  rw[zG (by rfl)]
  go_simp
  go_wp2_with (go_at_call 11;refine(HNB.out _).mono ?_;rintro e x3 ⟨rfl,kx3⟩)
  have X3:Kept w6.heap.size w6.heap.size w6 x3:=X2.trans (kx3.mono X2.size (λi hi _=>zD (zC hi X2.size)))
  refine hK.out _ _ (X3) (λhH=>?_)
  clear hK K;refine tkA (i:=33) 67 (.bool false) rfl (.inl ⟨by kernel_rfl,λw9 h9=>by go_simp⟩) hH ?_
  simp only[sA,sB,sC];refine tkE (i:=34) 68 rfl hH ?_
  apply zH
  ·intro w9 _
   go_simp
   first|done|rfl
  simp only[sA,sB,sC];refine wpAnyH_done (by kernel_rfl) ?_ _
  refine NoPanic.normal ?_;have K7:=hid (K6.out.onto X3);have RN7:=hid (rK RN6.out X3);clear hH HU6 HV6 HN6 HE6 HA6 HG6 T6 V6
  go_upto_region 7 with fail
  refine zA ?_;refine wLk 25 (.tmp 2) rfl (nb) (0) rfl (.agg ND) (HLN.out _ _ RN7.out) ?_
  simp only[Act.put,sA,sB,sC];refine wW λK hK=>?_;go_simp;go_at_call 12
  refine(HRR.out _).mono ?_;rintro e w8 ⟨rfl,kx⟩;have K8:=hid (K7.out.onto kx);have RN8:=hid (rK RN7.out kx);clear kx;apply hK;clear hK K;refine wW λK hK=>?_;go_simp;apply hK;clear hK K
  cases rt with
  | false=>
   obtain rfl:=HPZ.out (by trivial)
   go_upto_region 8 with fail
   refine zA ?_;refine wLk 25 (.tmp 2) rfl (nb) (0) rfl (.agg ND) (HLN.out _ _ RN8.out) ?_
   simp only[Act.put,sA,sB,sC];refine wW λK hK=>?_;go_simp;go_at_call 13
   refine(HRT.out _).mono ?_;rintro e w9 ⟨rfl,kx⟩;have K9:=hid (K8.out.onto kx);have RN9:=hid (rK RN8.out kx);clear kx;apply hK;clear hK K;iterate 2(refine wW λK hK=>?_;go_simp;apply hK;clear hK K)
   refine wLk 25 (.tmp 2) rfl (nb) (0) rfl (.agg ND) (HLN.out _ _ RN9.out) ?_
   simp only[Act.put,sA,sB,sC];refine wW λK hK=>?_;go_simp;go_at_call 9
   refine(HPK.out _ K9.out).mono ?_;rintro e w10 ⟨rfl,kx⟩;have K10:=hid (K9.out.onto kx);clear kx;apply hK;clear hK K;iterate 3(refine wW λK hK=>?_;go_simp;apply hK;clear hK K)
   go_wp2;go_ret;exact⟨rfl,K10.out⟩
  | true=>
   go_upto_region 9 with fail
   refine zA ?_;refine wLk 25 (.tmp 2) rfl (nb) (0) rfl (.agg ND) (HLN.out _ _ RN8.out) ?_
   simp only[Act.put,sA,sB,sC];refine wW λK hK=>?_;go_simp;go_at_call 9
   refine(HPK.out _ K8.out).mono ?_;rintro e w9 ⟨rfl,kx⟩;have K9:=hid (K8.out.onto kx);have RN9:=hid (rK RN8.out kx);clear kx;apply hK;clear hK K;refine wW λK hK=>?_;go_simp;go_at_call 7
   refine(HUB.out (by trivial) _ K9.out).mono ?_
   rintro e w10 ⟨rfl,kx⟩;have K10:=hid (K9.out.onto kx);have RN10:=hid (rK RN9.out kx);clear kx;apply hK;clear hK K;iterate 3(refine wW λK hK=>?_;go_simp;apply hK;clear hK K)
   refine @Qas _ _ _ _ _ _ _ _ ?_ 25 rfl _ (Qbr _) ?_;kernel_rfl
   simp only[Act.put,sA,sB,sC];rw[HZN.out];refine wpList_store_row rfl 25 _ _ rfl (w10.heap.size) ND rfl rfl 25 ZN (Qaa _ _) (HNI.out) (HNS.out) (HNL.out) ?_
   simp only[Act.put];rw[World.setRow_alloc_new];refine wW λK hK=>?_;go_simp;apply hK;clear hK K;have kk:Kept w10.heap.size w10.heap.size w10 (w10.alloc (.cells ND 25)):=zI.alloc (zB _) _
   have t:=Qaa w10 (.cells ND 25)
   have k:=K10.out.onto kk;have r:=rK RN10.out kk;generalize w10.alloc (.cells ND 25)=w11 at kk t k r |-
   obtain⟨cb,hb⟩:∃x,x=w10.heap.size:=⟨_,rfl⟩;rw[<-hb] at t
   (try rw[<-hb])
   have T11:=hid t;have K11:=hid k;have RN11:=hid r;clear kk t k r hb;have HN11:=hid (λ(u:World) (k:Kept w11.heap.size w11.heap.size w11 u)=>HLN.out u nb (rK RN11.out k))
   have HC11:=hid (λ(u:World) (k:Kept w11.heap.size w11.heap.size w11 u)=>HLN.out u cb (rK T11.out k))
   have KE:Kept w11.heap.size w11.heap.size w11 w11.drew:=zI.drew
   go_upto_region 10 with fail
   refine wp_region_noPanic ?_;refine wp_region_held_drew (S:=λw'=>Kept w11.heap.size w11.heap.size w11 w') (by kernel_rfl) (KE) (λhH=>?_)
   refine tkA (i:=0) 86 (.agg ND) rfl (yK (by kernel_rfl) 25 _ rfl (nb) (0) rfl (.agg ND) (λx k=>HN11.out x k)) hH ?_
   simp only[sA,sB,sC];refine wpAnyH_ready (rs:=[1]) (by kernel_rfl) (by simp) ?_
   refine AllReadyH.cons rfl (λK hK=>?_) AllReadyH.nil
   rw[zG (by rfl)]
   go_simp
   go_wp2_with (go_at_call 13;refine(HRT.out _).mono ?_;rintro e y1 ⟨rfl,ky1⟩)
   have Y1:Kept w11.heap.size w11.heap.size w11 y1:=KE.trans (ky1.mono KE.size (λi hi _=>zD (zC hi KE.size)))
   refine hK.out _ _ (Y1) (λhH=>?_)
   clear hK K;refine tkE (i:=2) 88 rfl hH ?_
   apply zH
   ·intro w9 _
    go_simp
    first|done|rfl
   simp only[sA,sB,sC];refine tkA (i:=3) 89 (.agg ND) rfl (yK (by kernel_rfl) 25 _ rfl (nb) (0) rfl (.agg ND) (λx k=>HN11.out x k)) hH ?_
   simp only[sA,sB,sC];refine tkA (i:=5) 91 (.agg ND) rfl (yK (by kernel_rfl) 25 _ rfl (nb) (0) rfl (.agg ND) (λx k=>HN11.out x k)) hH ?_
   simp only[sA,sB,sC];refine wpAnyH_ready (rs:=[4]) (by kernel_rfl) (by simp) ?_
   refine AllReadyH.cons rfl (λK hK=>?_) AllReadyH.nil
   rw[zG (by rfl)]
   go_simp
   go_wp2_with (go_at_call 9;refine(HPK.out _ (K11.out.onto Y1)).mono ?_;rintro e y2 ⟨rfl,ky2⟩)
   have Y2:Kept w11.heap.size w11.heap.size w11 y2:=Y1.trans (ky2.mono Y1.size (λi hi _=>zD (zC hi Y1.size)))
   refine hK.out _ _ (Y2) (λhH=>?_)
   clear hK K;refine wpAnyH_ready (rs:=[6]) (by kernel_rfl) (by simp) ?_
   refine AllReadyH.cons rfl (λK hK=>?_) AllReadyH.nil
   rw[zG (by rfl)]
   go_simp
   go_wp2_with (go_at_call 14;refine(HPR.out (by trivial) _).mono ?_;rintro e y3 ⟨rfl,ky3⟩)
   have Y3:Kept w11.heap.size w11.heap.size w11 y3:=Y2.trans (ky3.mono Y2.size (λi hi _=>zD (zC hi Y2.size)))
   refine hK.out _ _ (Y3) (λhH=>?_)
   clear hK K;refine tkA (i:=7) 93 (.bool true) rfl (.inl ⟨by kernel_rfl,λw9 h9=>by go_simp⟩) hH ?_
   simp only[sA,sB,sC];refine tkE (i:=8) 94 rfl hH ?_
   apply zH
   ·intro w9 _
    go_simp
    first|done|rfl
   simp only[sA,sB,sC];refine tkE (i:=9) 95 rfl hH ?_
   apply zH
   ·intro w9 _
    go_simp
    first|done|rfl
   simp only[sA,sB,sC];refine tkE (i:=10) 96 rfl hH ?_
   apply zH
   ·intro w9 _
    go_simp
    first|done|rfl
   simp only[sA,sB,sC];refine tkE (i:=11) 97 rfl hH ?_
   apply zH
   ·intro w9 _
    go_simp
    first|done|rfl
   simp only[sA,sB,sC];refine tkE (i:=12) 98 rfl hH ?_
   apply zH
   ·intro w9 _
    go_simp
    first|done|rfl
   simp only[sA,sB,sC];refine tkE (i:=13) 99 rfl hH ?_
   apply zH
   ·intro w9 _
    go_simp
    first|done|rfl
   simp only[sA,sB,sC];refine tkA (i:=14) 100 (.agg ND) rfl (yK (by kernel_rfl) 25 _ rfl (cb) (0) rfl (.agg ND) (λx k=>HC11.out x k)) hH ?_
   simp only[sA,sB,sC];refine tkA (i:=15) 101 (.agg ND) rfl (yK (by kernel_rfl) 25 _ rfl (nb) (0) rfl (.agg ND) (λx k=>HN11.out x k)) hH ?_
   simp only[sA,sB,sC];refine tkA (i:=16) 102 (.bool true) rfl (Qfp (by kernel_rfl) 25 25 _ _ rfl ND ND rfl rfl Qgk HEN.out) hH ?_
   simp only[sA,sB,sC];refine tkE (i:=17) 103 rfl hH ?_
   apply zH
   ·intro w9 _
    go_simp
    first|done|rfl
   simp only[sA,sB,sC];refine tkE (i:=18) 4 rfl hH ?_
   apply zH
   ·intro w9 _
    go_simp
    first|done|rfl
   simp only[sA,sB,sC];refine wpAnyH_done (by kernel_rfl) ?_ _
   refine NoPanic.normal ?_;go_wp2;go_ret;exact⟨rfl,K11.out.onto Y3⟩
 ·have hx:(er == 0)=false:=by simpa using he
  go_upto_region 5 with fail
  refine wp_region_noPanic ?_;refine wp_region_held_drew (S:=λw'=>Kept w6.heap.size w6.heap.size w6 w') (by kernel_rfl) (KD) (λhH=>?_)
  refine tkE (i:=0) 34 rfl hH ?_
  apply zH
  ·intro w9 _
   go_simp
   first|done|rfl
  simp only[sA,sB,sC];refine tkE (i:=1) 35 rfl hH ?_
  apply zH
  ·intro w9 _
   go_simp
   first|done|rfl
  simp only[sA,sB,sC];refine tkA (i:=2) 36 (.bool false) rfl (.inl ⟨by kernel_rfl,λw9 h9=>by go_simp⟩) hH ?_
  simp only[sA,sB,sC];refine tkE (i:=3) 37 rfl hH ?_
  apply zH
  ·intro w9 _
   go_simp
   first|done|rfl
  simp only[sA,sB,sC];refine tkA (i:=4) 38 (.agg UQ) rfl (yK (by kernel_rfl) 25 _ rfl (ub) (0) rfl (.agg UQ) (λx k=>HU6.out x k)) hH ?_
  simp only[sA,sB,sC];refine tkA (i:=5) 39 (.agg UQ) rfl (yK (by kernel_rfl) 25 _ rfl (vb) (0) rfl (.agg UQ) (λx k=>HV6.out x k)) hH ?_
  simp only[sA,sB,sC];refine tkA (i:=6) 40 (.bool false) rfl (Qct (by kernel_rfl) 25 25 _ _ rfl UQ UQ rfl rfl Qgk HEU.out) hH ?_
  simp only[sA,sB,sC];refine tkE (i:=7) 41 rfl hH ?_
  apply zH
  ·intro w9 _
   go_simp
   first|done|rfl
  simp only[sA,sB,sC];refine tkE (i:=8) 42 rfl hH ?_
  apply zH
  ·intro w9 _
   go_simp
   first|done|rfl
  simp only[sA,sB,sC];refine tkE (i:=9) 43 rfl hH ?_
  apply zH
  ·intro w9 _
   go_simp
   first|done|rfl
  simp only[sA,sB,sC];refine tkA (i:=10) 44 (.bool false) rfl (.inl ⟨by kernel_rfl,λw9 h9=>by go_simp⟩) hH ?_
  simp only[sA,sB,sC];refine tkE (i:=11) 45 rfl hH ?_
  apply zH
  ·intro w9 _
   go_simp
   first|done|rfl
  simp only[sA,sB,sC];refine tkA (i:=12) 46 undef rfl (.inr ⟨by kernel_rfl,rfl⟩) hH ?_
  simp only[sA,sB,sC];refine tkA (i:=13) 47 undef rfl (.inr ⟨by kernel_rfl,rfl⟩) hH ?_
  simp only[sA,sB,sC];refine tkA (i:=14) 48 undef rfl (.inr ⟨by kernel_rfl,rfl⟩) hH ?_
  simp only[sA,sB,sC];refine tkA (i:=15) 49 undef rfl (.inr ⟨by kernel_rfl,rfl⟩) hH ?_
  simp only[sA,sB,sC];refine tkE (i:=16) 50 rfl hH ?_
  apply zH
  ·intro w9 _
   go_simp
   first|done|rfl
  simp only[sA,sB,sC];refine tkE (i:=17) 51 rfl hH ?_
  apply zH
  ·intro w9 _
   go_simp
   first|done|rfl
  simp only[sA,sB,sC];refine tkE (i:=18) 52 rfl hH ?_
  apply zH
  ·intro w9 _
   go_simp
   first|done|rfl
  simp only[sA,sB,sC];refine tkE (i:=19) 53 rfl hH ?_
  apply zH
  ·intro w9 _
   go_simp
   first|done|rfl
  simp only[sA,sB,sC];refine tkA (i:=20) 54 (.agg EP) rfl (yK (by kernel_rfl) 23 _ rfl (nb) (0) rfl (.agg EP) (λx k=>HE6.out x k)) hH ?_
  simp only[sA,sB,sC];refine tkE (i:=21) 55 rfl hH ?_
  apply zH
  ·intro w9 _
   go_simp
   first|done|rfl
  simp only[sA,sB,sC];refine tkA (i:=22) 56 (.int .i64 av) rfl (yK (by kernel_rfl) 3 _ rfl (nb) (33) rfl (.int .i64 av) (λx k=>HA6.out x k)) hH ?_
  simp only[sA,sB,sC];refine tkE (i:=23) 57 rfl hH ?_
  apply zH
  ·intro w9 _
   go_simp
   first|done|rfl
  simp only[sA,sB,sC];refine tkA (i:=24) 58 (.int .i64 gv) rfl (yK (by kernel_rfl) 3 _ rfl (nb) (34) rfl (.int .i64 gv) (λx k=>HG6.out x k)) hH ?_
  simp only[sA,sB,sC];refine tkE (i:=26) 60 rfl hH ?_
  apply zH
  ·intro w9 _
   go_simp
   first|done|rfl
  simp only[sA,sB,sC];refine tkA (i:=27) 61 (.agg EP) rfl (yK (by kernel_rfl) 23 _ rfl (nb) (0) rfl (.agg EP) (λx k=>HE6.out x k)) hH ?_
  simp only[sA,sB,sC];refine tkE (i:=28) 62 rfl hH ?_
  apply zH
  ·intro w9 _
   go_simp
   first|done|rfl
  simp only[sA,sB,sC];refine tkA (i:=29) 63 (.int .i64 av) rfl (yK (by kernel_rfl) 3 _ rfl (nb) (33) rfl (.int .i64 av) (λx k=>HA6.out x k)) hH ?_
  simp only[sA,sB,sC];refine tkE (i:=30) 64 rfl hH ?_
  apply zH
  ·intro w9 _
   go_simp
   first|done|rfl
  simp only[sA,sB,sC];refine tkA (i:=31) 65 (.int .i64 gv) rfl (yK (by kernel_rfl) 3 _ rfl (nb) (34) rfl (.int .i64 gv) (λx k=>HG6.out x k)) hH ?_
  simp only[sA,sB,sC];refine wpAnyH_ready (rs:=[25]) (by kernel_rfl) (by simp) ?_
  refine AllReadyH.cons rfl (λK hK=>?_) AllReadyH.nil
  rw[zG (by rfl)]
  go_simp
  go_wp2_with (go_at_call 10;refine(HNA.out _ (K6.out.onto KD)).mono ?_;rintro e x2 ⟨rfl,kx2⟩)
  have X2:Kept w6.heap.size w6.heap.size w6 x2:=KD.trans (kx2.mono KD.size (λi hi _=>zD (zC hi KD.size)))
  refine hK.out _ _ (X2) (λhH=>?_)
  clear hK K;refine wpAnyH_ready (rs:=[32]) (by kernel_rfl) (by simp) ?_
  refine AllReadyH.cons rfl (λK hK=>?_) AllReadyH.nil
  rw[zG (by rfl)]
  go_simp
  go_wp2_with (go_at_call 11;refine(HNB.out _).mono ?_;rintro e x3 ⟨rfl,kx3⟩)
  have X3:Kept w6.heap.size w6.heap.size w6 x3:=X2.trans (kx3.mono X2.size (λi hi _=>zD (zC hi X2.size)))
  refine hK.out _ _ (X3) (λhH=>?_)
  clear hK K;refine tkA (i:=33) 67 (.bool false) rfl (.inl ⟨by kernel_rfl,λw9 h9=>by go_simp⟩) hH ?_
  simp only[sA,sB,sC];refine tkE (i:=34) 68 rfl hH ?_
  apply zH
  ·intro w9 _
   go_simp
   first|done|rfl
  simp only[sA,sB,sC];refine wpAnyH_done (by kernel_rfl) ?_ _
  refine NoPanic.normal ?_;have K7:=hid (K6.out.onto X3);have RN7:=hid (rK RN6.out X3);clear hH HU6 HV6 HN6 HE6 HA6 HG6 T6 V6
  go_upto_region 7 with fail
  refine zA ?_;refine wLk 25 (.tmp 2) rfl (nb) (0) rfl (.agg ND) (HLN.out _ _ RN7.out) ?_
  simp only[Act.put,sA,sB,sC];refine wW λK hK=>?_;go_simp;go_at_call 12
  refine(HRR.out _).mono ?_;rintro e w8 ⟨rfl,kx⟩;have K8:=hid (K7.out.onto kx);have RN8:=hid (rK RN7.out kx);clear kx;apply hK;clear hK K;refine wW λK hK=>?_;go_simp;apply hK;clear hK K
  cases rt with
  | false=>
   obtain rfl:=HPZ.out (by trivial)
   go_upto_region 8 with fail
   refine zA ?_;refine wLk 25 (.tmp 2) rfl (nb) (0) rfl (.agg ND) (HLN.out _ _ RN8.out) ?_
   simp only[Act.put,sA,sB,sC];refine wW λK hK=>?_;go_simp;go_at_call 13
   refine(HRT.out _).mono ?_;rintro e w9 ⟨rfl,kx⟩;have K9:=hid (K8.out.onto kx);have RN9:=hid (rK RN8.out kx);clear kx;apply hK;clear hK K;iterate 2(refine wW λK hK=>?_;go_simp;apply hK;clear hK K)
   refine wLk 25 (.tmp 2) rfl (nb) (0) rfl (.agg ND) (HLN.out _ _ RN9.out) ?_
   simp only[Act.put,sA,sB,sC];refine wW λK hK=>?_;go_simp;go_at_call 9
   refine(HPK.out _ K9.out).mono ?_;rintro e w10 ⟨rfl,kx⟩;have K10:=hid (K9.out.onto kx);clear kx;apply hK;clear hK K;iterate 3(refine wW λK hK=>?_;go_simp;apply hK;clear hK K)
   go_wp2;go_ret;exact⟨rfl,K10.out⟩
  | true=>
   go_upto_region 9 with fail
   refine zA ?_;refine wLk 25 (.tmp 2) rfl (nb) (0) rfl (.agg ND) (HLN.out _ _ RN8.out) ?_
   simp only[Act.put,sA,sB,sC];refine wW λK hK=>?_;go_simp;go_at_call 9
   refine(HPK.out _ K8.out).mono ?_;rintro e w9 ⟨rfl,kx⟩;have K9:=hid (K8.out.onto kx);have RN9:=hid (rK RN8.out kx);clear kx;apply hK;clear hK K;refine wW λK hK=>?_;go_simp;go_at_call 7
   refine(HUB.out (by trivial) _ K9.out).mono ?_
   rintro e w10 ⟨rfl,kx⟩;have K10:=hid (K9.out.onto kx);have RN10:=hid (rK RN9.out kx);clear kx;apply hK;clear hK K;iterate 3(refine wW λK hK=>?_;go_simp;apply hK;clear hK K)
   refine @Qas _ _ _ _ _ _ _ _ ?_ 25 rfl _ (Qbr _) ?_;kernel_rfl
   simp only[Act.put,sA,sB,sC];rw[HZN.out];refine wpList_store_row rfl 25 _ _ rfl (w10.heap.size) ND rfl rfl 25 ZN (Qaa _ _) (HNI.out) (HNS.out) (HNL.out) ?_
   simp only[Act.put];rw[World.setRow_alloc_new];refine wW λK hK=>?_;go_simp;apply hK;clear hK K;have kk:Kept w10.heap.size w10.heap.size w10 (w10.alloc (.cells ND 25)):=zI.alloc (zB _) _
   have t:=Qaa w10 (.cells ND 25)
   have k:=K10.out.onto kk;have r:=rK RN10.out kk;generalize w10.alloc (.cells ND 25)=w11 at kk t k r |-
   obtain⟨cb,hb⟩:∃x,x=w10.heap.size:=⟨_,rfl⟩;rw[<-hb] at t
   (try rw[<-hb])
   have T11:=hid t;have K11:=hid k;have RN11:=hid r;clear kk t k r hb;have HN11:=hid (λ(u:World) (k:Kept w11.heap.size w11.heap.size w11 u)=>HLN.out u nb (rK RN11.out k))
   have HC11:=hid (λ(u:World) (k:Kept w11.heap.size w11.heap.size w11 u)=>HLN.out u cb (rK T11.out k))
   have KE:Kept w11.heap.size w11.heap.size w11 w11.drew:=zI.drew
   go_upto_region 10 with fail
   refine wp_region_noPanic ?_;refine wp_region_held_drew (S:=λw'=>Kept w11.heap.size w11.heap.size w11 w') (by kernel_rfl) (KE) (λhH=>?_)
   refine tkA (i:=0) 86 (.agg ND) rfl (yK (by kernel_rfl) 25 _ rfl (nb) (0) rfl (.agg ND) (λx k=>HN11.out x k)) hH ?_
   simp only[sA,sB,sC];refine wpAnyH_ready (rs:=[1]) (by kernel_rfl) (by simp) ?_
   refine AllReadyH.cons rfl (λK hK=>?_) AllReadyH.nil
   rw[zG (by rfl)]
   go_simp
   go_wp2_with (go_at_call 13;refine(HRT.out _).mono ?_;rintro e y1 ⟨rfl,ky1⟩)
   have Y1:Kept w11.heap.size w11.heap.size w11 y1:=KE.trans (ky1.mono KE.size (λi hi _=>zD (zC hi KE.size)))
   refine hK.out _ _ (Y1) (λhH=>?_)
   clear hK K;refine tkE (i:=2) 88 rfl hH ?_
   apply zH
   ·intro w9 _
    go_simp
    first|done|rfl
   simp only[sA,sB,sC];refine tkA (i:=3) 89 (.agg ND) rfl (yK (by kernel_rfl) 25 _ rfl (nb) (0) rfl (.agg ND) (λx k=>HN11.out x k)) hH ?_
   simp only[sA,sB,sC];refine tkA (i:=5) 91 (.agg ND) rfl (yK (by kernel_rfl) 25 _ rfl (nb) (0) rfl (.agg ND) (λx k=>HN11.out x k)) hH ?_
   simp only[sA,sB,sC];refine wpAnyH_ready (rs:=[4]) (by kernel_rfl) (by simp) ?_
   refine AllReadyH.cons rfl (λK hK=>?_) AllReadyH.nil
   rw[zG (by rfl)]
   go_simp
   go_wp2_with (go_at_call 9;refine(HPK.out _ (K11.out.onto Y1)).mono ?_;rintro e y2 ⟨rfl,ky2⟩)
   have Y2:Kept w11.heap.size w11.heap.size w11 y2:=Y1.trans (ky2.mono Y1.size (λi hi _=>zD (zC hi Y1.size)))
   refine hK.out _ _ (Y2) (λhH=>?_)
   clear hK K;refine wpAnyH_ready (rs:=[6]) (by kernel_rfl) (by simp) ?_
   refine AllReadyH.cons rfl (λK hK=>?_) AllReadyH.nil
   rw[zG (by rfl)]
   go_simp
   go_wp2_with (go_at_call 14;refine(HPR.out (by trivial) _).mono ?_;rintro e y3 ⟨rfl,ky3⟩)
   have Y3:Kept w11.heap.size w11.heap.size w11 y3:=Y2.trans (ky3.mono Y2.size (λi hi _=>zD (zC hi Y2.size)))
   refine hK.out _ _ (Y3) (λhH=>?_)
   clear hK K;refine tkA (i:=7) 93 (.bool true) rfl (.inl ⟨by kernel_rfl,λw9 h9=>by go_simp⟩) hH ?_
   simp only[sA,sB,sC];refine tkE (i:=8) 94 rfl hH ?_
   apply zH
   ·intro w9 _
    go_simp
    first|done|rfl
   simp only[sA,sB,sC];refine tkE (i:=9) 95 rfl hH ?_
   apply zH
   ·intro w9 _
    go_simp
    first|done|rfl
   simp only[sA,sB,sC];refine tkE (i:=10) 96 rfl hH ?_
   apply zH
   ·intro w9 _
    go_simp
    first|done|rfl
   simp only[sA,sB,sC];refine tkE (i:=11) 97 rfl hH ?_
   apply zH
   ·intro w9 _
    go_simp
    first|done|rfl
   simp only[sA,sB,sC];refine tkE (i:=12) 98 rfl hH ?_
   apply zH
   ·intro w9 _
    go_simp
    first|done|rfl
   simp only[sA,sB,sC];refine tkE (i:=13) 99 rfl hH ?_
   apply zH
   ·intro w9 _
    go_simp
    first|done|rfl
   simp only[sA,sB,sC];refine tkA (i:=14) 100 (.agg ND) rfl (yK (by kernel_rfl) 25 _ rfl (cb) (0) rfl (.agg ND) (λx k=>HC11.out x k)) hH ?_
   simp only[sA,sB,sC];refine tkA (i:=15) 101 (.agg ND) rfl (yK (by kernel_rfl) 25 _ rfl (nb) (0) rfl (.agg ND) (λx k=>HN11.out x k)) hH ?_
   simp only[sA,sB,sC];refine tkA (i:=16) 102 (.bool true) rfl (Qfp (by kernel_rfl) 25 25 _ _ rfl ND ND rfl rfl Qgk HEN.out) hH ?_
   simp only[sA,sB,sC];refine tkE (i:=17) 103 rfl hH ?_
   apply zH
   ·intro w9 _
    go_simp
    first|done|rfl
   simp only[sA,sB,sC];refine tkE (i:=18) 4 rfl hH ?_
   apply zH
   ·intro w9 _
    go_simp
    first|done|rfl
   simp only[sA,sB,sC];refine wpAnyH_done (by kernel_rfl) ?_ _
   refine NoPanic.normal ?_;go_wp2;go_ret;exact⟨rfl,K11.out.onto Y3⟩
end Go.Proofs.YtnlbgggnpoeleaaGreatDoor
