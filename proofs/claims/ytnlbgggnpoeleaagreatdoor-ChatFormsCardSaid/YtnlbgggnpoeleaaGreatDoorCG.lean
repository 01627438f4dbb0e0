/-
 ChatOpen; ChatPack; ChatUnMath; ChatFil; ChatUnpack; ChatRefUn; ChatEq: several texts in one.
-/
import Derived.Lib.SmallJoins
import Derived.Deep.Strs
import Derived.Test.YtnlbgggnpoeleaaGreatDoorCD
import Derived.Test.YtnlbgggnpoeleaaGreatDoorWireAwake
set_option maxRecDepth 100000
set_option maxHeartbeats 6400000
namespace Go.Proofs.YtnlbgggnpoeleaaGreatDoor
open Go.ChangeShapes Go.WideShapes Go.ChangeAt Go.RowKit Go.Deep Go.Lib Go.Joins
theorem Quj:Tryz.prog.cellsOf 25=36:=by kernel_rfl
theorem Qso:Tryz.prog.cellsOf 3=1:=by kernel_rfl
theorem Qrh:Tryz.prog.cellsOf 9=1:=by kernel_rfl
section
variable {H:Type} {P:Program} {enc:TypeId × Value->H} {w:World} {base:Nat} {spare:Nat->Bool} {held:Bool}
theorem Qmm {t:TypeId}{f0 f1 f2 f3 f4:Field}{fuel:Nat}{cs:List Value}{x:DataW H × List MemPlace}(ht:P.underlying t=some (.struct #[f0,f1,f2,f3,f4]))(h:DataW.trod enc P w base spare held fuel t cs=some x):
  ∃y0 y1 y2 y3 y4 n,cs.length=P.cellsOf t/\DataW.trod enc P w base spare held n f0.type ((cs.drop f0.offset).take (P.cellsOf f0.type))=some y0 /\
   DataW.trod enc P w base spare held n f1.type ((cs.drop f1.offset).take (P.cellsOf f1.type))=some y1/\DataW.trod enc P w base spare held n f2.type ((cs.drop f2.offset).take (P.cellsOf f2.type))=some y2 /\
   DataW.trod enc P w base spare held n f3.type ((cs.drop f3.offset).take (P.cellsOf f3.type))=some y3/\DataW.trod enc P w base spare held n f4.type ((cs.drop f4.offset).take (P.cellsOf f4.type))=some y4:=by
 obtain⟨xs,n,_,rfl,hl,hlen,hf⟩:=DataW.trod_struct ht h
 match xs,hlen with
 | [y0,y1,y2,y3,y4],_=>exact⟨y0,y1,y2,y3,y4,n,hl,by simpa using hf 0 f0 rfl,by simpa using hf 1 f1 rfl,by simpa using hf 2 f2 rfl,by simpa using hf 3 f3 rfl,by simpa using hf 4 f4 rfl⟩
end
theorem Qfm (es:List Value)(a n b:Nat)(h:b=a+n):es.drop a=(es.drop a).take n++es.drop b:=by
 rw[h,<-List.drop_drop,List.take_append_drop]
theorem Qo0 {H:Type}{enc:TypeId × Value->H}{w:World}{base:Nat}{v:Value}{d:DataW H}{q:List MemPlace}(hv:Value.okWide Tryz.prog w .any base 25 v)(h:DataW.Trod enc Tryz.prog w 0 (λ_=>true) true 25 v d q):∃n:Nt,n.ep.length=32/\(-9223372036854775808<=n.author/\n.author<=9223372036854775807)/\(-9223372036854775808<=n.gen/\n.gen<=9223372036854775807)/\v=.agg n.cells.toArray:=by
 unfold Value.okWide at hv;rw[Tryz.underlying25] at hv
 obtain⟨cs,rfl,_⟩:=hv;obtain⟨fuel,hf⟩:=h;obtain⟨y0,y1,y2,y3,y4,m,hl,g0,g1,g2,g3,g4⟩:=Qmm Tryz.underlying25 hf
 rw[Quj] at hl;simp only at g0 g1 g2 g3 g4;rw[Qso] at g1 g2 g3;rw[Qjo] at g0;rw[Qrh] at g4;obtain⟨dp,hdp,_⟩:=DataW.trod_int Tryz.underlying3 g1
 obtain⟨au,hau,_,wau⟩:=DataW.trod_int Tryz.underlying3 g2
 obtain⟨gn,hgn,_,wgn⟩:=DataW.trod_int Tryz.underlying3 g3
 obtain⟨tx,htx,_,_⟩:=DataW.trod_string Tryz.underlying9 g4
 obtain⟨le,hle,he⟩:=Qi6 g0;refine⟨⟨le,dp,au,gn,tx⟩,hle,bounds_i64 wau,bounds_i64 wgn,?_⟩;obtain⟨es,hes⟩:∃es:List Value,es=cs.toList:=⟨_,rfl⟩;have hc:(Value.agg cs).cells.toList=es:=by rw[hes];rfl
 rw[hc] at hl hdp hau hgn he htx
 have e:es=Nt.cells ⟨le,dp,au,gn,tx⟩:=by
  have h1:=Qfm es 0 32 32 rfl;have h2:=Qfm es 32 1 33 rfl;have h3:=Qfm es 33 1 34 rfl;have h4:=Qfm es 34 1 35 rfl;rw[List.drop_zero] at he h1;rw[h1,h2,h3,h4,show es.drop 35=(es.drop 35).take 1 from(List.take_of_length_le (by rw[List.length_drop];omega)).symm]
  rw[he,hdp,hau,hgn,htx]
  rfl
 exact congrArg Value.agg (Array.ext' (hes ▸ e))
open Go.RowKit Go.Lib
open List renaming setIfInBounds_toArray -> sA, set_cons_zero -> sB, set_cons_succ -> sC
open BigFrame renaming wpList_want -> wQ
theorem Pu.text14 {w0 w:World}{base b:Nat}{s:List UInt8}(h:Pu w0 base b s w)(t:ByteArray)(ht:t.size<=65536)(hs:s.length<=100000):Calls Tryz.prog 29 #[.pointer (some ⟨b,0,none⟩),.string t] w λe w'=>e=.returned (.tuple #[])/\Pu w0 base b (s++(Wm.enc t.size++t.data.toList)) w':=by
 refine(Qw3 base b _ (some s) t w (Qqd h.wr) h.tab (by omega) (Qie hs)).mono ?_
 rintro e w' ⟨rfl,h1,k,f⟩;have hsz:t.data.toList.length=t.size:=by simp
 rw[pText,zG (by omega),hsz] at h1
 exact⟨rfl,h.next (Qtl h1) k f⟩
theorem Qdn {w:World}{g o:Nat}{x:Int}(h:w.cell? ⟨g,o,none⟩=some (.int .i64 x)):(loadVar 3 ⟨g,o,none⟩).run Tryz.prog w=.ok (.int .i64 x) w:=by
 go_simp
theorem Qpc {w:World}{g o:Nat}{x:ByteArray}(h:w.cell? ⟨g,o,none⟩=some (.string x)):(loadVar 9 ⟨g,o,none⟩).run Tryz.prog w=.ok (.string x) w:=by
 go_simp
namespace Cn
def body (n:Nt):List UInt8:=head n++(Wm.enc n.text.size++n.text.data.toList)
def packed (n:Nt):ByteArray:=if right n=true then str (body n) else⟨#[]⟩
theorem num_of_right {n:Nt}(h:right n=true):Num n:=by
 rw[right_iff] at h;obtain⟨h1,h2,h3,_⟩:=h;exact⟨h1,by omega,by omega,by omega⟩
theorem text_of_right {n:Nt}(h:right n=true):n.text.size<=1040:=by
 rw[right_iff] at h
 omega
end Cn
theorem Qhv (n:Nt)(hn:n.ep.length=32)(w:World)(tab:Tab w):
  Calls Tryz.prog 9 #[.agg n.cells.toArray] w λe w'=>e=.returned (.string (Cn.packed n))/\Kept w.heap.size w.heap.size w w':=by
 have HRT:=hid (λ(x:World)=>Qcn n hn x)
 have HPH:=hid (λ(hr:Cn.right n=true) (base b:Nat) (x:World) (p:Pu x base b [] x)=>Qgg n hn (Cn.num_of_right hr) base b [] (by simp) x p)
 have hhl:=Cn.head_length hn;have HTX:=hid (λ(hr:Cn.right n=true) (w0 x:World) (base b:Nat) (p:Pu w0 base b (Cn.head n) x)=>p.text14 n.text (by have:=Cn.text_of_right hr;omega) (by omega))
 have HLN:=hid (λ(u:World) (nb:Nat) (h:u.heap[nb]?=some (.cells n.cells.toArray 25 (0,0)))=>Qbu hn h)
 have HLC:=hid (λ(u:World) (nb:Nat) (h:u.heap[nb]?=some (.cells n.cells.toArray 25 (0,0)))=>(Qbj hn h).2.2.2)
 have HPK:=hid (show Cn.packed n=if Cn.right n=true then str (Cn.body n) else⟨#[]⟩ from rfl)
 have HWR:=hid (λ(base b:Nat) (x:World) (h:Wr x base b (some (Cn.body n)))=>Qew base b (Cn.body n) x h)
 have HBD:=hid (show Cn.head n++(Wm.enc n.text.size++n.text.data.toList)=Cn.body n from rfl);obtain⟨ND,hND⟩:∃x,x=n.cells.toArray:=⟨_,rfl⟩;rw[<-hND] at HRT HPH HLN HLC |-;obtain⟨ss,hss⟩:∃ss,ss=str (Cn.body n):=⟨_,rfl⟩;rw[<-hss] at HWR HPK;obtain⟨rs,hrs⟩:∃x,x=Cn.packed n:=⟨_,rfl⟩;rw[<-hrs] at HPK |-;obtain⟨rt,hrt⟩:∃x,x=Cn.right n:=⟨_,rfl⟩;rw[<-hrt] at HRT HPH HTX HPK;obtain⟨tx,htx⟩:∃x,x=n.text:=⟨_,rfl⟩;rw[<-htx] at HTX HLC HBD;have HTB:=hid tab;clear hn hND hss hrs hrt htx hhl tab
 go_enter Tryz.func9,Tryz.ntmps9
 go_upto_region 0 with fail
 refine zA ?_;iterate 2(refine wW λK hK=>?_;go_simp;apply hK;clear hK K)
 have kn:Kept w.heap.size w.heap.size w (w.alloc (.cells ND 25)):=zI.alloc (zB _) _
 have rn:=Qaa w (.cells ND 25)
 generalize w.alloc (.cells ND 25)=w1 at kn rn |-
 obtain⟨nb,hnb⟩:∃x,x=w.heap.size:=⟨_,rfl⟩;rw[<-hnb] at rn
 (try rw[<-hnb])
 have HNB:=hid (show nb<w1.heap.size from zF rn);have RN:=hid rn;have K1:=hid kn;clear kn rn hnb
 go_upto_region 1 with fail
 refine zA ?_;refine wLk 25 (.tmp 1) rfl (nb) (0) rfl (.agg ND) (HLN.out _ _ RN.out) ?_
 simp only[Act.put,sA,sB,sC];refine wW λK hK=>?_;go_simp;go_at_call 13
 refine(HRT.out _).mono ?_;rintro e w1b ⟨rfl,kr⟩;have RN1:=hid (rK RN.out kr);have K1b:=hid (K1.out.onto kr);have HNB1:=hid (show nb<w1b.heap.size by have:=HNB.out;have:=kr.size;omega)
 clear kr;apply hK;clear hK K;refine wW λK hK=>?_;go_simp;apply hK;clear hK K
 cases rt with
 | false=>
  go_upto_region 2 with fail
  refine zA ?_;refine wW λK hK=>?_;go_simp;apply hK;clear hK K;go_wp2;go_ret;exact⟨by rw[HPK.out];rfl,K1b.out⟩
 | true=>
  go_upto_region 3 with fail
  refine zA ?_;refine wW λK hK=>?_;go_simp;go_at_call 27
  refine(Qja w1b).mono ?_;rintro e w2 ⟨rfl,hw2,k2,hs2⟩;obtain⟨wb,hwb⟩:∃x,x=w1b.heap.size:=⟨_,rfl⟩;rw[<-hwb] at hw2
  (try rw[<-hwb])
  have P2:=hid (Pu.start hw2 (HTB.out.onto11 (K1b.out.onto k2)) (by have:=HTB.out.lt;have:=K1b.out.size;omega))
  have RN2:=hid (rK RN1.out k2);have K2:=hid (K1b.out.onto k2);have HWB:=hid (show w.heap.size<=wb by rw[hwb];exact K1b.out.size)
  have HNE:=hid (show nb≠wb by have:=HNB1.out;omega)
  clear hw2 k2 hs2 hwb;apply hK;clear hK K;refine wW λK hK=>?_;go_simp;apply hK;clear hK K
  go_upto_region 4 with fail
  refine zA ?_;refine wW λK hK=>?_;go_simp;apply hK;clear hK K;refine wLk 25 (.tmp 1) rfl (nb) (0) rfl (.agg ND) (HLN.out _ _ RN2.out) ?_
  simp only[Act.put,sA,sB,sC];refine wW λK hK=>?_;go_simp;go_at_call 28
  refine(HPH.out rfl _ _ _ P2.out).mono ?_;rintro e w3 ⟨rfl,p3⟩;rw[List.nil_append] at p3;have P3:=hid p3;have c35:=HLC.out _ _ (p3.box RN2.out HNE.out (by decide))
  clear p3;apply hK;clear hK K
  go_upto_region 5 with fail
  refine zA ?_;iterate 3(refine wW λK hK=>?_;go_simp;apply hK;clear hK K)
  refine wW λK hK=>?_;go_simp;go_at_call 29
  refine(HTX.out rfl _ _ _ _ P3.out).mono ?_;rintro e w4 ⟨rfl,p4⟩;rw[HBD.out] at p4;have P4:=hid p4;have KF:=hid (show Kept w.heap.size w.heap.size w w4 from K2.out.trans ⟨p4.kp.os,p4.kp.tape,p4.kp.output,p4.kp.size,λi hi _=>p4.kp.block i (by have:=HWB.out;omega) (by have:=HWB.out;omega)⟩)
  clear p4 c35;apply hK;clear hK K
  go_upto_region 6 with fail
  refine zA ?_;refine wW λK hK=>?_;go_simp;apply hK;clear hK K;refine wW λK hK=>?_;go_simp;go_at_call 30
  refine(HWR.out _ _ _ P4.out.wr).mono ?_;rintro e w5 ⟨rfl,hw⟩;subst hw;apply hK;clear hK K;refine wW λK hK=>?_;go_simp;apply hK;clear hK K;go_wp2;go_ret;exact⟨by rw[HPK.out];rfl,KF.out⟩
theorem Qiy (n:Nt)(hn:n.ep.length=32)(hv:Cn.Num n)(w:World):
  Calls Tryz.prog 35 #[.agg n.cells.toArray] w λe w'=>e=.returned (.string (str (Cn.head n)))/\Kept w.heap.size w.heap.size w w':=by
 obtain⟨⟨hd0,hd1⟩,⟨ha0,ha1⟩,hg0,hg1⟩:=hv;have hcd:((n.depth.toNat:Nat):Int)=n.depth:=by omega
 have hca:((n.author.toNat:Nat):Int)=n.author:=by omega
 have hcg:((n.gen.toNat:Nat):Int)=n.gen:=by omega
 have HHA:=hid (λ(x:World)=>refhash n.ep hn x)
 have HRD:=hid (λ(x:World)=>refnum n.depth.toNat x (by omega))
 have HRA:=hid (λ(x:World)=>refnum n.author.toNat x (by omega))
 have HRG:=hid (λ(x:World)=>refnum n.gen.toNat x (by omega))
 have HLE:=hid (λ(u:World) (nb:Nat) (h:u.heap[nb]?=some (.cells n.cells.toArray 25 (0,0)))=>Qi9 hn h)
 have HLC:=hid (λ(u:World) (nb:Nat) (h:u.heap[nb]?=some (.cells n.cells.toArray 25 (0,0)))=>(by rw[hcd,hca,hcg];exact⟨(Qbj hn h).1,(Qbj hn h).2.1,(Qbj hn h).2.2.1⟩:u.cell? ⟨nb,32,none⟩=some (.int .i64 (n.depth.toNat:Nat))/\u.cell? ⟨nb,33,none⟩=some (.int .i64 (n.author.toNat:Nat))/\u.cell? ⟨nb,34,none⟩=some (.int .i64 (n.gen.toNat:Nat))))
 have HEQ:=hid (show((str n.ep++str (Wm.enc n.depth.toNat))++str (Wm.enc n.author.toNat))++str (Wm.enc n.gen.toNat)=str (Cn.head n) by simp[Cn.head,Qa5])
 have z0:(str n.ep).size=32:=by rw[Qai,hn]
 have z1:(str (Wm.enc n.depth.toNat)).size<=8:=by rw[Qai];exact Wm.enc_length_le _
 have z2:(str (Wm.enc n.author.toNat)).size<=8:=by rw[Qai];exact Wm.enc_length_le _
 have z3:(str (Wm.enc n.gen.toNat)).size<=8:=by rw[Qai];exact Wm.enc_length_le _
 obtain⟨ND,hND⟩:∃x,x=n.cells.toArray:=⟨_,rfl⟩;rw[<-hND] at HLE HLC |-;obtain⟨EP,hEP⟩:∃x,x=(bY n.ep).toArray:=⟨_,rfl⟩;rw[<-hEP] at HHA HLE;generalize str (Cn.head n)=res at HEQ |-;generalize str n.ep=e0 at HHA HEQ z0;generalize str (Wm.enc n.depth.toNat)=e1 at HRD HEQ z1;generalize str (Wm.enc n.author.toNat)=e2 at HRA HEQ z2;generalize str (Wm.enc n.gen.toNat)=e3 at HRG HEQ z3;generalize n.depth.toNat=dn at HRD HLC;generalize n.author.toNat=an at HRA HLC;generalize n.gen.toNat=gn at HRG HLC;have y1:(e0++e1).size<=40:=by rw[ByteArray.size_append];omega
 have y2:(e0++e1++e2).size<=48:=by rw[ByteArray.size_append];omega
 clear hd0 hd1 ha0 ha1 hg0 hg1 hcd hca hcg hn hND hEP y1 y2
 go_enter Tryz.func35,Tryz.ntmps35
 go_upto_region 0 with fail
 refine zA ?_;iterate 2(refine wW λK hK=>?_;go_simp;apply hK;clear hK K)
 have kn:Kept w.heap.size w.heap.size w (w.alloc (.cells ND 25)):=zI.alloc (zB _) _
 have rn:=Qaa w (.cells ND 25)
 generalize w.alloc (.cells ND 25)=w1 at kn rn |-
 obtain⟨nb,hnb⟩:∃x,x=w.heap.size:=⟨_,rfl⟩;rw[<-hnb] at rn
 (try rw[<-hnb])
 have HNB:=hid (show nb<w1.heap.size from zF rn);have RN:=hid rn;have K1:=hid kn;clear kn rn hnb;have KD:Kept w1.heap.size w1.heap.size w1 w1.drew:=zI.drew
 go_upto_region 1 with fail
 refine wp_region_noPanic ?_;refine wp_region_held_drew (S:=λw'=>Kept w1.heap.size w1.heap.size w1 w') (by kernel_rfl) (KD) (λhH=>?_)
 refine tkE (i:=0) 3 rfl hH ?_
 apply zH
 ·intro w9 _
  go_simp
  first|done|rfl
 simp only[sA,sB,sC];refine tkA (i:=1) 4 (.agg EP) rfl (yK (by kernel_rfl) 23 _ rfl (nb) (0) rfl (.agg EP) (λx k=>HLE.out x nb (rK RN.out k))) hH ?_
 simp only[sA,sB,sC];refine tkE (i:=3) 6 rfl hH ?_
 apply zH
 ·intro w9 _
  go_simp
  first|done|rfl
 simp only[sA,sB,sC];refine tkA (i:=4) 7 (.int .i64 (dn:Nat)) rfl (yK (by kernel_rfl) 3 _ rfl (nb) (32) rfl (.int .i64 (dn:Nat)) (λx k=>Qdn (HLC.out x nb (rK RN.out k)).1)) hH ?_
 simp only[sA,sB,sC];refine tkE (i:=7) 10 rfl hH ?_
 apply zH
 ·intro w9 _
  go_simp
  first|done|rfl
 simp only[sA,sB,sC];refine tkA (i:=8) 11 (.int .i64 (an:Nat)) rfl (yK (by kernel_rfl) 3 _ rfl (nb) (33) rfl (.int .i64 (an:Nat)) (λx k=>Qdn (HLC.out x nb (rK RN.out k)).2.1)) hH ?_
 simp only[sA,sB,sC];refine tkE (i:=11) 14 rfl hH ?_
 apply zH
 ·intro w9 _
  go_simp
  first|done|rfl
 simp only[sA,sB,sC];refine tkA (i:=12) 15 (.int .i64 (gn:Nat)) rfl (yK (by kernel_rfl) 3 _ rfl (nb) (34) rfl (.int .i64 (gn:Nat)) (λx k=>Qdn (HLC.out x nb (rK RN.out k)).2.2)) hH ?_
 simp only[sA,sB,sC];refine wpAnyH_ready (rs:=[2]) (by kernel_rfl) (by simp) ?_
 refine AllReadyH.cons rfl (λK hK=>?_) AllReadyH.nil
 rw[zG (by rfl)]
 go_simp
 go_wp2_with (go_at_call 64;refine(HHA.out _).mono ?_;rintro e x1 ⟨rfl,kx1⟩)
 have X1:Kept w1.heap.size w1.heap.size w1 x1:=KD.trans (kx1.mono KD.size (λi hi _=>zD (zC hi KD.size)))
 refine hK.out _ _ (X1) (λhH=>?_)
 clear hK K;refine wpAnyH_ready (rs:=[5]) (by kernel_rfl) (by simp) ?_
 refine AllReadyH.cons rfl (λK hK=>?_) AllReadyH.nil
 rw[zG (by rfl)]
 go_simp
 go_wp2_with (go_at_call 56;refine(HRD.out _).mono ?_;rintro e x2 ⟨rfl,kx2⟩)
 have X2:Kept w1.heap.size w1.heap.size w1 x2:=X1.trans (kx2.mono X1.size (λi hi _=>zD (zC hi X1.size)))
 refine hK.out _ _ (X2) (λhH=>?_)
 clear hK K;refine tkA (i:=6) 9 (.string (e0++e1)) rfl (.inl ⟨by kernel_rfl,λw9 h9=>by go_simp;first|done|rfl|omega⟩) hH ?_
 simp only[sA,sB,sC];refine wpAnyH_ready (rs:=[9]) (by kernel_rfl) (by simp) ?_
 refine AllReadyH.cons rfl (λK hK=>?_) AllReadyH.nil
 rw[zG (by rfl)]
 go_simp
 go_wp2_with (go_at_call 56;refine(HRA.out _).mono ?_;rintro e x3 ⟨rfl,kx3⟩)
 have X3:Kept w1.heap.size w1.heap.size w1 x3:=X2.trans (kx3.mono X2.size (λi hi _=>zD (zC hi X2.size)))
 refine hK.out _ _ (X3) (λhH=>?_)
 clear hK K;refine tkA (i:=10) 13 (.string (e0++e1++e2)) rfl (.inl ⟨by kernel_rfl,λw9 h9=>by go_simp;first|done|rfl|omega⟩) hH ?_
 simp only[sA,sB,sC];refine wpAnyH_ready (rs:=[13]) (by kernel_rfl) (by simp) ?_
 refine AllReadyH.cons rfl (λK hK=>?_) AllReadyH.nil
 rw[zG (by rfl)]
 go_simp
 go_wp2_with (go_at_call 56;refine(HRG.out _).mono ?_;rintro e x4 ⟨rfl,kx4⟩)
 have X4:Kept w1.heap.size w1.heap.size w1 x4:=X3.trans (kx4.mono X3.size (λi hi _=>zD (zC hi X3.size)))
 refine hK.out _ _ (X4) (λhH=>?_)
 clear hK K;refine tkA (i:=14) 17 (.string (e0++e1++e2++e3)) rfl (.inl ⟨by kernel_rfl,λw9 h9=>by go_simp;first|done|rfl|omega⟩) hH ?_
 simp only[sA,sB,sC];refine tkE (i:=15) 2 rfl hH ?_
 apply zH
 ·intro w9 _
  go_simp
  first|done|rfl
 simp only[sA,sB,sC];refine wpAnyH_done (by kernel_rfl) ?_ _
 refine NoPanic.normal ?_;go_wp2;go_ret;exact⟨by rw[<-HEQ.out];rfl,K1.out.onto X4⟩
theorem Qiv (n:Nt)(hn:n.ep.length=32)(hr:Cn.right n=true)(w:World):
  Calls Tryz.prog 14 #[.agg n.cells.toArray] w λe w'=>e=.returned (.string (Cn.packed n))/\Kept w.heap.size w.heap.size w w':=by
 have htz:=Cn.text_of_right hr;have HHD:=hid (λ(x:World)=>Qiy n hn (Cn.num_of_right hr) x)
 have HTX:=hid (λ(x:World)=>reftext n.text x (by omega))
 have HLN:=hid (λ(u:World) (nb:Nat) (h:u.heap[nb]?=some (.cells n.cells.toArray 25 (0,0)))=>Qbu hn h)
 have HLC:=hid (λ(u:World) (nb:Nat) (h:u.heap[nb]?=some (.cells n.cells.toArray 25 (0,0)))=>(Qbj hn h).2.2.2)
 have HEQ:=hid (show str (Cn.head n)++str (Wm.enc n.text.size++n.text.data.toList)=Cn.packed n by rw[Qa5,Cn.packed,zG hr];rfl)
 have z0:(str (Cn.head n)).size<=56:=by rw[Qai];exact Cn.head_length hn
 have z1:(str (Wm.enc n.text.size++n.text.data.toList)).size<=1048:=by
  have:=Wm.enc_length_le n.text.size;rw[Qai,zE];simp
  omega
 obtain⟨ND,hND⟩:∃x,x=n.cells.toArray:=⟨_,rfl⟩;rw[<-hND] at HHD HLN HLC |-;generalize Cn.packed n=res at HEQ |-;generalize str (Cn.head n)=e0 at HHD HEQ z0;generalize str (Wm.enc n.text.size++n.text.data.toList)=e1 at HTX HEQ z1;generalize n.text=tx at HTX HLC;clear hn hr hND htz
 go_enter Tryz.func14,Tryz.ntmps14
 go_upto_region 0 with fail
 refine zA ?_;iterate 2(refine wW λK hK=>?_;go_simp;apply hK;clear hK K)
 have kn:Kept w.heap.size w.heap.size w (w.alloc (.cells ND 25)):=zI.alloc (zB _) _
 have rn:=Qaa w (.cells ND 25)
 generalize w.alloc (.cells ND 25)=w1 at kn rn |-
 obtain⟨nb,hnb⟩:∃x,x=w.heap.size:=⟨_,rfl⟩;rw[<-hnb] at rn
 (try rw[<-hnb])
 have HNB:=hid (show nb<w1.heap.size from zF rn);have RN:=hid rn;have K1:=hid kn;clear kn rn hnb;have KD:Kept w1.heap.size w1.heap.size w1 w1.drew:=zI.drew
 go_upto_region 1 with fail
 refine wp_region_noPanic ?_;refine wp_region_held_drew (S:=λw'=>Kept w1.heap.size w1.heap.size w1 w') (by kernel_rfl) (KD) (λhH=>?_)
 refine tkA (i:=0) 3 (.agg ND) rfl (yK (by kernel_rfl) 25 _ rfl (nb) (0) rfl (.agg ND) (λx k=>HLN.out x nb (rK RN.out k))) hH ?_
 simp only[sA,sB,sC];refine tkE (i:=2) 5 rfl hH ?_
 apply zH
 ·intro w9 _
  go_simp
  first|done|rfl
 simp only[sA,sB,sC];refine tkA (i:=3) 6 (.string tx) rfl (yK (by kernel_rfl) 9 _ rfl (nb) (35) rfl (.string tx) (λx k=>Qpc (HLC.out x nb (rK RN.out k)))) hH ?_
 simp only[sA,sB,sC];refine wpAnyH_ready (rs:=[1]) (by kernel_rfl) (by simp) ?_
 refine AllReadyH.cons rfl (λK hK=>?_) AllReadyH.nil
 rw[zG (by rfl)]
 go_simp
 go_wp2_with (go_at_call 35;refine(HHD.out _).mono ?_;rintro e x1 ⟨rfl,kx1⟩)
 have X1:Kept w1.heap.size w1.heap.size w1 x1:=KD.trans (kx1.mono KD.size (λi hi _=>zD (zC hi KD.size)))
 refine hK.out _ _ (X1) (λhH=>?_)
 clear hK K;refine wpAnyH_ready (rs:=[4]) (by kernel_rfl) (by simp) ?_
 refine AllReadyH.cons rfl (λK hK=>?_) AllReadyH.nil
 rw[zG (by rfl)]
 go_simp
 go_wp2_with (go_at_call 36;refine(HTX.out _).mono ?_;rintro e x2 ⟨rfl,kx2⟩)
 have X2:Kept w1.heap.size w1.heap.size w1 x2:=X1.trans (kx2.mono X1.size (λi hi _=>zD (zC hi X1.size)))
 refine hK.out _ _ (X2) (λhH=>?_)
 clear hK K;refine tkA (i:=5) 8 (.string (e0++e1)) rfl (.inl ⟨by kernel_rfl,λw9 h9=>by go_simp;first|done|rfl|omega⟩) hH ?_
 simp only[sA,sB,sC];refine tkE (i:=6) 2 rfl hH ?_
 apply zH
 ·intro w9 _
  go_simp
  first|done|rfl
 simp only[sA,sB,sC];refine wpAnyH_done (by kernel_rfl) ?_ _
 refine NoPanic.normal ?_;go_wp2;go_ret;exact⟨by rw[<-HEQ.out];rfl,K1.out.onto X2⟩
open Go.RowKit
theorem Qff (s:ByteArray):str s.data.toList=s:=by
 cases s
 simp[str]
namespace Cn
def u1 (l:List UInt8):Wm.Got (List UInt8):=gHash l 0
def u2 (l:List UInt8):Wm.Got Int:=gNum (u1 l).left (u1 l).err 4611686018427387903
def u3 (l:List UInt8):Wm.Got Int:=gNum (u2 l).left (u2 l).err 64
def u4 (l:List UInt8):Wm.Got Int:=gNum (u3 l).left (u3 l).err 255
def u5 (l:List UInt8):Wm.Got (List UInt8):=gText (u4 l).left (u4 l).err 1040
def rdErr (l:List UInt8):Int:=gEnd (u5 l).left (u5 l).err
def rdNt (l:List UInt8):Nt:=⟨(u1 l).val,(u2 l).val,(u3 l).val,(u4 l).val,str (u5 l).val⟩
def unErr (l:List UInt8):Int:=if rdErr l=0 then(if right (rdNt l)=true then 0 else 3) else rdErr l
def unNt (l:List UInt8):Nt:=if unErr l=0 then rdNt l else Nt.zero
theorem rdNt_ep (l:List UInt8):(rdNt l).ep.length=32:=Qfb _ _
theorem zero_ep:Nt.zero.ep.length = 32:=by simp[Nt.zero,Tt.z32]
theorem unNt_ep (l:List UInt8):(unNt l).ep.length=32:=by
 unfold unNt
 split
 ·exact rdNt_ep l
 ·exact zero_ep
theorem Qjp {l:List UInt8}{e m:Int}(h:(gNum l e m).err=0):e=0/\l=Wm.enc (gNum l e m).val.toNat++(gNum l e m).left:=by
 unfold gNum at h |-
 by_cases he:e=0
 ·rw[zG he] at h |-
  exact⟨he,Wm.enc_rNum l m h⟩
 ·rw[if_neg he] at h
  exact absurd h he
theorem Qsz {l:List UInt8}{e:Int}(h:(gHash l e).err=0):e=0/\l=(gHash l e).val++(gHash l e).left:=by
 unfold gHash at h |-
 by_cases he:e=0
 ·rw[zG he] at h |-
  by_cases hl:l.length<32
  ·rw[zG hl] at h
   exact absurd h (by decide)
  ·rw[if_neg hl]
   exact⟨he,(List.take_append_drop 32 l).symm⟩
 ·rw[if_neg he] at h
  exact absurd h he
theorem Qu1 {l:List UInt8}{e:Int}(h:gEnd l e=0):e=0/\l=[]:=by
 unfold gEnd at h
 by_cases he:e=0
 ·rw[zG he] at h
  by_cases hl:l=[]
  ·exact⟨he,hl⟩
  ·rw[if_neg hl] at h
   exact absurd h (by decide)
 ·rw[if_neg he] at h
  exact absurd h he
theorem Qrr (l:List UInt8)(m:Int)(h:(Wm.rText l m).err=0):l=Wm.enc (Wm.rText l m).val.length++((Wm.rText l m).val++(Wm.rText l m).left):=by
 unfold Wm.rText at h |-
 by_cases h0:(Wm.rNum l (min m 65536)).err=0
 ·rw[zG h0] at h |-
  have hform:=Wm.enc_rNum l _ h0;generalize Wm.rNum l (min m 65536)=r at *;unfold Wm.rRaw at h |-
  by_cases hlen:r.left.length<r.val.toNat
  ·rw[zG hlen] at h
   exact absurd h (by decide)
  ·rw[if_neg hlen]
   have hl:(r.left.take r.val.toNat).length=r.val.toNat:=by rw[List.length_take];omega
   show l=Wm.enc (r.left.take r.val.toNat).length++(r.left.take r.val.toNat++r.left.drop r.val.toNat);rw[hl,List.take_append_drop];exact hform
 ·rw[if_neg h0] at h
  exact absurd h h0
theorem Qsy {l:List UInt8}{e m:Int}(h:(gText l e m).err=0):e=0/\l=Wm.enc (gText l e m).val.length++((gText l e m).val++(gText l e m).left):=by
 unfold gText at h |-
 by_cases he:e=0
 ·rw[zG he] at h |-
  exact⟨he,Qrr l m h⟩
 ·rw[if_neg he] at h
  exact absurd h he
theorem Qvf {l:List UInt8}(h:rdErr l=0):body (rdNt l)=l:=by
 obtain⟨h5,e5⟩:=Qu1 h;obtain⟨h4,e4⟩:=Qsy (l:=(u4 l).left) (e:=(u4 l).err) (m:=1040) h5;obtain⟨h3,e3⟩:=Qjp (l:=(u3 l).left) (e:=(u3 l).err) (m:=255) h4;obtain⟨h2,e2⟩:=Qjp (l:=(u2 l).left) (e:=(u2 l).err) (m:=64) h3;obtain⟨h1,e1⟩:=Qjp (l:=(u1 l).left) (e:=(u1 l).err) (m:=4611686018427387903) h2;obtain⟨_,e0⟩:=Qsz (l:=l) (e:=0) h1
 have f4:(u4 l).left=Wm.enc (u5 l).val.length++(u5 l).val:=by
  rw[e4];show Wm.enc (u5 l).val.length++((u5 l).val++(u5 l).left)=_;rw[e5,List.append_nil]
 have f3:(u3 l).left=Wm.enc (u4 l).val.toNat++(u4 l).left:=e3;have f2:(u2 l).left=Wm.enc (u3 l).val.toNat++(u3 l).left:=e2;have f1:(u1 l).left=Wm.enc (u2 l).val.toNat++(u2 l).left:=e1;have f0:l=(u1 l).val++(u1 l).left:=e0;have hz:(str (u5 l).val).size=(u5 l).val.length:=Qai _;have hd:(str (u5 l).val).data.toList=(u5 l).val:=by simp
 unfold body;show head (rdNt l)++(Wm.enc (str (u5 l).val).size++(str (u5 l).val).data.toList)=l;rw[hz,hd]
 conv=>rhs;rw[f0,f1,f2,f3,f4]
 simp only[head,rdNt,List.append_assoc]
theorem Qu0 {x:List UInt8}(hx:x.length=32)(r:List UInt8):gHash (x++r) 0=⟨x,r,0⟩:=by
 unfold gHash;rw[zG rfl,if_neg (by rw[zE];omega),List.take_left' hx,List.drop_left' hx]
theorem Ql5 {n:Int}(h0:0<=n)(h1:n<=4611686018427387903){m:Int}(hm:n<=m)(r:List UInt8):gNum (Wm.enc n.toNat++r) 0 m=⟨n,r,0⟩:=by
 unfold gNum;rw[zG rfl,Wm.rNum_enc n.toNat (by omega) r m (by omega),Int.toNat_of_nonneg h0]
theorem Quz (s:List UInt8)(hs:s.length<=1040)(r:List UInt8):gText (Wm.enc s.length++(s++r)) 0 1040=⟨s,r,0⟩:=by
 have h1:Wm.rNum (Wm.enc s.length++(s++r)) (min 1040 65536)=⟨s.length,s++r,0⟩:=Wm.rNum_enc s.length (by omega) (s++r) _ (by omega)
 unfold gText;rw[zG rfl,Wm.rText,h1,zG rfl];show Wm.rRaw (s++r) ((s.length:Int)).toNat=_;rw[Int.toNat_natCast,Wm.rRaw,if_neg (by simp),List.take_left' rfl,List.drop_left' rfl]
theorem Qt5 {n:Nt}(hn:n.ep.length=32)(h:right n=true):rdErr (body n)=0/\rdNt (body n)=n:=by
 obtain⟨⟨d0,d1⟩,⟨a0,a1⟩,⟨g0,g1⟩,ht⟩:=right_iff.1 h;have hts:n.text.data.toList.length=n.text.size:=by simp
 have hst:str n.text.data.toList=n.text:=Qff _
 have e:body n=n.ep++(Wm.enc n.depth.toNat++(Wm.enc n.author.toNat++(Wm.enc n.gen.toNat++(Wm.enc n.text.data.toList.length++(n.text.data.toList++[]))))):=by
  simp only[body,head,List.append_assoc,List.append_nil,hts]
 have f1:=Qu0 hn (Wm.enc n.depth.toNat++(Wm.enc n.author.toNat++(Wm.enc n.gen.toNat++(Wm.enc n.text.data.toList.length++(n.text.data.toList++[])))));rw[<-e] at f1;have f2:=Ql5 d0 d1 d1 (Wm.enc n.author.toNat++(Wm.enc n.gen.toNat++(Wm.enc n.text.data.toList.length++(n.text.data.toList++[]))));have f3:=Ql5 (n:=n.author) (by omega) (by omega) a1 (Wm.enc n.gen.toNat++(Wm.enc n.text.data.toList.length++(n.text.data.toList++[])))
 have f4:=Ql5 (n:=n.gen) g0 (by omega) (m:=255) (by omega) (Wm.enc n.text.data.toList.length++(n.text.data.toList++[]))
 have f5:=Quz n.text.data.toList (by omega) []
 have k1:=(show u1 (body n)=gHash (body n) 0 from rfl);rw[f1] at k1;have k2:=(show u2 (body n)=gNum (u1 (body n)).left (u1 (body n)).err 4611686018427387903 from rfl);rw[k1] at k2
 dsimp only at k2
 rw[f2] at k2;have k3:=(show u3 (body n)=gNum (u2 (body n)).left (u2 (body n)).err 64 from rfl);rw[k2] at k3
 dsimp only at k3
 rw[f3] at k3;have k4:=(show u4 (body n)=gNum (u3 (body n)).left (u3 (body n)).err 255 from rfl);rw[k3] at k4
 dsimp only at k4
 rw[f4] at k4;have k5:=(show u5 (body n)=gText (u4 (body n)).left (u4 (body n)).err 1040 from rfl);rw[k4] at k5
 dsimp only at k5
 rw[f5] at k5;refine⟨by rw[rdErr,k5];rfl,?_⟩;rw[rdNt,k1,k2,k3,k4,k5]
theorem un_body {n:Nt}(hn:n.ep.length=32)(h:right n=true):unErr (body n)=0/\unNt (body n)=n:=by
 obtain⟨h1,h2⟩:=Qt5 hn h;have h3:unErr (body n)=0:=by rw[unErr,zG h1,h2,zG h]
 exact⟨h3,by rw[unNt,zG h3,h2]⟩
theorem un_right {l:List UInt8}(h:unErr l=0):right (unNt l)=true/\body (unNt l)=l:=by
 have h0:rdErr l=0/\right (rdNt l)=true:=by
  unfold unErr at h
  by_cases h1:rdErr l=0
  ·rw[zG h1] at h
   by_cases h2:right (rdNt l)=true
   ·exact⟨h1,h2⟩
   ·rw[if_neg h2] at h;exact absurd h (by decide)
  ·rw[if_neg h1] at h;exact absurd h h1
 rw[unNt,zG h];exact⟨h0.2,Qvf h0.1⟩
end Cn
theorem Qdc {b:Nat}{t:TypeId}:∀(vs A B C:List Value) (w:World),vs.length=B.length->w.heap[b]?=some (.cells (A++(B++C)).toArray t (0,0))->(w.setCells b A.length vs).heap[b]?=some (.cells (A++(vs++C)).toArray t (0,0))/\(∀k,k≠b->(w.setCells b A.length vs).heap[k]?=w.heap[k]?)/\(w.setCells b A.length vs).heap.size=w.heap.size/\(w.setCells b A.length vs).os=w.os/\(w.setCells b A.length vs).tape=w.tape/\(w.setCells b A.length vs).output=w.output
 | [],A,[],C,w,_,h=>⟨h,λ_ _=>rfl,rfl,rfl,rfl,rfl⟩
 | v::vs,A,x::B,C,w,hl,h=>by
  have h1:=Qaj h A.length v;have e1:(A++(x::B++C)).set A.length v=(A++[v])++(B++C):=by simp
  rw[e1] at h1;have:=Qdc vs (A++[v]) B C _ (by simpa using hl) h1
  rw[World.setCells];have e2:(A++[v]).length=A.length+1:=by simp
  rw[e2] at this;have e3:(A++[v])++(vs++C)=A++(v::vs++C):=by simp
  rw[e3] at this;refine⟨this.1,λk hk=>(this.2.1 k hk).trans (Qc4 w b A.length v k hk),this.2.2.1.trans (by simp[World.setCell]),this.2.2.2.1,this.2.2.2.2.1,this.2.2.2.2.2⟩
theorem Qj8 {w:World}{b:Nat}{cs:Array Value}{t:TypeId}(h:w.heap[b]?=some (.cells cs t (0,0))){o n:Nat}(hn:o+n<=cs.size):w.there b o n:=λj hj=>by
 refine⟨?_,by simp[World.frozen?,h]⟩
 rw[cell_of_row w b (o+j) _ _ _ h,Array.getElem?_eq_getElem (by omega)]
 rfl
section
variable {P:Program} {ops:Array Oper} {rest:List Oper} {o:Oper} {a:Act} {w:World} {Q:Exit->Act->World->Prop}
theorem Qis (w:World)(ty:TypeId)(b k:Nat)(v:Value)(ht:w.there b k 1)(hv:v.oneCell'=true)(hi:(P.info? ty).map (·.size)=some 1):(storeVar ty ⟨b,k,none⟩ v).run P w=.ok () (w.setCells b k [v]):=by
 have h0:=ht 0 (by omega)
 have hst:=run_storeCells_cells (P:=P) b k [v] 0 w (λj hj=>by
   obtain rfl:j=0:=by simpa using hj
   simpa using h0.1) (λj hj=>by
   obtain rfl:j=0:=by simpa using hj
   simpa using h0.2) (λx hx=>by rw[List.mem_singleton.1 hx];exact hv)
 have hcs:v.cells = #[v]:=by cases v <;> first|rfl|cases hv
 cases hq:P.info? ty with
 | none=>simp[hq] at hi
 | some i=>
  have hs:i.size=1:=by simpa [hq] using hi
  simp[storeVar,sizeOf,typeInfo,hq,hcs,hs,hst,World.setCells]
theorem Qck (hw:Region.wanted o (yielded ops a.tmps)=true)(ty:TypeId)(x y:Operand)(ho:o.op=.store ty x y)(b k:Nat)(v:Value)(hx:a.eval x=.pointer (some ⟨b,k,none⟩))(hy:a.eval y=v)
  (ht:w.there b k 1) (hv:v.oneCell'=true) (hi:(P.info? ty).map (·.size)=some 1) (hq:wpList P ops Q rest (a.put o.dst undef) (w.setCells b k [v])):wpList P ops Q (o::rest) a w:=by
 refine wpList_step λK hK=>?_
 rw[zG hw];have hrun:=Qis (P:=P) w ty b k v ht hv hi;unfold Oper.wp execOp;simp only[ho,hx,hy,Instr.storeAt,Instr.sureAddr,Sem.run_bind,Sem.run_pure,Result.andThen_ok,hrun];exact hK _ _ hq
theorem Qii (hw:Region.wanted o (yielded ops a.tmps)=true)(ty:TypeId)(x y:Operand)(ho:o.op=.store ty x y)(b k:Nat)(cells:Array Value)(hx:a.eval x=.pointer (some ⟨b,k,none⟩))(hy:a.eval y=.agg cells)
  (ht:w.there b k cells.size) (hi:(P.info? ty).map (·.size)=some cells.size) (h1:cells.all (·.oneCell')=true) (hq:wpList P ops Q rest (a.put o.dst undef) (w.setCells b k cells.toList)):wpList P ops Q (o::rest) a w:=by
 refine wpList_step λK hK=>?_
 rw[zG hw];exact wp_store_mid ty x y ho b k cells hx hy ht hi h1 (hK _ _ hq)
end
theorem Qb9 (w:World)(g:Nat)(cs:Array Value){old:Array Value}{t:TypeId}{fr:Nat × Nat}(h:w.heap[g]?=some (.cells old t fr)):(w.setRow g cs).heap[g]?=some (.cells cs t fr):=by
 have hlt:=zF h;have h':w.heap[g]=.cells old t fr:=by simpa [Array.getElem?_eq_getElem hlt] using h
 show(w.heap.modify g _)[g]?=_;rw[Array.getElem?_eq_getElem (by simpa using hlt),Array.getElem_modify_self,h']
theorem Qbo {P:Program}{fn:Func}{p u:Tmp}{ty:TypeId}(h:fn.results = #[.cell p ty,.tmp u])(tmps:Array Value)(w:World)(g:Nat)(t:TypeId)(cs:Array Value)(fr:Nat × Nat)(d:TypeDesc)
  (hp:tmps.getD p undef=.pointer (some ⟨g,0,none⟩)) (hg:w.heap[g]?=some (.cells cs t fr))
  (hu:P.underlying ty=some d) (hd:(match d with | .struct _ | .array _ _=>true|_=>false)=true) (hi:(P.info? ty).map (·.size)=some cs.size) :
  (results fn tmps).run P w=.ok (.tuple #[.agg cs,tmps.getD u undef]) w:=by
 have hp':tmps[p]?.getD undef=.pointer (some ⟨g,0,none⟩):=by simpa using hp
 simp[results,h,hp',asAddr,run_loadVar_row w g t ty cs fr d hg hu hd hi]
def NtB (w:World)(pb:Nat)(n:Nt):Prop:=w.heap[pb]?=some (.cells n.cells.toArray 25 (0,0))
section
variable {w w':World} {pb:Nat} {n:Nt}
theorem NtB.there (h:NtB w pb n)(hn:n.ep.length=32){o k:Nat}(hk:o+k<=36):w.there pb o k:=Qj8 h (by rw[Nt.size hn];exact hk)
theorem Qco {vs:List Value}{o:Nat}(h:(∀k,k≠pb->(w.setCells pb o vs).heap[k]?=w.heap[k]?)/\(w.setCells pb o vs).heap.size=w.heap.size/\(w.setCells pb o vs).os=w.os/\(w.setCells pb o vs).tape=w.tape/\(w.setCells pb o vs).output=w.output):Kept w.heap.size pb w (w.setCells pb o vs):=
 ⟨h.2.2.1,h.2.2.2.1,h.2.2.2.2,Nat.le_of_eq h.2.1.symm,λi _ hn=>h.1 i hn⟩
theorem NtB.ep (h:NtB w pb n)(hn:n.ep.length=32){l:List UInt8}(hl:l.length=32):NtB (w.setCells pb 0 (bY l).toArray.toList) pb { n with ep:=l }/\Kept w.heap.size pb w (w.setCells pb 0 (bY l).toArray.toList):=by
 have:=Qdc (bY l) [] (bY n.ep) [.int .i64 n.depth,.int .i64 n.author,.int .i64 n.gen,.string n.text] w (by rw[bZ,bZ,hn,hl]) h
 exact⟨this.1,Qco this.2⟩
theorem NtB.depth (h:NtB w pb n)(hn:n.ep.length=32)(x:Int):NtB (w.setCells pb 32 [.int .i64 x]) pb { n with depth:=x }/\Kept w.heap.size pb w (w.setCells pb 32 [.int .i64 x]):=by
 have:=Qdc [.int .i64 x] (bY n.ep) [.int .i64 n.depth] [.int .i64 n.author,.int .i64 n.gen,.string n.text] w rfl h;rw[bZ,hn] at this;exact⟨this.1,Qco this.2⟩
theorem NtB.author (h:NtB w pb n)(hn:n.ep.length=32)(x:Int):NtB (w.setCells pb 33 [.int .i64 x]) pb { n with author:=x }/\Kept w.heap.size pb w (w.setCells pb 33 [.int .i64 x]):=by
 have e:∀y:Int,Nt.cells { n with author:=y } = (bY n.ep++[.int .i64 n.depth])++([.int .i64 y]++[.int .i64 n.gen,.string n.text]):=λy=>by simp[Nt.cells]
 have:=Qdc [.int .i64 x] (bY n.ep++[.int .i64 n.depth]) [.int .i64 n.author] [.int .i64 n.gen,.string n.text] w rfl (by rw[<-e n.author];exact h)
 rw[zE,bZ,hn] at this;exact⟨by unfold NtB;rw[e x];exact this.1,Qco this.2⟩
theorem NtB.gen (h:NtB w pb n)(hn:n.ep.length=32)(x:Int):NtB (w.setCells pb 34 [.int .i64 x]) pb { n with gen:=x }/\Kept w.heap.size pb w (w.setCells pb 34 [.int .i64 x]):=by
 have e:∀y:Int,Nt.cells { n with gen:=y } = (bY n.ep++[.int .i64 n.depth,.int .i64 n.author])++([.int .i64 y]++[.string n.text]):=λy=>by simp[Nt.cells]
 have:=Qdc [.int .i64 x] (bY n.ep++[.int .i64 n.depth,.int .i64 n.author]) [.int .i64 n.gen] [.string n.text] w rfl (by rw[<-e n.gen];exact h)
 rw[zE,bZ,hn] at this;exact⟨by unfold NtB;rw[e x];exact this.1,Qco this.2⟩
theorem NtB.text (h:NtB w pb n)(hn:n.ep.length=32)(x:ByteArray):NtB (w.setCells pb 35 [.string x]) pb { n with text:=x }/\Kept w.heap.size pb w (w.setCells pb 35 [.string x]):=by
 have e:∀y:ByteArray,Nt.cells { n with text:=y } = (bY n.ep++[.int .i64 n.depth,.int .i64 n.author,.int .i64 n.gen])++([.string y]++[]):=λy=>by simp[Nt.cells]
 have:=Qdc [.string x] (bY n.ep++[.int .i64 n.depth,.int .i64 n.author,.int .i64 n.gen]) [.string n.text] [] w rfl (by rw[<-e n.text];exact h)
 rw[zE,bZ,hn] at this;exact⟨by unfold NtB;rw[e x];exact this.1,Qco this.2⟩
theorem NtB.far (h:NtB w pb n){c base:Nat}(k:Kept base c w w')(hb:pb<base)(hc:pb≠c):NtB w' pb n:=(k.block pb hb hc).trans h
end
theorem Qp3 (ep:List UInt8)(h:ep.length=32)(d a g:Int)(t:ByteArray)(w:World):(Instr.build 25 #[(0,.agg (bY ep).toArray),(1,.int .i64 d),(2,.int .i64 a),(3,.int .i64 g),(4,.string t)]).run Tryz.prog w=.ok (.agg (Nt.cells ⟨ep,d,a,g,t⟩).toArray) w:=by
 revert ep
 refine Qbv ?_
 intros
 kernel_rfl
theorem Qdd {n:Nt}(h:n.ep.length=32):(Tryz.prog.info? 25).map (·.size)=some n.cells.toArray.size:=noteInfo (Nt.size h)
theorem Qss {l:List UInt8}(h:l.length=32):(Tryz.prog.info? 23).map (·.size)=some (bY l).toArray.size:=by
 have e:(Tryz.prog.info? 23).map (·.size)=some 32:=by kernel_rfl
 rw[e,List.size_toArray,bZ,h]
theorem Qjk:(Tryz.prog.info? 3).map (·.size)=some 1:=by kernel_rfl
theorem Qtw:(Tryz.prog.info? 9).map (·.size)=some 1:=by kernel_rfl
theorem Qfs (s:ByteArray)(w:World)(tab:Tab w):Calls Tryz.prog 7 #[.string s] w λe w'=>e=.returned (.tuple #[.agg (Cn.unNt s.data.toList).cells.toArray,.int .i64 (Cn.unErr s.data.toList)])/\Kept w.heap.size w.heap.size w w':=by
 have HFR:=hid (λ(x:World)=>Qs0 s x)
 have HSS:=hid (Qff s);generalize s.data.toList=L at HSS HFR |-;have HUE:=hid (show Cn.unErr L=if Cn.rdErr L=0 then(if Cn.right (Cn.rdNt L)=true then 0 else 3) else Cn.rdErr L from rfl)
 have HUC:=hid (show Cn.unErr L=0->Cn.unNt L=Cn.rdNt L from λh=>by rw[Cn.unNt,zG h])
 have HUZ:=hid (show Cn.unErr L≠0->Cn.unNt L=Nt.zero from λh=>by rw[Cn.unNt,if_neg h])
 have HQI:=hid (Qdd (Cn.rdNt_ep L));have HQS:=hid (show Nt.zero.cells.toArray.size=(Cn.rdNt L).cells.toArray.size by rw[Nt.size (Cn.rdNt_ep L),Nt.size Cn.zero_ep])
 have HQA:=hid (Cn.rdNt L).all;have HZI:=hid (Qdd Cn.zero_ep);have HZA:=hid Nt.zero.all;have HZ0:=hid Qjy;have HLQ:=hid (λ(x:World) (b:Nat) (h:x.heap[b]?=some (.cells (Cn.rdNt L).cells.toArray 25 (0,0)))=>Qbu (Cn.rdNt_ep L) h)
 have HRT:=hid (λ(x:World)=>Qcn (Cn.rdNt L) (Cn.rdNt_ep L) x)
 have HEN:=hid (λ(top b:Nat) (x:World) (h:Rd x top b (Cn.u5 L).left (Cn.u5 L).err)=>(show Calls Tryz.prog 22 #[.pointer (some ⟨b,0,none⟩)] x λe w'=>e=.returned (.int .i64 (Cn.rdErr L))/\x=w' from Qxo top b _ _ x h))
 have HBV:=hid (λx=>Qp3 (Cn.u1 L).val (Qfb _ _) (Cn.u2 L).val (Cn.u3 L).val (Cn.u4 L).val (str (Cn.u5 L).val) x)
 rw[show(⟨(Cn.u1 L).val,(Cn.u2 L).val,(Cn.u3 L).val,(Cn.u4 L).val,str (Cn.u5 L).val⟩:Nt)=Cn.rdNt L from rfl] at HBV;have HG1:=hid (λ(top b:Nat) (x:World) (h:Rd x top b L 0)=>Qwn top b L 0 x h)
 have HG2:=hid (λ(top b:Nat) (x:World) (h:Rd x top b (Cn.u1 L).left (Cn.u1 L).err)=>Qpa top b _ _ 4611686018427387903 x h)
 have HG3:=hid (λ(top b:Nat) (x:World) (h:Rd x top b (Cn.u2 L).left (Cn.u2 L).err)=>Qpa top b _ _ 64 x h)
 have HG4:=hid (λ(top b:Nat) (x:World) (h:Rd x top b (Cn.u3 L).left (Cn.u3 L).err)=>Qpa top b _ _ 255 x h)
 have HG5:=hid (λ(top b:Nat) (x:World) (h:Rd x top b (Cn.u4 L).left (Cn.u4 L).err)=>Qvz top b _ _ 1040 x h)
 obtain⟨DQ,hDQ⟩:∃D,D=(Cn.rdNt L).cells.toArray:=⟨_,rfl⟩;obtain⟨er,her⟩:∃n,n=Cn.rdErr L:=⟨_,rfl⟩;obtain⟨qr,hqr⟩:∃n,n=Cn.right (Cn.rdNt L):=⟨_,rfl⟩;rw[<-hDQ] at HQI HQS HQA HLQ HRT HBV;rw[<-her] at HEN HUE;rw[<-hqr] at HRT HUE;have HDQ:=hid hDQ;clear her hqr hDQ;have HTB:=hid tab;clear tab
 go_enter Tryz.func7,Tryz.ntmps7
 go_upto_region 0 with fail
 refine zA ?_;refine @Qas _ _ _ _ _ _ _ _ ?_ 25 rfl _ (Qbr _) ?_;kernel_rfl
 simp only[Act.put,sA,sB,sC];have k1:Kept w.heap.size w.heap.size w (w.alloc (.cells Nt.zero.cells.toArray 25)):=zI.alloc (zB _) _
 have r1:=Qaa w (.cells Nt.zero.cells.toArray 25)
 have z1:(w.alloc (.cells Nt.zero.cells.toArray 25)).heap.size=w.heap.size+1:=by simp
 generalize w.alloc (.cells Nt.zero.cells.toArray 25)=w1 at k1 r1 z1 |-
 obtain⟨rb,hrb⟩:∃n,n=w.heap.size:=⟨_,rfl⟩;rw[<-hrb] at r1
 (try rw[<-hrb])
 have HRB:=hid (show w.heap.size<=rb/\rb<w1.heap.size by omega)
 have K1:=hid k1;have R1:=hid r1;clear hrb z1 k1 r1;refine wW λK hK=>?_;go_simp;apply hK;clear hK K
 go_upto_region 1 with fail
 refine zA ?_;refine wW λK hK=>?_;go_simp;apply hK;clear hK K;refine wW λK hK=>?_;go_simp;go_at_call 18
 refine(HFR.out _).mono ?_;rintro e w2 ⟨rfl,f2,kx,hs2⟩;obtain⟨b,hb⟩:∃n,n=w1.heap.size+1:=⟨_,rfl⟩;obtain⟨top,htop⟩:∃n,n=w1.heap.size+2:=⟨_,rfl⟩;rw[<-hb,<-htop] at f2
 (try rw[<-hb])
 have F2:=hid f2;have K2:=hid (K1.out.onto kx);have R2:=hid (rK R1.out kx);have HNE:=hid (show rb≠b/\w.heap.size<=rb/\w.heap.size<=b/\rb<w2.heap.size/\0<b by have:=HRB.out;have:=HTB.out.lt;omega)
 clear f2 kx hs2 hb htop;apply hK;clear hK K;refine wW λK hK=>?_;go_simp;apply hK;clear hK K
 go_upto_region 2 with fail
 refine zA ?_;refine wW λK hK=>?_;go_simp;apply hK;clear hK K;refine wW λK hK=>?_;go_simp;go_at_call 19
 refine(HG1.out _ _ _ F2.out).mono ?_;rintro e w3 ⟨rfl,f,kx⟩;have F3:=hid (show Rd w3 top b (Cn.u1 L).left (Cn.u1 L).err from f);have K3:=hid (K2.out.trans (kx.mono K2.out.size (λi hi _=>by have:=HNE.out;omega)))
 have R3:=hid ((kx.block rb (zF R2.out) HNE.out.1).trans R2.out);clear f kx;apply hK;clear hK K;refine wW λK hK=>?_;go_simp;apply hK;clear hK K;refine wW λK hK=>?_;go_simp;go_at_call 20
 refine(HG2.out _ _ _ F3.out (HTB.out.onto11 K3.out) HNE.out.2.2.2.2).mono ?_;rintro e w4 ⟨rfl,f,kx⟩;have F4:=hid (show Rd w4 top b (Cn.u2 L).left (Cn.u2 L).err from f);have K4:=hid (K3.out.trans (kx.mono K3.out.size (λi hi _=>by have:=HNE.out;omega)))
 have R4:=hid ((kx.block rb (zF R3.out) HNE.out.1).trans R3.out);clear f kx;apply hK;clear hK K;refine wW λK hK=>?_;go_simp;apply hK;clear hK K;refine wW λK hK=>?_;go_simp;go_at_call 20
 refine(HG3.out _ _ _ F4.out (HTB.out.onto11 K4.out) HNE.out.2.2.2.2).mono ?_;rintro e w5 ⟨rfl,f,kx⟩;have F5:=hid (show Rd w5 top b (Cn.u3 L).left (Cn.u3 L).err from f);have K5:=hid (K4.out.trans (kx.mono K4.out.size (λi hi _=>by have:=HNE.out;omega)))
 have R5:=hid ((kx.block rb (zF R4.out) HNE.out.1).trans R4.out);clear f kx;apply hK;clear hK K;refine wW λK hK=>?_;go_simp;apply hK;clear hK K;refine wW λK hK=>?_;go_simp;go_at_call 20
 refine(HG4.out _ _ _ F5.out (HTB.out.onto11 K5.out) HNE.out.2.2.2.2).mono ?_;rintro e w6 ⟨rfl,f,kx⟩;have F6:=hid (show Rd w6 top b (Cn.u4 L).left (Cn.u4 L).err from f);have K6:=hid (K5.out.trans (kx.mono K5.out.size (λi hi _=>by have:=HNE.out;omega)))
 have R6:=hid ((kx.block rb (zF R5.out) HNE.out.1).trans R5.out);clear f kx;apply hK;clear hK K;refine wW λK hK=>?_;go_simp;apply hK;clear hK K;refine wW λK hK=>?_;go_simp;go_at_call 21
 refine(HG5.out _ _ _ F6.out (HTB.out.onto11 K6.out) HNE.out.2.2.2.2).mono ?_;rintro e w7 ⟨rfl,f,kx⟩;have F7:=hid (show Rd w7 top b (Cn.u5 L).left (Cn.u5 L).err from f);have K7:=hid (K6.out.trans (kx.mono K6.out.size (λi hi _=>by have:=HNE.out;omega)))
 have R7:=hid ((kx.block rb (zF R6.out) HNE.out.1).trans R6.out);clear f kx;apply hK;clear hK K;refine @Qbw _ _ _ _ _ _ _ ?_ 25 _ rfl #[(0,.agg (bY (Cn.u1 L).val).toArray),(1,.int .i64 (Cn.u2 L).val),(2,.int .i64 (Cn.u3 L).val),(3,.int .i64 (Cn.u4 L).val),(4,.string (str (Cn.u5 L).val))] (by kernel_rfl) _ (HBV.out _) ?_;kernel_rfl
 simp only[Act.put,sA,sB,sC];refine @Qas _ _ _ _ _ _ _ _ ?_ 25 rfl _ (Qbr _) ?_;kernel_rfl
 simp only[Act.put,sA,sB,sC];refine wpList_store_row rfl 25 _ _ rfl (w7.heap.size) DQ rfl rfl 25 Nt.zero.cells.toArray (Qaa _ _) (HQI.out) (HQS.out) (HQA.out) ?_
 simp only[Act.put];rw[World.setRow_alloc_new];have kk:Kept w7.heap.size w7.heap.size w7 (w7.alloc (.cells DQ 25)):=zI.alloc (zB _) _
 have r8:=rK R7.out kk;have f8:=F7.out.alloc (.cells DQ 25)
 have q8:=Qaa w7 (.cells DQ 25)
 have k8:=K7.out.onto kk;generalize w7.alloc (.cells DQ 25)=w8 at r8 f8 q8 k8 |-
 obtain⟨pb,hpb⟩:∃n,n=w7.heap.size:=⟨_,rfl⟩;rw[<-hpb] at q8
 (try rw[<-hpb])
 have R8:=hid r8;have F8:=hid f8;have Q8:=hid q8;have K8:=hid k8;clear hpb r8 f8 q8 k8 kk F2 F3 F4 F5 F6 F7 R1 R2 R3 R4 R5 R6 R7 K1 K2 K3 K4 K5 K6 K7
 go_upto_region 3 with fail
 refine zA ?_;refine wW λK hK=>?_;go_simp;apply hK;clear hK K;refine wW λK hK=>?_;go_simp;go_at_call 22
 refine(HEN.out _ _ _ F8.out).mono ?_;rintro e wz ⟨rfl,hwz⟩;subst wz;apply hK;clear hK K;refine wW λK hK=>?_;go_simp;apply hK;clear hK K
 by_cases he:er=0
 ·subst he
  go_upto_region 4 with fail
  refine zA ?_;iterate 2(refine wW λK hK=>?_;go_simp;apply hK;clear hK K)
  go_upto_region 6 with fail
  refine zA ?_;refine wLk 25 (.tmp 5) rfl (pb) (0) rfl (.agg DQ) (HLQ.out _ _ Q8.out) ?_
  simp only[Act.put,sA,sB,sC];refine wW λK hK=>?_;go_simp;go_at_call 13
  refine(HRT.out _).mono ?_;rintro e w8b ⟨rfl,kx⟩;have R8b:=hid (rK R8.out kx);have K8b:=hid (K8.out.onto kx);have Q8b:=hid (rK Q8.out kx);clear kx;apply hK;clear hK K;refine wW λK hK=>?_;go_simp;apply hK;clear hK K
  cases qr
  ·have HE3:Hid (Cn.unErr L=3):=hid (by rw[HUE.out,zG rfl];rfl)
   have HC3:Hid (Cn.unNt L=Nt.zero):=hid (HUZ.out (by rw[HE3.out];decide))
   clear HUE HUC HUZ
   go_upto_region 7 with fail
   refine zA ?_;refine @Qap _ _ _ _ _ _ _ ?_ 25 rfl _ (HZ0.out _) ?_;kernel_rfl
   simp only[Act.put,sA,sB,sC];refine wpList_store_row rfl 25 _ _ rfl (rb) Nt.zero.cells.toArray rfl rfl 25 Nt.zero.cells.toArray (R8b.out) (HZI.out) (rfl) (HZA.out) ?_
   simp only[Act.put];have R9:=Qb9 w8b rb Nt.zero.cells.toArray R8b.out;have k9:Kept w.heap.size w.heap.size w (w8b.setRow rb Nt.zero.cells.toArray):=Qak K8b.out rb HNE.out.2.1 Nt.zero.cells.toArray;generalize w8b.setRow rb Nt.zero.cells.toArray=w9 at R9 k9 |-;refine wW λK hK=>?_;go_simp;apply hK;clear hK K;go_wp2;refine bodyPost_ret (Qbo rfl _ _ rb 25 Nt.zero.cells.toArray (0,0) _ rfl R9 Tryz.underlying25 rfl (HZI.out)) rfl ?_
   exact⟨by rw[HE3.out,HC3.out];rfl,k9⟩
  ·have HE0:Hid (Cn.unErr L=0):=hid (by rw[HUE.out,zG rfl];rfl)
   have HC0:Hid (Cn.unNt L=Cn.rdNt L):=hid (HUC.out HE0.out);clear HUE HUC HUZ
   go_upto_region 8 with fail
   refine zA ?_;refine wLk 25 (.tmp 5) rfl (pb) (0) rfl (.agg DQ) (HLQ.out _ _ Q8b.out) ?_
   simp only[Act.put,sA,sB,sC];refine wpList_store_row rfl 25 _ _ rfl (rb) DQ rfl rfl 25 Nt.zero.cells.toArray (R8b.out) (HQI.out) (HQS.out) (HQA.out) ?_
   simp only[Act.put];have R9:=Qb9 w8b rb DQ R8b.out;have k9:Kept w.heap.size w.heap.size w (w8b.setRow rb DQ):=Qak K8b.out rb HNE.out.2.1 DQ;generalize w8b.setRow rb DQ=w9 at R9 k9 |-;refine wW λK hK=>?_;go_simp;apply hK;clear hK K;go_wp2;refine bodyPost_ret (Qbo rfl _ _ rb 25 DQ (0,0) _ rfl R9 Tryz.underlying25 rfl (HQI.out)) rfl ?_
   exact⟨by rw[HE0.out,HC0.out,<-HDQ.out];rfl,k9⟩
 ·have hx:(er != 0)=true:=by simpa using he
  have HE3:Hid (Cn.unErr L=er):=hid (by rw[HUE.out,if_neg he])
  have HC3:Hid (Cn.unNt L=Nt.zero):=hid (HUZ.out (by rw[HE3.out];exact he))
  clear he HUE HUC HUZ
  go_upto_region 4 with fail
  refine zA ?_;iterate 2(refine wW λK hK=>?_;go_simp;apply hK;clear hK K)
  go_upto_region 5 with fail
  refine zA ?_;refine @Qap _ _ _ _ _ _ _ ?_ 25 rfl _ (HZ0.out _) ?_;kernel_rfl
  simp only[Act.put,sA,sB,sC];refine wW λK hK=>?_;go_simp;apply hK;clear hK K;refine wpList_store_row rfl 25 _ _ rfl (rb) Nt.zero.cells.toArray rfl rfl 25 Nt.zero.cells.toArray (R8.out) (HZI.out) (rfl) (HZA.out) ?_
  simp only[Act.put];have R9:=Qb9 w8 rb Nt.zero.cells.toArray R8.out;have k9:Kept w.heap.size w.heap.size w (w8.setRow rb Nt.zero.cells.toArray):=Qak K8.out rb HNE.out.2.1 Nt.zero.cells.toArray;generalize w8.setRow rb Nt.zero.cells.toArray=w9 at R9 k9 |-;refine wW λK hK=>?_;go_simp;apply hK;clear hK K;go_wp2;refine bodyPost_ret (Qbo rfl _ _ rb 25 Nt.zero.cells.toArray (0,0) _ rfl R9 Tryz.underlying25 rfl (HZI.out)) rfl ?_
  exact⟨by rw[HE3.out,HC3.out];rfl,k9⟩
theorem Qg5 (s:ByteArray)(w:World):Calls Tryz.prog 8 #[.string s] w λe w'=>e=.returned (.tuple #[.agg (Cn.unNt s.data.toList).cells.toArray,.int .i64 (Cn.unErr s.data.toList)])/\Kept w.heap.size w.heap.size w w':=by
 have HSS:=hid (Qff s);generalize s.data.toList=L at HSS |-;have HUE:=hid (show Cn.unErr L=if Cn.rdErr L=0 then(if Cn.right (Cn.rdNt L)=true then 0 else 3) else Cn.rdErr L from rfl)
 have HUC:=hid (show Cn.unErr L=0->Cn.unNt L=Cn.rdNt L from λh=>by rw[Cn.unNt,zG h])
 have HUZ:=hid (show Cn.unErr L≠0->Cn.unNt L=Nt.zero from λh=>by rw[Cn.unNt,if_neg h])
 have HQI:=hid (Qdd (Cn.rdNt_ep L));have HQS:=hid (show Nt.zero.cells.toArray.size=(Cn.rdNt L).cells.toArray.size by rw[Nt.size (Cn.rdNt_ep L),Nt.size Cn.zero_ep])
 have HQA:=hid (Cn.rdNt L).all;have HZI:=hid (Qdd Cn.zero_ep);have HZA:=hid Nt.zero.all;have HZ0:=hid Qjy;have HLQ:=hid (λ(x:World) (b:Nat) (h:x.heap[b]?=some (.cells (Cn.rdNt L).cells.toArray 25 (0,0)))=>Qbu (Cn.rdNt_ep L) h)
 have HRT:=hid (λ(x:World)=>Qdt (Cn.rdNt L) (Cn.rdNt_ep L) x)
 have HEN:=hid (λ(b:Nat) (x:World) (h:Rf x b (Cn.u5 L).left (Cn.u5 L).err)=>(show Calls Tryz.prog 26 #[.pointer (some ⟨b,0,none⟩)] x λe w'=>e=.returned (.int .i64 (Cn.rdErr L))/\w'=x from Qu5 b _ _ x h))
 have HNW:=hid (show(⟨(Cn.u1 L).val,(Cn.u2 L).val,(Cn.u3 L).val,(Cn.u4 L).val,str (Cn.u5 L).val⟩:Nt)=Cn.rdNt L from rfl);have HG1:=hid (λ(b:Nat) (x:World) (h:Rf x b L 0)=>Qsq b L 0 x h)
 have HG2:=hid (λ(b:Nat) (x:World) (h:Rf x b (Cn.u1 L).left (Cn.u1 L).err)=>Qgj b _ _ 4611686018427387903 x h)
 have HG3:=hid (λ(b:Nat) (x:World) (h:Rf x b (Cn.u2 L).left (Cn.u2 L).err)=>Qgj b _ _ 64 x h)
 have HG4:=hid (λ(b:Nat) (x:World) (h:Rf x b (Cn.u3 L).left (Cn.u3 L).err)=>Qgj b _ _ 255 x h)
 have HG5:=hid (λ(b:Nat) (x:World) (h:Rf x b (Cn.u4 L).left (Cn.u4 L).err)=>Qrc b _ _ 1040 x h)
 have HL1:=hid (show(Cn.u1 L).val.length=32 from Qfb _ _);obtain⟨DQ,hDQ⟩:∃D,D=(Cn.rdNt L).cells.toArray:=⟨_,rfl⟩;obtain⟨er,her⟩:∃n,n=Cn.rdErr L:=⟨_,rfl⟩;obtain⟨qr,hqr⟩:∃n,n=Cn.right (Cn.rdNt L):=⟨_,rfl⟩;rw[<-hDQ] at HQI HQS HQA HLQ HRT;rw[<-her] at HEN HUE;rw[<-hqr] at HRT HUE;have HDQ:=hid hDQ;clear her hqr hDQ
 go_enter Tryz.func8,Tryz.ntmps8
 go_upto_region 0 with fail
 refine zA ?_;refine @Qas _ _ _ _ _ _ _ _ ?_ 25 rfl _ (Qbr _) ?_;kernel_rfl
 simp only[Act.put,sA,sB,sC];have k1:Kept w.heap.size w.heap.size w (w.alloc (.cells Nt.zero.cells.toArray 25)):=zI.alloc (zB _) _
 have r1:=Qaa w (.cells Nt.zero.cells.toArray 25)
 have z1:(w.alloc (.cells Nt.zero.cells.toArray 25)).heap.size=w.heap.size+1:=by simp
 generalize w.alloc (.cells Nt.zero.cells.toArray 25)=w1 at k1 r1 z1 |-
 obtain⟨rb,hrb⟩:∃n,n=w.heap.size:=⟨_,rfl⟩;rw[<-hrb] at r1
 (try rw[<-hrb])
 have HRB:=hid (show w.heap.size<=rb/\rb<w1.heap.size by omega)
 have K1:=hid k1;have R1:=hid r1;clear hrb z1 k1 r1;refine wW λK hK=>?_;go_simp;apply hK;clear hK K
 go_upto_region 1 with fail
 refine zA ?_;iterate 4(refine wW λK hK=>?_;go_simp;apply hK;clear hK K)
 have kk:Kept w1.heap.size w1.heap.size w1 (w1.alloc (.cells #[.string s,.int .i64 0] 70)):=zI.alloc (zB _) _
 have f2:Rf (w1.alloc (.cells #[.string s,.int .i64 0] 70)) w1.heap.size L 0:=⟨⟨s,Qaa _ _,λ_=>HSS.out.symm⟩,λh=>absurd rfl h⟩
 have r2:=rK R1.out kk;have k2:=K1.out.onto kk;generalize w1.alloc (.cells #[.string s,.int .i64 0] 70)=w2 at kk f2 r2 k2 |-
 obtain⟨b,hb⟩:∃n,n=w1.heap.size:=⟨_,rfl⟩;rw[<-hb] at f2
 (try rw[<-hb])
 have HB0:=hid (show rb≠b/\w.heap.size<=b/\b<w2.heap.size by have:=HRB.out;exact⟨by omega,by omega,f2.lt⟩)
 have F2:=hid f2;have R2:=hid r2;have K2:=hid k2;clear hb f2 r2 k2 kk R1 K1
 go_upto_region 2 with fail
 refine zA ?_;refine @Qap _ _ _ _ _ _ _ ?_ 25 rfl _ (HZ0.out _) ?_;kernel_rfl
 simp only[Act.put,sA,sB,sC];refine @Qas _ _ _ _ _ _ _ _ ?_ 25 rfl _ (Qbr _) ?_;kernel_rfl
 simp only[Act.put,sA,sB,sC];refine wpList_store_row rfl 25 _ _ rfl (w2.heap.size) Nt.zero.cells.toArray rfl rfl 25 Nt.zero.cells.toArray (Qaa _ _) (HZI.out) (rfl) (HZA.out) ?_
 simp only[Act.put];rw[World.setRow_alloc_new];have kk:Kept w2.heap.size w2.heap.size w2 (w2.alloc (.cells Nt.zero.cells.toArray 25)):=zI.alloc (zB _) _
 have q3:NtB (w2.alloc (.cells Nt.zero.cells.toArray 25)) w2.heap.size Nt.zero:=Qaa w2 _
 have f3:=F2.out.alloc (.cells Nt.zero.cells.toArray 25)
 have r3:=rK R2.out kk;have k3:=K2.out.onto kk;generalize w2.alloc (.cells Nt.zero.cells.toArray 25)=w3 at q3 f3 r3 k3 |-
 obtain⟨pb,hpb⟩:∃n,n=w2.heap.size:=⟨_,rfl⟩;rw[<-hpb] at q3
 (try rw[<-hpb])
 have HNE:=hid (show rb≠b/\w.heap.size<=rb/\w.heap.size<=b/\pb≠b/\pb≠rb/\w.heap.size<=pb by have:=HRB.out;have:=HB0.out;have:=zF R2.out;have:=K2.out.size;omega)
 have F3:=hid f3;have R3:=hid r3;have K3:=hid k3;have Q3:=hid q3;clear hpb q3 f3 r3 k3 kk F2 R2 K2 HB0 HRB
 go_upto_region 3 with fail
 refine zA ?_;refine wW λK hK=>?_;go_simp;apply hK;clear hK K;refine wW λK hK=>?_;go_simp;go_at_call 23
 refine(HG1.out _ _ F3.out).mono ?_;rintro e w3c ⟨rfl,f,kx⟩;have F3c:=hid (show Rf w3c b (Cn.u1 L).left (Cn.u1 L).err from f);have K3c:=hid (K3.out.trans (kx.mono K3.out.size (λi hi _=>by have:=HNE.out;omega)))
 have R3c:=hid ((kx.block rb (zF R3.out) HNE.out.1).trans R3.out);have Q3c:=hid (Q3.out.far kx (zF Q3.out) HNE.out.2.2.2.1);clear f kx F3 R3 K3 Q3;apply hK;clear hK K;refine wW λK hK=>?_;go_simp;apply hK;clear hK K;refine @Qii _ _ _ _ _ _ _ ?_ 23 _ _ rfl pb 0 (bY (Cn.u1 L).val).toArray rfl rfl (Q3c.out.there Cn.zero_ep (by rw[List.size_toArray,bZ,HL1.out];decide)) (Qss HL1.out) (by rw[Array.all_eq_true_iff_forall_mem];intro u hu;exact Qan _ u (by simpa using hu)) ?_;kernel_rfl
 simp only[Act.put];obtain⟨q,kx⟩:=Q3c.out.ep Cn.zero_ep HL1.out;have r:=(kx.block rb (zF R3c.out) (Ne.symm HNE.out.2.2.2.2.1)).trans R3c.out;have k:=K3c.out.trans (kx.mono K3c.out.size (λi hi _=>by have:=HNE.out;omega))
 have f:=F3c.out.same (kx.block b F3c.out.lt (Ne.symm HNE.out.2.2.2.1));generalize (w3c.setCells pb 0 (bY (Cn.u1 L).val).toArray.toList)=w4 at q r k f |-;have Q4:=hid q;have R4:=hid r;have K4:=hid k;have F4:=hid f;clear q r k f kx Q3c R3c K3c F3c
 go_upto_region 4 with fail
 refine zA ?_;refine wW λK hK=>?_;go_simp;apply hK;clear hK K;refine wW λK hK=>?_;go_simp;go_at_call 24
 refine(HG2.out _ _ F4.out).mono ?_;rintro e w4c ⟨rfl,f,kx⟩;have F4c:=hid (show Rf w4c b (Cn.u2 L).left (Cn.u2 L).err from f);have K4c:=hid (K4.out.trans (kx.mono K4.out.size (λi hi _=>by have:=HNE.out;omega)))
 have R4c:=hid ((kx.block rb (zF R4.out) HNE.out.1).trans R4.out);have Q4c:=hid (Q4.out.far kx (zF Q4.out) HNE.out.2.2.2.1);clear f kx F4 R4 K4 Q4;apply hK;clear hK K;refine wW λK hK=>?_;go_simp;apply hK;clear hK K;refine @Qck _ _ _ _ _ _ _ ?_ 3 _ _ rfl pb 32 (.int .i64 (Cn.u2 L).val) rfl rfl (Q4c.out.there HL1.out (by decide)) rfl Qjk ?_;kernel_rfl
 simp only[Act.put];obtain⟨q,kx⟩:=Q4c.out.depth HL1.out (Cn.u2 L).val;have r:=(kx.block rb (zF R4c.out) (Ne.symm HNE.out.2.2.2.2.1)).trans R4c.out;have k:=K4c.out.trans (kx.mono K4c.out.size (λi hi _=>by have:=HNE.out;omega))
 have f:=F4c.out.same (kx.block b F4c.out.lt (Ne.symm HNE.out.2.2.2.1));generalize (w4c.setCells pb 32 [.int .i64 (Cn.u2 L).val])=w5 at q r k f |-;have Q5:=hid q;have R5:=hid r;have K5:=hid k;have F5:=hid f;clear q r k f kx Q4c R4c K4c F4c
 go_upto_region 5 with fail
 refine zA ?_;refine wW λK hK=>?_;go_simp;apply hK;clear hK K;refine wW λK hK=>?_;go_simp;go_at_call 24
 refine(HG3.out _ _ F5.out).mono ?_;rintro e w5c ⟨rfl,f,kx⟩;have F5c:=hid (show Rf w5c b (Cn.u3 L).left (Cn.u3 L).err from f);have K5c:=hid (K5.out.trans (kx.mono K5.out.size (λi hi _=>by have:=HNE.out;omega)))
 have R5c:=hid ((kx.block rb (zF R5.out) HNE.out.1).trans R5.out);have Q5c:=hid (Q5.out.far kx (zF Q5.out) HNE.out.2.2.2.1);clear f kx F5 R5 K5 Q5;apply hK;clear hK K;refine wW λK hK=>?_;go_simp;apply hK;clear hK K;refine @Qck _ _ _ _ _ _ _ ?_ 3 _ _ rfl pb 33 (.int .i64 (Cn.u3 L).val) rfl rfl (Q5c.out.there HL1.out (by decide)) rfl Qjk ?_;kernel_rfl
 simp only[Act.put];obtain⟨q,kx⟩:=Q5c.out.author HL1.out (Cn.u3 L).val;have r:=(kx.block rb (zF R5c.out) (Ne.symm HNE.out.2.2.2.2.1)).trans R5c.out;have k:=K5c.out.trans (kx.mono K5c.out.size (λi hi _=>by have:=HNE.out;omega))
 have f:=F5c.out.same (kx.block b F5c.out.lt (Ne.symm HNE.out.2.2.2.1));generalize (w5c.setCells pb 33 [.int .i64 (Cn.u3 L).val])=w6 at q r k f |-;have Q6:=hid q;have R6:=hid r;have K6:=hid k;have F6:=hid f;clear q r k f kx Q5c R5c K5c F5c
 go_upto_region 6 with fail
 refine zA ?_;refine wW λK hK=>?_;go_simp;apply hK;clear hK K;refine wW λK hK=>?_;go_simp;go_at_call 24
 refine(HG4.out _ _ F6.out).mono ?_;rintro e w6c ⟨rfl,f,kx⟩;have F6c:=hid (show Rf w6c b (Cn.u4 L).left (Cn.u4 L).err from f);have K6c:=hid (K6.out.trans (kx.mono K6.out.size (λi hi _=>by have:=HNE.out;omega)))
 have R6c:=hid ((kx.block rb (zF R6.out) HNE.out.1).trans R6.out);have Q6c:=hid (Q6.out.far kx (zF Q6.out) HNE.out.2.2.2.1);clear f kx F6 R6 K6 Q6;apply hK;clear hK K;refine wW λK hK=>?_;go_simp;apply hK;clear hK K;refine @Qck _ _ _ _ _ _ _ ?_ 3 _ _ rfl pb 34 (.int .i64 (Cn.u4 L).val) rfl rfl (Q6c.out.there HL1.out (by decide)) rfl Qjk ?_;kernel_rfl
 simp only[Act.put];obtain⟨q,kx⟩:=Q6c.out.gen HL1.out (Cn.u4 L).val;have r:=(kx.block rb (zF R6c.out) (Ne.symm HNE.out.2.2.2.2.1)).trans R6c.out;have k:=K6c.out.trans (kx.mono K6c.out.size (λi hi _=>by have:=HNE.out;omega))
 have f:=F6c.out.same (kx.block b F6c.out.lt (Ne.symm HNE.out.2.2.2.1));generalize (w6c.setCells pb 34 [.int .i64 (Cn.u4 L).val])=w7 at q r k f |-;have Q7:=hid q;have R7:=hid r;have K7:=hid k;have F7:=hid f;clear q r k f kx Q6c R6c K6c F6c
 go_upto_region 7 with fail
 refine zA ?_;refine wW λK hK=>?_;go_simp;apply hK;clear hK K;refine wW λK hK=>?_;go_simp;go_at_call 25
 refine(HG5.out _ _ F7.out).mono ?_;rintro e w7c ⟨rfl,f,kx⟩;have F7c:=hid (show Rf w7c b (Cn.u5 L).left (Cn.u5 L).err from f);have K7c:=hid (K7.out.trans (kx.mono K7.out.size (λi hi _=>by have:=HNE.out;omega)))
 have R7c:=hid ((kx.block rb (zF R7.out) HNE.out.1).trans R7.out);have Q7c:=hid (Q7.out.far kx (zF Q7.out) HNE.out.2.2.2.1);clear f kx F7 R7 K7 Q7;apply hK;clear hK K;refine wW λK hK=>?_;go_simp;apply hK;clear hK K;refine @Qck _ _ _ _ _ _ _ ?_ 9 _ _ rfl pb 35 (.string (str (Cn.u5 L).val)) rfl rfl (Q7c.out.there HL1.out (by decide)) rfl Qtw ?_;kernel_rfl
 simp only[Act.put];obtain⟨q,kx⟩:=Q7c.out.text HL1.out (str (Cn.u5 L).val);have r:=(kx.block rb (zF R7c.out) (Ne.symm HNE.out.2.2.2.2.1)).trans R7c.out;have k:=K7c.out.trans (kx.mono K7c.out.size (λi hi _=>by have:=HNE.out;omega))
 have f:=F7c.out.same (kx.block b F7c.out.lt (Ne.symm HNE.out.2.2.2.1));generalize (w7c.setCells pb 35 [.string (str (Cn.u5 L).val)])=w8 at q r k f |-;have Q8:=hid q;have R8:=hid r;have K8:=hid k;have F8:=hid f;clear q r k f kx Q7c R7c K7c F7c;have q8:w8.heap[pb]?=some (.cells DQ 25 (0,0)):=by rw[HDQ.out];exact Q8.out
 clear Q8;have Q8:=hid q8;clear q8
 go_upto_region 8 with fail
 refine zA ?_;refine wW λK hK=>?_;go_simp;apply hK;clear hK K;refine wW λK hK=>?_;go_simp;go_at_call 26
 refine(HEN.out _ _ F8.out).mono ?_;rintro e wz ⟨rfl,hwz⟩;subst wz;apply hK;clear hK K;refine wW λK hK=>?_;go_simp;apply hK;clear hK K
 by_cases he:er=0
 ·subst he
  go_upto_region 10 with fail
  refine zA ?_;refine wLk 25 (.tmp 5) rfl (pb) (0) rfl (.agg DQ) (HLQ.out _ _ Q8.out) ?_
  simp only[Act.put,sA,sB,sC];refine wW λK hK=>?_;go_simp;go_at_call 12
  refine(HRT.out _).mono ?_;rintro e w8b ⟨rfl,kx⟩;have R8b:=hid (rK R8.out kx);have K8b:=hid (K8.out.onto kx);have Q8b:=hid (rK Q8.out kx);clear kx;apply hK;clear hK K;refine wW λK hK=>?_;go_simp;apply hK;clear hK K
  cases qr
  ·have HE3:Hid (Cn.unErr L=3):=hid (by rw[HUE.out,zG rfl];rfl)
   have HC3:Hid (Cn.unNt L=Nt.zero):=hid (HUZ.out (by rw[HE3.out];decide))
   clear HUE HUC HUZ
   go_upto_region 11 with fail
   refine zA ?_;refine @Qap _ _ _ _ _ _ _ ?_ 25 rfl _ (HZ0.out _) ?_;kernel_rfl
   simp only[Act.put,sA,sB,sC];refine wpList_store_row rfl 25 _ _ rfl (rb) Nt.zero.cells.toArray rfl rfl 25 Nt.zero.cells.toArray (R8b.out) (HZI.out) (rfl) (HZA.out) ?_
   simp only[Act.put];have R9:=Qb9 w8b rb Nt.zero.cells.toArray R8b.out;have k9:Kept w.heap.size w.heap.size w (w8b.setRow rb Nt.zero.cells.toArray):=Qak K8b.out rb HNE.out.2.1 Nt.zero.cells.toArray;generalize w8b.setRow rb Nt.zero.cells.toArray=w9 at R9 k9 |-;refine wW λK hK=>?_;go_simp;apply hK;clear hK K;go_wp2;refine bodyPost_ret (Qbo rfl _ _ rb 25 Nt.zero.cells.toArray (0,0) _ rfl R9 Tryz.underlying25 rfl (HZI.out)) rfl ?_
   exact⟨by rw[HE3.out,HC3.out];rfl,k9⟩
  ·have HE0:Hid (Cn.unErr L=0):=hid (by rw[HUE.out,zG rfl];rfl)
   have HC0:Hid (Cn.unNt L=Cn.rdNt L):=hid (HUC.out HE0.out);clear HUE HUC HUZ
   go_upto_region 12 with fail
   refine zA ?_;refine wLk 25 (.tmp 5) rfl (pb) (0) rfl (.agg DQ) (HLQ.out _ _ Q8b.out) ?_
   simp only[Act.put,sA,sB,sC];refine wpList_store_row rfl 25 _ _ rfl (rb) DQ rfl rfl 25 Nt.zero.cells.toArray (R8b.out) (HQI.out) (HQS.out) (HQA.out) ?_
   simp only[Act.put];have R9:=Qb9 w8b rb DQ R8b.out;have k9:Kept w.heap.size w.heap.size w (w8b.setRow rb DQ):=Qak K8b.out rb HNE.out.2.1 DQ;generalize w8b.setRow rb DQ=w9 at R9 k9 |-;refine wW λK hK=>?_;go_simp;apply hK;clear hK K;go_wp2;refine bodyPost_ret (Qbo rfl _ _ rb 25 DQ (0,0) _ rfl R9 Tryz.underlying25 rfl (HQI.out)) rfl ?_
   exact⟨by rw[HE0.out,HC0.out,<-HDQ.out];rfl,k9⟩
 ·have hx:(er != 0)=true:=by simpa using he
  have HE3:Hid (Cn.unErr L=er):=hid (by rw[HUE.out,if_neg he])
  have HC3:Hid (Cn.unNt L=Nt.zero):=hid (HUZ.out (by rw[HE3.out];exact he))
  clear he HUE HUC HUZ
  go_upto_region 9 with fail
  refine zA ?_;refine @Qap _ _ _ _ _ _ _ ?_ 25 rfl _ (HZ0.out _) ?_;kernel_rfl
  simp only[Act.put,sA,sB,sC];refine wW λK hK=>?_;go_simp;apply hK;clear hK K;refine wW λK hK=>?_;go_simp;go_at_call 26
  refine(HEN.out _ _ F8.out).mono ?_;rintro e wz ⟨rfl,hwz⟩;subst wz;apply hK;clear hK K;refine wpList_store_row rfl 25 _ _ rfl (rb) Nt.zero.cells.toArray rfl rfl 25 Nt.zero.cells.toArray (R8.out) (HZI.out) (rfl) (HZA.out) ?_
  simp only[Act.put];have R9:=Qb9 w8 rb Nt.zero.cells.toArray R8.out;have k9:Kept w.heap.size w.heap.size w (w8.setRow rb Nt.zero.cells.toArray):=Qak K8.out rb HNE.out.2.1 Nt.zero.cells.toArray;generalize w8.setRow rb Nt.zero.cells.toArray=w9 at R9 k9 |-;refine wW λK hK=>?_;go_simp;apply hK;clear hK K;go_wp2;refine bodyPost_ret (Qbo rfl _ _ rb 25 Nt.zero.cells.toArray (0,0) _ rfl R9 Tryz.underlying25 rfl (HZI.out)) rfl ?_
  exact⟨by rw[HE3.out,HC3.out];rfl,k9⟩
theorem Qt8 (A B C:List Value)(cs:List Value)(hcs:cs=A++(B++C))(o n:Nat)(ho:o=A.length)(hn:n=B.length):cs.toArray.extract o (o+n)=B.toArray:=by
 subst hcs ho hn;apply Array.ext';simp
theorem Qpj (w:World):(isAgg 3).run Tryz.prog w=.ok false w:=by kernel_rfl
theorem Qpi (w:World):(isAgg 9).run Tryz.prog w=.ok false w:=by kernel_rfl
theorem Qnj (w:World):(isAgg 23).run Tryz.prog w=.ok true w:=by kernel_rfl
theorem Qg6 (w:World)(cs:Array Value)(o:Nat)(v:Value)(h:cs[o]?=some v):(part 3 cs o).run Tryz.prog w=.ok v w:=by
 simp only[part,Sem.run_bind,Qpj,Result.andThen_ok,Bool.false_eq_true,if_false,h]
 rfl
theorem Qrx (w:World)(cs:Array Value)(o:Nat)(v:Value)(h:cs[o]?=some v):(part 9 cs o).run Tryz.prog w=.ok v w:=by
 simp only[part,Sem.run_bind,Qpi,Result.andThen_ok,Bool.false_eq_true,if_false,h]
 rfl
theorem Qou (w:World)(cs:Array Value)(o:Nat)(l:List UInt8)(h:cs.extract o (o+32)=(bY l).toArray):(part 23 cs o).run Tryz.prog w=.ok (.agg (bY l).toArray) w:=by
 simp only[part,Sem.run_bind,Qnj,Result.andThen_ok,if_true,Tryz.sizeOf23,h]
 rfl
theorem Qgk:Tryz.prog.eqGuardType Tryz.prog.depth 25=false:=by kernel_rfl
theorem Qhw (w:World)(v:Nt)(h:v.ep.length=32):(Op.equalIn 10000 25 (.agg v.cells.toArray) (.agg v.cells.toArray)).run Tryz.prog w=.ok true w:=by
 have hs:Tryz.prog.stoodInHeld 25=false:=by kernel_rfl
 have e0:∀n w,(Op.equalIn 9999 3 (.int .i64 n) (.int .i64 n)).run Tryz.prog w=.ok true w:=λn w=>by
  have:=run_equalIn_int (P:=Tryz.prog) w 9998 3 .i64 .i64 n n Tryz.underlying3
  rwa[beq_self_eq_true] at this
 have es:∀n w,(Op.equalIn 9999 9 (.string n) (.string n)).run Tryz.prog w=.ok true w:=λn w=>by
  have:=run_equalIn_string (P:=Tryz.prog) w 9998 9 n n Tryz.underlying9
  rwa[beq_self_eq_true] at this
 have eh:∀x:List UInt8,x.length=32->∀w,(Op.equalIn 9999 23 (.agg (bY x).toArray) (.agg (bY x).toArray)).run Tryz.prog w=.ok true w:=λx hx w=>by
  have:=run_equalIn_bytes (P:=Tryz.prog) w 9997 23 5 32 Tryz.underlying23 Tryz.underlying5 (λw=>Tryz.sizeOf5 w) x x hx hx
  rwa[beq_self_eq_true] at this
 have tl:∀j:Nat,v.cells.toArray[32+j]?=([Value.int .i64 v.depth,.int .i64 v.author,.int .i64 v.gen,.string v.text]:List Value)[j]?:=λj=>by
  rw[List.getElem?_toArray,Nt.cells,List.getElem?_append_right (by rw[bZ,h];omega),bZ,h,Nat.add_sub_cancel_left]
 have p0:=λw=>Qou w v.cells.toArray 0 v.ep (Qt8 [] (bY v.ep) _ v.cells rfl 0 32 rfl (by rw[bZ,h]))
 have p1:=λw=>Qg6 w v.cells.toArray 32 (.int .i64 v.depth) (tl 0)
 have p2:=λw=>Qg6 w v.cells.toArray 33 (.int .i64 v.author) (tl 1)
 have p3:=λw=>Qg6 w v.cells.toArray 34 (.int .i64 v.gen) (tl 2)
 have p4:=λw=>Qrx w v.cells.toArray 35 (.string v.text) (tl 3)
 have e1:=eh _ h;rw[Op.equalIn];simp only[Sem.run_bind,run_underlying Tryz.underlying25,Result.andThen_ok,run_program,hs,Bool.false_eq_true,if_false]
 simp only[List.forIn_toArray,List.forIn_cons,List.forIn_nil,Sem.run_bind,ne_eq,String.reduceEq,not_false_eq_true,if_true];simp[p0,p1,p2,p3,p4,e0,e1,es]
theorem Qfp {P:Program}{ops:Array Oper}{S:World->Prop}{op:Oper}{a:Act}(hw:Region.wanted op (yielded ops a.tmps)=true)(t t2:TypeId)(x y:Operand)(ho:op.op=.binOp .eql t x y t2)(A B:Array Value)(hx:a.eval x=.agg A)(hy:a.eval y=.agg B)(hg:P.eqGuardType P.depth t=false)(hr:∀w,(Op.equalIn 10000 t (.agg A) (.agg B)).run P w=.ok true w):YieldsIf P ops S op (.bool true) a:=
 .inl ⟨hw,λw _=>by
  unfold execOp
  simp[ho,hx,hy,Sem.run_bind,run_eqGuard_agg _ _ _ _ _ _ _ hg,run_eql_struct,hr,Result.andThen_ok]⟩
end Go.Proofs.YtnlbgggnpoeleaaGreatDoor
