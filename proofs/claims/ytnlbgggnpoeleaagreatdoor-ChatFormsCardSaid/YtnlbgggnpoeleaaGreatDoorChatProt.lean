/-
 The landed Protect, without a book, where the key is there.
-/
import Derived.Test.YtnlbgggnpoeleaaGreatDoorCB
import Derived.Test.YtnlbgggnpoeleaaGreatDoorCA
import Derived.Test.YtnlbgggnpoeleaaGreatDoorGN
set_option maxRecDepth 100000
set_option maxHeartbeats 12800000
namespace Go.Proofs.YtnlbgggnpoeleaaGreatDoor
open Go.RowKit Go.Lib
open List renaming setIfInBounds_toArray -> sA, set_cons_zero -> sB, set_cons_succ -> sC
open BigFrame renaming wpList_want -> wQ
theorem Qid {bits:Nat}{Ls M:List Sd}{p:Nat}{k:List UInt8}{er:Int}(h:Pp.Took bits Ls (p:Int) M k er)(hp:p<2 ^ bits)(hh:∃s∈Ls,Pp.Has bits s p):er=0/\Pp.KeyAt bits Ls p k:=by
 cases h with
 | out h=>omega
 | gone q h1 _ h3=>
  obtain rfl:p=q:=by omega
  obtain⟨s,hs,hq⟩:=hh;exact absurd hq (h3 s hs)
 | took A B s q h1 h2 h3 h4=>
  obtain rfl:p=q:=by omega
  exact⟨rfl,s,by rw[h3];simp,h4,rfl⟩
theorem Qb1 {bits:Nat}{Ls M:List Sd}{pl:Int}{k:List UInt8}{er:Int}(h:Pp.Took bits Ls pl M k er):k.length=32:=by
 cases h with
 | out _=>rfl
 | gone _ _ _ _=>rfl
 | took _ _ _ _ _ _ _ _=>exact Qaw _
theorem Frm.local14 {B:Nat->Prop}{w x x':World}{b:Nat}(h:Frm B w x)(g:x.grownBy x' (some b))(hb:w.heap.size<=b):Frm B w x':=
 ⟨g.os.trans h.os,g.tape.trans h.tape,g.output.trans h.output,Nat.le_trans h.size g.size,λi hi hB=>(g.block i (zC hi h.size) (λe=>by have:=Option.some.inj e;omega)).trans (h.block i hi hB)⟩
def Out (base eb:Nat)(i:Nat):Prop:=i<base\/eb<i
theorem Tab2.frm14 {w x:World}{base eb:Nat}(h:Tab2 w)(F:Frm (Out base eb) w x)(hb:1<base):Tab2 x:=by
 refine⟨h.t.same (F.block 0 h.t.lt (.inl (by omega))),?_,zC h.lt F.size⟩
 have hp:=h.p;unfold Lib.TabIs World.var? at hp |-;rw[gTens] at hp |-;simp only[Option.bind_some] at hp |-;rw[F.block 1 h.lt (.inl hb)];exact hp
theorem hashInfoArr {cs:Array Value}(h:cs.size=32):(Tryz.prog.info? 23).map (·.size)=some cs.size:=by rw[h];kernel_rfl
theorem Qrw {base eb hi:Nat}{X:Nat->Prop}{y:Lay}{f:Fm}{L:List Lf}{P:List Pr}{me forks:Int}{ex:List UInt8}{S0:List Sd}{S:Nat->List Sd}(s:Nat)(w:World)(h:EraSt w base eb hi X y f L P me forks (s:Int) ex S0 S)(hf:f.Ok)(hn:L.length<=1000)(hp:P.length<=1000)(hpl:∀p∈P,p.loose.length<=1000)
  (tab:Tab2 w) (hb0:1<base) (text:List UInt8) (ht:text.length<=1024) (hs:s<256) (p rb:Nat) (hpm:Tt.place L P me=(p:Int)) (hpL:p<L.length) (hrb:y.R[p]?=some (some rb)) (hG:Pp.Good 8 (S p)) (hSn:(S p).length<1000000) (hh:∃sd∈S p,Pp.Has 8 sd s)
  (h0:∀sd∈S0,sd.self.length=32) (hS:∀i,∀sd∈S i,sd.self.length=32) (hd:0<=f.depth/\f.depth<=4611686018427387903) (hm:0<=me/\me<=4611686018427387903) :
  Calls Tryz.prog 16 #[.pointer none,.pointer (some ⟨eb,0,none⟩),.string (str text)] w λe w'=>∃M k,e=.returned (.tuple #[.agg (Nt.cells ⟨f.id,f.depth,me,(s:Int),str (Pm.sealed k (Cn.head ⟨f.id,f.depth,me,(s:Int),⟨#[]⟩⟩) text)⟩).toArray,.int .i64 0])/\Pp.Took 8 (S p) (s:Int) M k 0/\EraSt w' base eb hi X y f L P me forks ((s:Int)+1) ex S0 (putS S p M)/\Frm (Out base eb) w w':=by
 obtain⟨o1,o2,o3,o4,o5,o6⟩:=h.ord;have hro:=h.row p rb hrb;have HORD:=hid (show base<=rb/\rb<eb/\eb<=hi/\hi<w.heap.size by omega)
 have HST:=hid h;have HFO:=hid hf;have HEP:=hid (λ(x:World) (X:Nat->Prop) (hx:EraSt x base eb hi X y f L P me forks (s:Int) ex S0 S)=>Qkg x hx hf hn hp hpl)
 rw[hpm] at HEP;have HRA:=hid (λ(x:World) (X:Nat->Prop) (hx:EraSt x base eb hi X y f L P me forks (s:Int) ex S0 S)=>Qf1 x hx hf hn p hpL (some rb) hrb)
 have HTK:=hid (λ(x:World) (sl:Value) (hx:RowIs x rb 8 sl (S p))=>Qei 8 (by decide) (S p) rb sl (s:Int) x hx hG hSn)
 have HTH:=hid (λ(M:List Sd) (k:List UInt8) (er:Int) (hx:Pp.Took 8 (S p) (s:Int) M k er)=>Qid hx (show s<2 ^ 8 by omega) hh)
 have HRW:=hid (λ(x:World) (X:Nat->Prop) (hx:EraSt x base eb hi X y f L P me forks (s:Int) ex S0 S)=>(hx.row p rb hrb).2.2)
 have HTO:=hid (λ(x x2:World) (X:Nat->Prop) (hx:EraSt x base eb hi X y f L P me forks (s:Int) ex S0 S) (sl sl':Value) (M:List Sd) (hr:RowIs x rb 8 sl (S p)) (hl:Loc base eb hi X sl (S p)) (hr':RowIs x2 rb 8 sl' M) (k:Kept x.heap.size rb x x2) (hn:Near x sl sl')=>hx.took h0 hS hrb hr hl (by obtain⟨sd,hsd,_⟩:=hh;intro e;rw[e] at hsd;cases hsd) hr' k hn)
 have HHD:=hid (λ(x:World) (tb:Tab x)=>Qh4 ⟨f.id,f.depth,me,(s:Int),⟨#[]⟩⟩ hf.1 ⟨hd,hm,by simp only;omega⟩ x tb)
 have HHL:=hid (Cn.head_length (n:=⟨f.id,f.depth,me,(s:Int),⟨#[]⟩⟩) hf.1);have HNA:=hid (λ(x:World) (tb:Tab2 x)=>Qhx f.id hf.1 me (s:Int) (by omega) (by omega) (by omega) (by omega) x tb)
 have HBN:=hid (λ(s:ByteArray) (l:List UInt8) (x:World)=>Qk1 s l x)
 have HTB:=hid tab;have HB1:=hid hb0;have HSE:=hid (λ(k:List UInt8) (hk:k.length=32) (hd:List UInt8) (hh:hd.length<=56) (x:World)=>Qv2 k (hid hk) (str hd) (hid (by rw[Qai];omega)) text (hid (by omega)) x)
 have HBU:=hid (λ(x:World)=>Qp4 f.id hf.1 f.depth me (s:Int) x)
 have hts:¬(1024:Int)<((str text).size:Int):=by rw[Qai];omega
 obtain⟨ts,hts2⟩:∃x,x=str text:=⟨_,rfl⟩;rw[<-hts2] at HSE hts |-;have hs6:¬(256:Int)<=(s:Int):=by omega
 have hs7:(s:Int)<256:=by omega
 obtain⟨KI,hKI⟩:∃x,x=(bY f.id).toArray:=⟨_,rfl⟩;rw[<-hKI] at HBU HNA;have HLI:=hid (λ(x:World) (X:Nat->Prop) (S':Nat->List Sd) (hx:EraSt x base eb hi X y f L P me forks (s:Int) ex S0 S')=>hx.at_id hf)
 have HLI2:=hid (λ(x:World) (nb:Nat) (t:ByteArray) (hx:x.heap[nb]?=some (.cells (Nt.cells ⟨f.id,f.depth,me,(s:Int),t⟩).toArray 25 (0,0)))=>(show(loadVar 23 ⟨nb,0,none⟩).run Tryz.prog x=.ok (.agg (bY f.id).toArray) x from Qi9 (n:=⟨f.id,f.depth,me,(s:Int),t⟩) hf.1 hx))
 have HLN:=hid (λ(x:World) (nb:Nat) (t:ByteArray) (hx:x.heap[nb]?=some (.cells (Nt.cells ⟨f.id,f.depth,me,(s:Int),t⟩).toArray 25 (0,0)))=>Qbu (n:=⟨f.id,f.depth,me,(s:Int),t⟩) hf.1 hx)
 have HLC:=hid (λ(x:World) (nb:Nat) (t:ByteArray) (hx:x.heap[nb]?=some (.cells (Nt.cells ⟨f.id,f.depth,me,(s:Int),t⟩).toArray 25 (0,0)))=>(show x.cell? ⟨nb,32,none⟩=some (.int .i64 f.depth)/\x.cell? ⟨nb,33,none⟩=some (.int .i64 me)/\x.cell? ⟨nb,34,none⟩=some (.int .i64 (s:Int))/\x.cell? ⟨nb,35,none⟩=some (.string t) from Qbj (n:=⟨f.id,f.depth,me,(s:Int),t⟩) hf.1 hx))
 rw[<-hKI] at HLI HLI2;have HLE:=hid (λ(x:World) (X:Nat->Prop) (S':Nat->List Sd) (hx:EraSt x base eb hi X y f L P me forks (s:Int) ex S0 S')=>(show x.cell? ⟨eb,64,none⟩=some (.int .i64 f.depth)/\x.cell? ⟨eb,163,none⟩=some (.int .i64 me)/\x.cell? ⟨eb,168,none⟩=some (.int .i64 (s:Int)) from⟨hx.at_depth hf,(hx.at_mid hf).1,(hx.at_mid hf).2.2.1⟩))
 obtain⟨dp,hdp⟩:∃x,x=f.depth:=⟨_,rfl⟩;have HSZ:=hid (λ(t:ByteArray)=>Nt.size (n:=⟨f.id,f.depth,me,(s:Int),t⟩) hf.1)
 have HRP:=hid (show rptr (some rb)=.pointer (some ⟨rb,0,none⟩) from rfl);clear o1 o2 o3 o4 o5 o6 hro h hf hn hp hpl tab ht hs hpm hpL hrb hG hSn hh h0 hS hd hm hts2 hKI
 go_enter Tryz.func16,Tryz.ntmps16
 go_upto_region 0 with fail
 refine zA ?_;refine @Qas _ _ _ _ _ _ _ _ ?_ 25 rfl _ (Qbr _) ?_;kernel_rfl
 simp only[Act.put,sA,sB,sC];refine wW λK hK=>?_;go_simp;apply hK;clear hK K;have kn:Kept w.heap.size w.heap.size w (w.alloc (.cells Nt.zero.cells.toArray 25)):=zI.alloc (zB _) _
 have rn:=Qaa w (.cells Nt.zero.cells.toArray 25)
 obtain⟨NZ,hNZ⟩:∃x,x=Nt.zero.cells.toArray:=⟨_,rfl⟩;have HNZ:=hid (show NZ.size=36 by rw[hNZ];exact Nt.size rfl)
 rw[<-hNZ] at rn kn
 (try rw[<-hNZ])
 have e1:=HST.out.box (.cells NZ 25)
 generalize w.alloc (.cells NZ 25)=w1 at kn rn e1 |-
 obtain⟨nb,hnb⟩:∃x,x=w.heap.size:=⟨_,rfl⟩;rw[<-hnb] at rn e1
 (try rw[<-hnb])
 have E1:=hid e1;have HNW:=hid (show w.heap.size<=nb by omega)
 have HNB:=hid (show eb<nb by have:=HORD.out;omega)
 have RN:=hid rn;have K1:=hid kn;have F1:=hid (Frm.refl (Out base eb) w1);clear hNZ kn rn hnb e1
 go_upto_region 1 with fail
 refine zA ?_;iterate 2(refine wW λK hK=>?_;go_simp;apply hK;clear hK K)
 go_upto_region 3 with fail
 refine zA ?_;iterate 3(refine wW λK hK=>?_;go_simp;apply hK;clear hK K)
 have c168:=(HLE.out _ _ _ E1.out).2.2
 go_upto_region 5 with fail
 refine zA ?_;iterate 5(refine wW λK hK=>?_;go_simp;apply hK;clear hK K)
 clear c168
 go_upto_region 7 with fail
 refine Code.wp_mono (Q:=λe a u=>e=.normal/\∃hb M kk,a={ tmps:=#[.pointer none,.pointer (some ⟨eb,0,none⟩),.string ts,undef,undef,undef,.pointer (some ⟨nb,0,none⟩),.int .i64 0,.pointer (some ⟨hb,0,none⟩),.int .i64 0,undef,.pointer (some ⟨eb,0,none⟩),.bool false,undef,.string ts,.int .i64 (ts.size:Int),.bool false,undef,.pointer (some ⟨eb,0,none⟩),.pointer (some ⟨eb,0,none⟩),.pointer (some ⟨eb,168,none⟩),.int .i64 (s:Int),.bool false,undef,.tuple #[.agg (bY kk).toArray,.int .i64 0],.pointer (some ⟨eb,0,none⟩),.pointer (some ⟨eb,0,none⟩),.int .i64 (p:Int),.pointer (some ⟨rb,0,none⟩),.pointer none,.pointer (some ⟨eb,0,none⟩),.pointer (some ⟨eb,0,none⟩),.pointer (some ⟨eb,168,none⟩),.int .i64 (s:Int),.tuple #[.agg (bY kk).toArray,.int .i64 0],.agg (bY kk).toArray,.int .i64 0,undef,undef,undef,undef,undef,undef,undef,undef,undef,undef,undef,undef,undef,undef,undef,undef,undef,undef,undef,undef,undef,undef,undef,undef,undef,undef,undef,undef,undef,undef,undef,undef,undef,undef,undef,undef,undef,undef,undef,undef,undef,undef,undef,undef,undef,undef,undef],defers:=[] }/\Pp.Took 8 (S p) (s:Int) M kk 0/\kk.length=32/\EraSt u base eb hi (λk=>(X k\/k=nb)\/k=hb) y f L P me forks (s:Int) ex S0 (putS S p M)/\Frm (Out base eb) w1 u/\u.heap[hb]?=some (.cells (bY kk).toArray 23 (0,0))/\eb<hb/\w1.heap.size<=hb) ?rest ?reg
 case reg=>
  refine wp_region_noPanic ?_;refine wp_region_held_drew (S:=λx=>x.cell? ⟨eb,168,none⟩=some (.int .i64 (s:Int))) (by kernel_rfl) (HLE.out _ _ _ E1.out.drew).2.2 (λhH=>?_)
  have ed:=E1.out.drew;have fd:=F1.out.trans (Kept.refl w1.heap.size w1.heap.size w1).drew.fr;obtain⟨wd,hwd⟩:∃wd,wd=w1.drew:=⟨_,rfl⟩;rw[<-hwd] at hH ed fd |-;clear hwd;have Ewd:=hid ed;have Fwd:=hid fd;clear ed fd;refine tkE (i:=0) 25 rfl hH ?_
  apply zH
  ·intro w9 _
   go_simp
   first|done|rfl
  simp only[sA,sB,sC];refine tkE (i:=1) 26 rfl hH ?_
  apply zH
  ·intro w9 _
   go_simp
   first|done|rfl
  simp only[sA,sB,sC];refine tkE (i:=4) 29 rfl hH ?_
  apply zH
  ·intro w9 _
   go_simp
   first|done|rfl
  simp only[sA,sB,sC];refine tkE (i:=5) 30 rfl hH ?_
  apply zH
  ·intro w9 _
   go_simp
   first|done|rfl
  simp only[sA,sB,sC];refine tkE (i:=6) 31 rfl hH ?_
  apply zH
  ·intro w9 _
   go_simp
   first|done|rfl
  simp only[sA,sB,sC];refine tkE (i:=7) 32 rfl hH ?_
  apply zH
  ·intro w9 _
   go_simp
   first|done|rfl
  simp only[sA,sB,sC];refine tkA (i:=8) 33 (.int .i64 (s:Int)) rfl (yK (by kernel_rfl) 3 _ rfl (eb) (168) rfl (.int .i64 (s:Int)) (λx hx=>Qa3 hx)) hH ?_
  simp only[sA,sB,sC];refine wpAnyH_ready (rs:=[2,13]) (by kernel_rfl) (by simp) ?_
  refine AllReadyH.cons rfl (λK hK=>?_) ?_
  ·rw[zG (by rfl)]
   go_simp
   go_wp2_with (go_at_call 43;refine(HEP.out _ _ Ewd.out).mono ?_;rintro e x1 ⟨rfl,kx⟩)
   have Ex1:=hid (Ewd.out.kept kx);have Fx1:=hid (Fwd.out.trans kx.fr);clear kx;refine hK.out _ _ (HLE.out _ _ _ Ex1.out).2.2 (λhH=>?_)
   clear hK K;refine wpAnyH_ready (rs:=[3,13]) (by kernel_rfl) (by simp) ?_
   refine AllReadyH.cons rfl (λK hK=>?_) ?_
   ·rw[zG (by rfl)]
    go_simp
    go_wp2_with (go_at_call 42;refine(HRA.out _ _ Ex1.out).mono ?_;rintro e x2 ⟨rfl,hv⟩;rw[hv];clear hv)
    rw[HRP.out];refine hK.out _ _ (HLE.out _ _ _ Ex1.out).2.2 (λhH=>?_)
    clear hK K;refine wpAnyH_ready (rs:=[9,13]) (by kernel_rfl) (by simp) ?_
    refine AllReadyH.cons rfl (λK hK=>?_) ?_
    ·rw[zG (by rfl)]
     go_simp;obtain⟨sl9,hr9,hl9⟩:=HRW.out _ _ Ex1.out
     go_wp2_with (go_at_call 44;refine(HTK.out _ sl9 hr9).mono ?_;rintro e x3 ⟨M,kk,er,rfl,htk,sl8,hr8,kx,hnr⟩)
     obtain⟨he0,hka⟩:=HTH.out _ _ _ htk;subst he0;have HKL:=hid (Qb1 htk);have HTKN:=hid htk;obtain⟨KK,hKK⟩:∃x,x=(bY kk).toArray:=⟨_,rfl⟩;rw[<-hKK];have HKS:=hid (show KK.size=32 by rw[hKK,List.size_toArray,bZ,HKL.out])
     have HKA:=hid (show KK.all (·.oneCell')=true by rw[hKK];exact Qae _)
     have HKK:=hid hKK;have Ex3:=hid (HTO.out _ _ _ Ex1.out _ _ _ hr9 hl9 hr8 kx hnr);have Fx3:=hid (Fx1.out.trans (⟨kx.os,kx.tape,kx.output,kx.size,λi hi2 hb2=>kx.block i hi2 (λe=>by have:=HORD.out;have:i<base\/eb<i:=hb2;omega)⟩:Frm (Out base eb) x1 x3))
     clear kx hr9 hl9 hr8 hnr htk hka hKK;refine hK.out _ _ (HLE.out _ _ _ Ex3.out).2.2 (λhH=>?_)
     clear hK K;refine tkE (i:=10) 24 rfl hH ?_
     apply zH
     ·intro w9 _
      go_simp
      first|done|rfl
     simp only[sA,sB,sC];refine tkE (i:=11) 35 rfl hH ?_
     apply zH
     ·intro w9 _
      go_simp
      first|done|rfl
     simp only[sA,sB,sC];refine tkE (i:=12) 36 rfl hH ?_
     apply zH
     ·intro w9 _
      go_simp
      first|done|rfl
     simp only[sA,sB,sC];refine wpAnyH_ready (rs:=[13]) (by kernel_rfl) (by simp) ?_
     refine AllReadyH.cons rfl (λK hK=>?_) AllReadyH.nil
     rw[zG (by rfl)]
     obtain⟨hb,hhb⟩:∃x,x=x3.heap.size:=⟨_,rfl⟩;have er:=Qcj x3;have ho:=Qaa x3 (.cells zY 23)
     have eb9:=Ex3.out.box (.cells zY 23)
     rw[<-hhb] at er ho eb9;have hkk:Kept x3.heap.size x3.heap.size x3 (x3.alloc (.cells zY 23)):=zI.alloc (zB _) _
     generalize x3.alloc (.cells zY 23)=x4 at er ho hkk eb9
     refine Qa1 23 rfl (some 8) rfl _ er ?_
     simp only[Act.put,sA,sB,sC];have Ex4:=hid eb9;have Fx4:=hid (Fx3.out.trans hkk.fr);have HBx4:=hid ho;have HHB:=hid (show eb<hb by have:=Ex3.out.ord;omega)
     have HHW:=hid (show w1.heap.size<=hb by rw[hhb];exact Fx3.out.size)
     clear er ho hkk hhb eb9;refine hK.out _ _ (HLE.out _ _ _ Ex4.out).2.2 (λhH=>?_)
     clear hK K;refine wpAnyH_ready (rs:=[14]) (by kernel_rfl) (by simp) ?_
     refine AllReadyH.cons rfl (λK hK=>?_) AllReadyH.nil
     rw[zG (by rfl)]
     refine Qau 23 _ _ rfl rfl hb KK rfl rfl 23 zY HBx4.out (hashInfoArr HKS.out) (by rw[HKS.out];rfl) HKA.out ?_
     have HS:=setRow_heap x4 hb _ KK _ _ HBx4.out;have hgr:=Qa6 x4 hb KK;have he:=Ex4.out.aside (b:=hb) (.inr rfl) HHB.out hgr;have hfm:=Fx4.out.local14 hgr HHW.out;generalize x4.setRow hb KK=u5 at HS he hfm |-;refine hK.out _ _ (HLE.out _ _ _ he).2.2 (λhH=>?_)
     clear hK K;refine tkE (i:=15) 9 rfl hH ?_
     apply zH
     ·intro w9 _
      go_simp
      first|done|rfl
     simp only[sA,sB,sC];refine wpAnyH_done (by kernel_rfl) ?_ _
     refine NoPanic.normal ?_;exact⟨rfl,hb,M,kk,by rw[HKK.out],HTKN.out,HKL.out,he,hfm,by rw[<-HKK.out];exact HS,HHB.out,HHW.out⟩
    refine AllReadyH.cons rfl (λK hK=>?_) AllReadyH.nil
    rw[zG (by rfl)]
    obtain⟨hb,hhb⟩:∃x,x=x1.heap.size:=⟨_,rfl⟩;have er:=Qcj x1;have ho:=Qaa x1 (.cells zY 23)
    have eb9:=Ex1.out.box (.cells zY 23)
    rw[<-hhb] at er ho eb9;have hkk:Kept x1.heap.size x1.heap.size x1 (x1.alloc (.cells zY 23)):=zI.alloc (zB _) _
    generalize x1.alloc (.cells zY 23)=x6 at er ho hkk eb9
    refine Qa1 23 rfl (some 8) rfl _ er ?_
    simp only[Act.put,sA,sB,sC];have Ex6:=hid eb9;have Fx6:=hid (Fx1.out.trans hkk.fr);have HBx6:=hid ho;have HHB:=hid (show eb<hb by have:=Ex1.out.ord;omega)
    have HHW:=hid (show w1.heap.size<=hb by rw[hhb];exact Fx1.out.size)
    clear er ho hkk hhb eb9;refine hK.out _ _ (HLE.out _ _ _ Ex6.out).2.2 (λhH=>?_)
    clear hK K;refine wpAnyH_ready (rs:=[9]) (by kernel_rfl) (by simp) ?_
    refine AllReadyH.cons rfl (λK hK=>?_) AllReadyH.nil
    rw[zG (by rfl)]
    go_simp;obtain⟨sl9,hr9,hl9⟩:=HRW.out _ _ Ex6.out
    go_wp2_with (go_at_call 44;refine(HTK.out _ sl9 hr9).mono ?_;rintro e x7 ⟨M,kk,er,rfl,htk,sl8,hr8,kx,hnr⟩)
    obtain⟨he0,hka⟩:=HTH.out _ _ _ htk;subst he0;have HKL:=hid (Qb1 htk);have HTKN:=hid htk;obtain⟨KK,hKK⟩:∃x,x=(bY kk).toArray:=⟨_,rfl⟩;rw[<-hKK];have HKS:=hid (show KK.size=32 by rw[hKK,List.size_toArray,bZ,HKL.out])
    have HKA:=hid (show KK.all (·.oneCell')=true by rw[hKK];exact Qae _)
    have HKK:=hid hKK;have Ex7:=hid (HTO.out _ _ _ Ex6.out _ _ _ hr9 hl9 hr8 kx hnr);have Fx7:=hid (Fx6.out.trans (⟨kx.os,kx.tape,kx.output,kx.size,λi hi2 hb2=>kx.block i hi2 (λe=>by have:=HORD.out;have:i<base\/eb<i:=hb2;omega)⟩:Frm (Out base eb) x6 x7))
    have HBx7:=hid ((kx.block hb (zF HBx6.out) (λe=>by have:=HORD.out;have:=HHB.out;omega)).trans HBx6.out)
    clear kx hr9 hl9 hr8 hnr htk hka hKK;refine hK.out _ _ (HLE.out _ _ _ Ex7.out).2.2 (λhH=>?_)
    clear hK K;refine tkE (i:=10) 24 rfl hH ?_
    apply zH
    ·intro w9 _
     go_simp
     first|done|rfl
    simp only[sA,sB,sC];refine tkE (i:=11) 35 rfl hH ?_
    apply zH
    ·intro w9 _
     go_simp
     first|done|rfl
    simp only[sA,sB,sC];refine tkE (i:=12) 36 rfl hH ?_
    apply zH
    ·intro w9 _
     go_simp
     first|done|rfl
    simp only[sA,sB,sC];refine wpAnyH_ready (rs:=[14]) (by kernel_rfl) (by simp) ?_
    refine AllReadyH.cons rfl (λK hK=>?_) AllReadyH.nil
    rw[zG (by rfl)]
    refine Qau 23 _ _ rfl rfl hb KK rfl rfl 23 zY HBx7.out (hashInfoArr HKS.out) (by rw[HKS.out];rfl) HKA.out ?_
    have HS:=setRow_heap x7 hb _ KK _ _ HBx7.out;have hgr:=Qa6 x7 hb KK;have he:=Ex7.out.aside (b:=hb) (.inr rfl) HHB.out hgr;have hfm:=Fx7.out.local14 hgr HHW.out;generalize x7.setRow hb KK=u8 at HS he hfm |-;refine hK.out _ _ (HLE.out _ _ _ he).2.2 (λhH=>?_)
    clear hK K;refine tkE (i:=15) 9 rfl hH ?_
    apply zH
    ·intro w9 _
     go_simp
     first|done|rfl
    simp only[sA,sB,sC];refine wpAnyH_done (by kernel_rfl) ?_ _
    refine NoPanic.normal ?_;exact⟨rfl,hb,M,kk,by rw[HKK.out],HTKN.out,HKL.out,he,hfm,by rw[<-HKK.out];exact HS,HHB.out,HHW.out⟩
   refine AllReadyH.cons rfl (λK hK=>?_) AllReadyH.nil
   rw[zG (by rfl)]
   obtain⟨hb,hhb⟩:∃x,x=x1.heap.size:=⟨_,rfl⟩;have er:=Qcj x1;have ho:=Qaa x1 (.cells zY 23)
   have eb9:=Ex1.out.box (.cells zY 23)
   rw[<-hhb] at er ho eb9;have hkk:Kept x1.heap.size x1.heap.size x1 (x1.alloc (.cells zY 23)):=zI.alloc (zB _) _
   generalize x1.alloc (.cells zY 23)=x9 at er ho hkk eb9
   refine Qa1 23 rfl (some 8) rfl _ er ?_
   simp only[Act.put,sA,sB,sC];have Ex9:=hid eb9;have Fx9:=hid (Fx1.out.trans hkk.fr);have HBx9:=hid ho;have HHB:=hid (show eb<hb by have:=Ex1.out.ord;omega)
   have HHW:=hid (show w1.heap.size<=hb by rw[hhb];exact Fx1.out.size)
   clear er ho hkk hhb eb9;refine hK.out _ _ (HLE.out _ _ _ Ex9.out).2.2 (λhH=>?_)
   clear hK K;refine wpAnyH_ready (rs:=[3]) (by kernel_rfl) (by simp) ?_
   refine AllReadyH.cons rfl (λK hK=>?_) AllReadyH.nil
   rw[zG (by rfl)]
   go_simp
   go_wp2_with (go_at_call 42;refine(HRA.out _ _ Ex9.out).mono ?_;rintro e x10 ⟨rfl,hv⟩;rw[hv];clear hv)
   rw[HRP.out];refine hK.out _ _ (HLE.out _ _ _ Ex9.out).2.2 (λhH=>?_)
   clear hK K;refine wpAnyH_ready (rs:=[9]) (by kernel_rfl) (by simp) ?_
   refine AllReadyH.cons rfl (λK hK=>?_) AllReadyH.nil
   rw[zG (by rfl)]
   go_simp;obtain⟨sl9,hr9,hl9⟩:=HRW.out _ _ Ex9.out
   go_wp2_with (go_at_call 44;refine(HTK.out _ sl9 hr9).mono ?_;rintro e x11 ⟨M,kk,er,rfl,htk,sl8,hr8,kx,hnr⟩)
   obtain⟨he0,hka⟩:=HTH.out _ _ _ htk;subst he0;have HKL:=hid (Qb1 htk);have HTKN:=hid htk;obtain⟨KK,hKK⟩:∃x,x=(bY kk).toArray:=⟨_,rfl⟩;rw[<-hKK];have HKS:=hid (show KK.size=32 by rw[hKK,List.size_toArray,bZ,HKL.out])
   have HKA:=hid (show KK.all (·.oneCell')=true by rw[hKK];exact Qae _)
   have HKK:=hid hKK;have Ex11:=hid (HTO.out _ _ _ Ex9.out _ _ _ hr9 hl9 hr8 kx hnr);have Fx11:=hid (Fx9.out.trans (⟨kx.os,kx.tape,kx.output,kx.size,λi hi2 hb2=>kx.block i hi2 (λe=>by have:=HORD.out;have:i<base\/eb<i:=hb2;omega)⟩:Frm (Out base eb) x9 x11))
   have HBx11:=hid ((kx.block hb (zF HBx9.out) (λe=>by have:=HORD.out;have:=HHB.out;omega)).trans HBx9.out)
   clear kx hr9 hl9 hr8 hnr htk hka hKK;refine hK.out _ _ (HLE.out _ _ _ Ex11.out).2.2 (λhH=>?_)
   clear hK K;refine tkE (i:=10) 24 rfl hH ?_
   apply zH
   ·intro w9 _
    go_simp
    first|done|rfl
   simp only[sA,sB,sC];refine tkE (i:=11) 35 rfl hH ?_
   apply zH
   ·intro w9 _
    go_simp
    first|done|rfl
   simp only[sA,sB,sC];refine tkE (i:=12) 36 rfl hH ?_
   apply zH
   ·intro w9 _
    go_simp
    first|done|rfl
   simp only[sA,sB,sC];refine wpAnyH_ready (rs:=[14]) (by kernel_rfl) (by simp) ?_
   refine AllReadyH.cons rfl (λK hK=>?_) AllReadyH.nil
   rw[zG (by rfl)]
   refine Qau 23 _ _ rfl rfl hb KK rfl rfl 23 zY HBx11.out (hashInfoArr HKS.out) (by rw[HKS.out];rfl) HKA.out ?_
   have HS:=setRow_heap x11 hb _ KK _ _ HBx11.out;have hgr:=Qa6 x11 hb KK;have he:=Ex11.out.aside (b:=hb) (.inr rfl) HHB.out hgr;have hfm:=Fx11.out.local14 hgr HHW.out;generalize x11.setRow hb KK=u12 at HS he hfm |-;refine hK.out _ _ (HLE.out _ _ _ he).2.2 (λhH=>?_)
   clear hK K;refine tkE (i:=15) 9 rfl hH ?_
   apply zH
   ·intro w9 _
    go_simp
    first|done|rfl
   simp only[sA,sB,sC];refine wpAnyH_done (by kernel_rfl) ?_ _
   refine NoPanic.normal ?_;exact⟨rfl,hb,M,kk,by rw[HKK.out],HTKN.out,HKL.out,he,hfm,by rw[<-HKK.out];exact HS,HHB.out,HHW.out⟩
  refine AllReadyH.cons rfl (λK hK=>?_) AllReadyH.nil
  rw[zG (by rfl)]
  obtain⟨hb,hhb⟩:∃x,x=wd.heap.size:=⟨_,rfl⟩;have er:=Qcj wd;have ho:=Qaa wd (.cells zY 23)
  have eb9:=Ewd.out.box (.cells zY 23)
  rw[<-hhb] at er ho eb9;have hkk:Kept wd.heap.size wd.heap.size wd (wd.alloc (.cells zY 23)):=zI.alloc (zB _) _
  generalize wd.alloc (.cells zY 23)=x13 at er ho hkk eb9
  refine Qa1 23 rfl (some 8) rfl _ er ?_
  simp only[Act.put,sA,sB,sC];have Ex13:=hid eb9;have Fx13:=hid (Fwd.out.trans hkk.fr);have HBx13:=hid ho;have HHB:=hid (show eb<hb by have:=Ewd.out.ord;omega)
  have HHW:=hid (show w1.heap.size<=hb by rw[hhb];exact Fwd.out.size)
  clear er ho hkk hhb eb9;refine hK.out _ _ (HLE.out _ _ _ Ex13.out).2.2 (λhH=>?_)
  clear hK K;refine wpAnyH_ready (rs:=[2]) (by kernel_rfl) (by simp) ?_
  refine AllReadyH.cons rfl (λK hK=>?_) AllReadyH.nil
  rw[zG (by rfl)]
  go_simp
  go_wp2_with (go_at_call 43;refine(HEP.out _ _ Ex13.out).mono ?_;rintro e x14 ⟨rfl,kx⟩)
  have Ex14:=hid (Ex13.out.kept kx);have Fx14:=hid (Fx13.out.trans kx.fr);have HBx14:=hid (rK HBx13.out kx);clear kx;refine hK.out _ _ (HLE.out _ _ _ Ex14.out).2.2 (λhH=>?_)
  clear hK K;refine wpAnyH_ready (rs:=[3]) (by kernel_rfl) (by simp) ?_
  refine AllReadyH.cons rfl (λK hK=>?_) AllReadyH.nil
  rw[zG (by rfl)]
  go_simp
  go_wp2_with (go_at_call 42;refine(HRA.out _ _ Ex14.out).mono ?_;rintro e x15 ⟨rfl,hv⟩;rw[hv];clear hv)
  rw[HRP.out];refine hK.out _ _ (HLE.out _ _ _ Ex14.out).2.2 (λhH=>?_)
  clear hK K;refine wpAnyH_ready (rs:=[9]) (by kernel_rfl) (by simp) ?_
  refine AllReadyH.cons rfl (λK hK=>?_) AllReadyH.nil
  rw[zG (by rfl)]
  go_simp;obtain⟨sl9,hr9,hl9⟩:=HRW.out _ _ Ex14.out
  go_wp2_with (go_at_call 44;refine(HTK.out _ sl9 hr9).mono ?_;rintro e x16 ⟨M,kk,er,rfl,htk,sl8,hr8,kx,hnr⟩)
  obtain⟨he0,hka⟩:=HTH.out _ _ _ htk;subst he0;have HKL:=hid (Qb1 htk);have HTKN:=hid htk;obtain⟨KK,hKK⟩:∃x,x=(bY kk).toArray:=⟨_,rfl⟩;rw[<-hKK];have HKS:=hid (show KK.size=32 by rw[hKK,List.size_toArray,bZ,HKL.out])
  have HKA:=hid (show KK.all (·.oneCell')=true by rw[hKK];exact Qae _)
  have HKK:=hid hKK;have Ex16:=hid (HTO.out _ _ _ Ex14.out _ _ _ hr9 hl9 hr8 kx hnr);have Fx16:=hid (Fx14.out.trans (⟨kx.os,kx.tape,kx.output,kx.size,λi hi2 hb2=>kx.block i hi2 (λe=>by have:=HORD.out;have:i<base\/eb<i:=hb2;omega)⟩:Frm (Out base eb) x14 x16))
  have HBx16:=hid ((kx.block hb (zF HBx14.out) (λe=>by have:=HORD.out;have:=HHB.out;omega)).trans HBx14.out)
  clear kx hr9 hl9 hr8 hnr htk hka hKK;refine hK.out _ _ (HLE.out _ _ _ Ex16.out).2.2 (λhH=>?_)
  clear hK K;refine tkE (i:=10) 24 rfl hH ?_
  apply zH
  ·intro w9 _
   go_simp
   first|done|rfl
  simp only[sA,sB,sC];refine tkE (i:=11) 35 rfl hH ?_
  apply zH
  ·intro w9 _
   go_simp
   first|done|rfl
  simp only[sA,sB,sC];refine tkE (i:=12) 36 rfl hH ?_
  apply zH
  ·intro w9 _
   go_simp
   first|done|rfl
  simp only[sA,sB,sC];refine wpAnyH_ready (rs:=[14]) (by kernel_rfl) (by simp) ?_
  refine AllReadyH.cons rfl (λK hK=>?_) AllReadyH.nil
  rw[zG (by rfl)]
  refine Qau 23 _ _ rfl rfl hb KK rfl rfl 23 zY HBx16.out (hashInfoArr HKS.out) (by rw[HKS.out];rfl) HKA.out ?_
  have HS:=setRow_heap x16 hb _ KK _ _ HBx16.out;have hgr:=Qa6 x16 hb KK;have he:=Ex16.out.aside (b:=hb) (.inr rfl) HHB.out hgr;have hfm:=Fx16.out.local14 hgr HHW.out;generalize x16.setRow hb KK=u17 at HS he hfm |-;refine hK.out _ _ (HLE.out _ _ _ he).2.2 (λhH=>?_)
  clear hK K;refine tkE (i:=15) 9 rfl hH ?_
  apply zH
  ·intro w9 _
   go_simp
   first|done|rfl
  simp only[sA,sB,sC];refine wpAnyH_done (by kernel_rfl) ?_ _
  refine NoPanic.normal ?_;exact⟨rfl,hb,M,kk,by rw[HKK.out],HTKN.out,HKL.out,he,hfm,by rw[<-HKK.out];exact HS,HHB.out,HHW.out⟩
 case rest=>
  rintro e a u ⟨rfl,hb,M,kk,rfl,htk,hkl,he,hfm,hhb,hlb,hlw⟩;have HTKN:=hid htk;have HKL:=hid hkl;have EU:=hid he;have FU:=hid hfm;have HBU2:=hid hhb;have HHB:=hid (show eb<hb/\w1.heap.size<=hb from⟨hlb,hlw⟩);clear htk hkl he hfm hhb hlb hlw;have HLE2:=HLE
  go_upto_region 8 with fail
  refine zA ?_;iterate 2(refine wW λK hK=>?_;go_simp;apply hK;clear hK K)
  obtain⟨N4,hN4⟩:∃x,x=(Nt.cells ⟨f.id,f.depth,me,(s:Int),⟨#[]⟩⟩).toArray:=⟨_,rfl⟩;have HN4:=hid (show N4.size=36 by rw[hN4];exact HSZ.out _)
  have HA4:=hid (show N4.all (·.oneCell')=true by rw[hN4];exact Nt.all _)
  have HDP:=hid hdp;have HWP:=hid (show IntKind.i64.wrap ((s:Int)+1)=(s:Int)+1 from wrap_small _ (by omega) (by omega))
  have hb4:=HBU.out;rw[<-hN4,<-hdp] at hb4;have HB4:=hid hb4;have HN4E:=hid hN4;rw[<-hN4] at HHD;clear hN4 hb4 hdp
  go_upto_region 10 with fail
  refine wp_region_noPanic ?_;refine wp_region_held_drew (S:=λw'=>Kept u.heap.size u.heap.size u w') (by kernel_rfl) (zI.drew) (λhH=>?_)
  have eud:=EU.out.drew;have fud:=FU.out.trans (Kept.refl u.heap.size u.heap.size u).drew.fr;have bud:=rK HBU2.out (Kept.refl u.heap.size u.heap.size u).drew;have kud:Kept u.heap.size u.heap.size u u.drew:=zI.drew;obtain⟨ud,hud⟩:∃x,x=u.drew:=⟨_,rfl⟩;rw[<-hud] at hH eud fud bud kud |-;clear hud;have Eud:=hid eud;have Fud:=hid fud;have HBud:=hid bud;have KUD:=hid kud;clear eud fud bud kud;refine tkE (i:=0) 40 rfl hH ?_
  apply zH
  ·intro w9 _
   go_simp
   first|done|rfl
  simp only[sA,sB,sC];refine tkE (i:=1) 41 rfl hH ?_
  apply zH
  ·intro w9 _
   go_simp
   first|done|rfl
  simp only[sA,sB,sC];refine tkE (i:=2) 42 rfl hH ?_
  apply zH
  ·intro w9 _
   go_simp
   first|done|rfl
  simp only[sA,sB,sC];refine tkE (i:=3) 43 rfl hH ?_
  apply zH
  ·intro w9 _
   go_simp
   first|done|rfl
  simp only[sA,sB,sC];refine tkA (i:=4) 44 (.agg KI) rfl (yK (by kernel_rfl) 23 _ rfl (eb) (0) rfl (.agg KI) (λx k=>HLI.out x _ _ (EU.out.kept k))) hH ?_
  simp only[sA,sB,sC];refine tkE (i:=5) 45 rfl hH ?_
  apply zH
  ·intro w9 _
   go_simp
   first|done|rfl
  simp only[sA,sB,sC];refine tkE (i:=6) 46 rfl hH ?_
  apply zH
  ·intro w9 _
   go_simp
   first|done|rfl
  simp only[sA,sB,sC];refine tkE (i:=7) 47 rfl hH ?_
  apply zH
  ·intro w9 _
   go_simp
   first|done|rfl
  simp only[sA,sB,sC];refine tkE (i:=8) 48 rfl hH ?_
  apply zH
  ·intro w9 _
   go_simp
   first|done|rfl
  simp only[sA,sB,sC];refine tkA (i:=9) 49 (.int .i64 dp) rfl (yK (by kernel_rfl) 3 _ rfl (eb) (64) rfl (.int .i64 dp) (λx k=>Qa3 (by rw[HDP.out];exact(HLE2.out x _ _ (EU.out.kept k)).1))) hH ?_
  simp only[sA,sB,sC];refine tkE (i:=10) 50 rfl hH ?_
  apply zH
  ·intro w9 _
   go_simp
   first|done|rfl
  simp only[sA,sB,sC];refine tkE (i:=11) 51 rfl hH ?_
  apply zH
  ·intro w9 _
   go_simp
   first|done|rfl
  simp only[sA,sB,sC];refine tkE (i:=12) 52 rfl hH ?_
  apply zH
  ·intro w9 _
   go_simp
   first|done|rfl
  simp only[sA,sB,sC];refine tkA (i:=13) 53 (.int .i64 me) rfl (yK (by kernel_rfl) 3 _ rfl (eb) (163) rfl (.int .i64 me) (λx k=>Qa3 (HLE2.out x _ _ (EU.out.kept k)).2.1)) hH ?_
  simp only[sA,sB,sC];refine tkE (i:=14) 54 rfl hH ?_
  apply zH
  ·intro w9 _
   go_simp
   first|done|rfl
  simp only[sA,sB,sC];refine tkE (i:=15) 55 rfl hH ?_
  apply zH
  ·intro w9 _
   go_simp
   first|done|rfl
  simp only[sA,sB,sC];refine tkE (i:=16) 56 rfl hH ?_
  apply zH
  ·intro w9 _
   go_simp
   first|done|rfl
  simp only[sA,sB,sC];refine tkA (i:=17) 57 (.int .i64 (s:Int)) rfl (yK (by kernel_rfl) 3 _ rfl (eb) (168) rfl (.int .i64 (s:Int)) (λx k=>Qa3 (HLE2.out x _ _ (EU.out.kept k)).2.2)) hH ?_
  simp only[sA,sB,sC];refine tkA (i:=18) 58 (.agg N4) rfl (Qa4 (by kernel_rfl) 25 _ rfl #[(0,.agg KI),(1,.int .i64 dp),(2,.int .i64 me),(3,.int .i64 (s:Int))] (by kernel_rfl) _ HB4.out) hH ?_
  simp only[sA,sB,sC];refine wpAnyH_ready (rs:=[19]) (by kernel_rfl) (by simp) ?_
  refine AllReadyH.cons rfl (λK hK=>?_) AllReadyH.nil
  rw[zG (by rfl)]
  obtain⟨nn,hnn⟩:∃x,x=ud.heap.size:=⟨_,rfl⟩;have er:=Qbr ud;have ho:=Qaa ud (.cells Nt.zero.cells.toArray 25)
  have hkk:Kept ud.heap.size ud.heap.size ud (ud.alloc (.cells Nt.zero.cells.toArray 25)):=zI.alloc (zB _) _
  have eb9:=Eud.out.box (.cells Nt.zero.cells.toArray 25)
  rw[<-hnn] at er ho eb9;generalize ud.alloc (.cells Nt.zero.cells.toArray 25)=u2 at er ho hkk eb9
  refine Qa1 25 rfl (some 10) rfl _ er ?_
  simp only[Act.put,sA,sB,sC];have E2:=hid eb9;have F2:=hid (Fud.out.trans hkk.fr);have HB2:=hid (rK HBud.out hkk);have HN2:=hid ho;have HNN:=hid (show eb<nn/\w1.heap.size<=nn/\hb≠nn by have:=Eud.out.ord;have:=Fud.out.size;have:=zF HBud.out;omega)
  have KU2:Kept u.heap.size u.heap.size u u2:=KUD.out.onto hkk;have HNU:=hid (show u.heap.size<=nn by rw[hnn];exact KUD.out.size)
  clear er ho hkk eb9 hnn;refine hK.out _ _ KU2 (λhH=>?_)
  clear hK K;refine wpAnyH_ready (rs:=[20]) (by kernel_rfl) (by simp) ?_
  refine AllReadyH.cons rfl (λK hK=>?_) AllReadyH.nil
  rw[zG (by rfl)]
  refine Qau 25 _ _ rfl rfl nn N4 rfl rfl 25 Nt.zero.cells.toArray HN2.out (noteInfo HN4.out) (by rw[HN4.out];exact Nt.size rfl) HA4.out ?_
  have HS:=setRow_heap u2 nn _ N4 _ _ HN2.out;have hgr:=Qa6 u2 nn N4;have he:=E2.out.aside (b:=nn) (.inr rfl) HNN.out.1 hgr;have hfm:=F2.out.local14 hgr HNN.out.2.1;have hhb:=(hgr.block hb (zF HB2.out) (λe=>HNN.out.2.2 (Option.some.inj e))).trans HB2.out
  have hku:Kept u.heap.size u.heap.size u (u2.setRow nn N4):=Qak KU2 nn HNU.out _;generalize u2.setRow nn N4=u3 at HS he hfm hhb hku |-;have E3:=hid he;have F3:=hid hfm;have HB3:=hid hhb;have HN3:=hid HS;clear HS hgr he hfm hhb;refine hK.out _ _ hku (λhH=>?_)
  clear hK K;refine wpAnyH_done (by kernel_rfl) ?_ _
  refine NoPanic.normal ?_;obtain⟨KK,hKK⟩:∃x,x=(bY kk).toArray:=⟨_,rfl⟩;have hb3:=HB3.out;rw[<-hKK] at hb3;have HB3K:=hid hb3;have HKS:=hid (show KK.size=32 by rw[hKK,List.size_toArray,bZ,HKL.out])
  have HSEK:=hid (λ(hd:List UInt8) (hh:hd.length<=56) (x:World)=>HSE.out kk HKL.out hd hh x)
  rw[<-hKK] at HSEK;have HBNK:=hid (λ(s:ByteArray) (x:World)=>HBN.out s kk x)
  rw[<-hKK] at HBNK
  (try rw[<-hKK])
  have HKKX:=hid hKK.symm;obtain⟨SS,hSS⟩:∃x,x=str (Pm.sealed kk (Cn.head ⟨f.id,f.depth,me,(s:Int),⟨#[]⟩⟩) text):=⟨_,rfl⟩;have HSS:=hid hSS;have HSEQ:=hid (λ(x:World)=>HSEK.out (Cn.head ⟨f.id,f.depth,me,(s:Int),⟨#[]⟩⟩) HHL.out x)
  rw[show(str (Cn.head ⟨f.id,f.depth,me,(s:Int),⟨#[]⟩⟩)).data.toList=Cn.head ⟨f.id,f.depth,me,(s:Int),⟨#[]⟩⟩ from rfl,<-hSS] at HSEQ;obtain⟨hs9,hhs9⟩:∃x,x=str (Cn.head ⟨f.id,f.depth,me,(s:Int),⟨#[]⟩⟩):=⟨_,rfl⟩;rw[<-hhs9] at HSEQ HHD;have HSET:=hid (Nt.set_text (n:=⟨f.id,f.depth,me,(s:Int),⟨#[]⟩⟩) HFO.out.1 SS);have HL36:=hid (show 35<(Nt.cells ⟨f.id,f.depth,me,(s:Int),⟨#[]⟩⟩).length by rw[Nt.cells_length HFO.out.1];decide)
  have HT3:=hid ((HTB.out.kept K1.out).frm14 F3.out HB1.out);clear hKK hb3 hSS hhs9 HSE HSEK HBN
  go_upto_region 11 with fail
  refine wp_region_noPanic ?_;refine Qa9 7 (S:=λw'=>Kept u3.heap.size u3.heap.size u3 w') (by kernel_rfl) (zI.drew) (λhH=>?_)
  refine tkH (i:=0) 59 rfl hH ?_
  apply zH
  ·intro w9 h9
   go_simp
   first|done|rfl
  simp only[sA,sB,sC];refine tkT (i:=1) 60 (.agg KK) rfl (yK (by kernel_rfl) 23 _ rfl (hb) (0) rfl (.agg KK) (λx k=>run_loadVar_row x hb 23 23 _ (0,0) _ (rK HB3K.out k) Tryz.underlying23 rfl (hashInfoArr HKS.out))) hH ?_
  simp only[sA,sB,sC];refine tkT (i:=2) 61 (.agg N4) rfl (yK (by kernel_rfl) 25 _ rfl (nn) (0) rfl (.agg N4) (λx k=>run_loadVar_row x nn 25 25 _ (0,0) _ (rK HN3.out k) Tryz.underlying25 rfl (noteInfo HN4.out))) hH ?_
  simp only[sA,sB,sC];refine tkH (i:=4) 63 rfl hH ?_
  apply zH
  ·intro w9 h9
   go_simp
   first|done|rfl
  simp only[sA,sB,sC];refine Qa2 (i:=3) (by kernel_rfl) rfl (λK hK=>?_)
  rw[zG (by rfl)]
  go_simp
  go_wp2_with (go_at_call 46;refine(HHD.out _ (HT3.out.kept (Kept.refl u3.heap.size u3.heap.size u3).drew).t).mono ?_;rintro e v1 ⟨rfl,kv1⟩)
  have KV1:Kept u3.heap.size u3.heap.size u3 v1:=(Kept.refl u3.heap.size u3.heap.size u3).drew.onto kv1;clear kv1;have KS:=KV1;refine hK.out _ _ KS (λhH=>?_)
  clear hK K KS;refine Qa2 (i:=5) (by kernel_rfl) rfl (λK hK=>?_)
  rw[zG (by rfl)]
  go_simp
  go_wp2_with (go_at_call 45;refine(HSEQ.out _).mono ?_;rintro e v2 ⟨rfl,kv2⟩)
  have KV2:Kept u3.heap.size u3.heap.size u3 v2:=KV1.onto kv2;clear kv2;have KS:=KV2;refine hK.out _ _ KS (λhH=>?_)
  clear hK K KS;refine tkH (i:=6) 65 rfl hH ?_
  apply zH
  ·intro w9 h9
   go_simp
   first|done|rfl
  simp only[sA,sB,sC];refine Qb4 (by kernel_rfl) rfl (λK hK=>?_)
  rw[zG (by rfl)]
  refine Qbx 9 _ _ rfl rfl nn 35 (Nt.cells ⟨f.id,f.depth,me,(s:Int),⟨#[]⟩⟩) 25 (.string SS) rfl rfl (by rw[<-HN4E.out];exact rK HN3.out KV2) HL36.out rfl (by kernel_rfl) ?_
  have r11:=Qaj (by rw[<-HN4E.out];exact rK HN3.out KV2:v2.heap[nn]?=some (.cells (Nt.cells ⟨f.id,f.depth,me,(s:Int),⟨#[]⟩⟩).toArray 25 (0,0))) 35 (.string SS)
  rw[HSET.out] at r11;have g11:=Qbb v2 nn 35 (.string SS);have e11:=(E3.out.kept KV2).aside (b:=nn) (.inr rfl) HNN.out.1 g11;have f11:=(F3.out.trans KV2.fr).local14 g11 HNN.out.2.1;have b11:=(g11.block hb (zF (rK HB3.out KV2)) (λe=>HNN.out.2.2 (Option.some.inj e))).trans (rK HB3.out KV2)
  generalize v2.setCell ⟨nn,35,none⟩ (.string SS)=v3 at r11 e11 f11 b11 |-;have R11:=hid r11;have E11:=hid e11;have F11:=hid f11;have B11:=hid b11;clear r11 g11 e11 f11 b11;refine hK.out _ _ ?_;clear hK K;refine Qb5 (by kernel_rfl) ?_ _
  refine NoPanic.normal ?_;clear hH;have c168:=(E11.out.at_mid HFO.out).2.2.1;have f168:=(E11.out.at_mid HFO.out).2.2.2
  go_upto_region 12 with fail
  refine zA ?_;iterate 8(refine wW λK hK=>?_;go_simp;apply hK;clear hK K)
  (try rw[HWP.out])
  have g12:=Qbb v3 eb 168 (.int .i64 ((s:Int)+1));have e12:=E11.out.setSent HFO.out ((s:Int)+1);have f12:=F11.out.trans (Qfk (B:=Out base eb) g12 (λg e hO=>by cases e;have:=HORD.out;rcases hO with h1|h1 <;> omega))
  have hneb:=HNN.out.1;have r12:=(g12.block nn (zF R11.out) (λe=>by have:=Option.some.inj e;omega)).trans R11.out
  have b12:=(g12.block hb (zF B11.out) (λe=>by have:=Option.some.inj e;have:=HHB.out;omega)).trans B11.out
  generalize v3.setCell ⟨eb,168,none⟩ (.int .i64 ((s:Int)+1))=v5 at e12 f12 r12 b12 |-;have E5:=hid e12;have F5:=hid f12;have R5:=hid r12;have b12k:=b12;rw[HKKX.out] at b12k;have B5:=hid b12k;have T5:=hid ((HTB.out.kept K1.out).frm14 F5.out HB1.out);clear c168 f168 g12 e12 f12 hneb r12 b12 b12k
  go_upto_region 13 with fail
  refine wp_region_noPanic ?_;refine wp_region_held_drew (S:=λw'=>Kept v5.heap.size v5.heap.size v5 w') (by kernel_rfl) (zI.drew) (λhH=>?_)
  refine tkE (i:=0) 73 rfl hH ?_
  apply zH
  ·intro w9 _
   go_simp
   first|done|rfl
  simp only[sA,sB,sC];refine tkE (i:=1) 74 rfl hH ?_
  apply zH
  ·intro w9 _
   go_simp
   first|done|rfl
  simp only[sA,sB,sC];refine tkA (i:=2) 75 (.agg KI) rfl (yK (by kernel_rfl) 23 _ rfl (nn) (0) rfl (.agg KI) (λx k=>HLI2.out x nn _ (rK R5.out k))) hH ?_
  simp only[sA,sB,sC];refine tkE (i:=3) 76 rfl hH ?_
  apply zH
  ·intro w9 _
   go_simp
   first|done|rfl
  simp only[sA,sB,sC];refine tkA (i:=4) 77 (.int .i64 me) rfl (yK (by kernel_rfl) 3 _ rfl (nn) (33) rfl (.int .i64 me) (λx k=>Qa3 (HLC.out x nn _ (rK R5.out k)).2.1)) hH ?_
  simp only[sA,sB,sC];refine tkE (i:=5) 78 rfl hH ?_
  apply zH
  ·intro w9 _
   go_simp
   first|done|rfl
  simp only[sA,sB,sC];refine tkA (i:=6) 79 (.int .i64 (s:Int)) rfl (yK (by kernel_rfl) 3 _ rfl (nn) (34) rfl (.int .i64 (s:Int)) (λx k=>Qa3 (HLC.out x nn _ (rK R5.out k)).2.2.1)) hH ?_
  simp only[sA,sB,sC];refine tkA (i:=8) 81 (.agg KK) rfl (yK (by kernel_rfl) 23 _ rfl (hb) (0) rfl (.agg KK) (λx k=>run_loadVar_row x hb 23 23 _ (0,0) _ (rK B5.out k) Tryz.underlying23 rfl (hashInfoArr HKS.out))) hH ?_
  simp only[sA,sB,sC];refine wpAnyH_ready (rs:=[7]) (by kernel_rfl) (by simp) ?_
  refine AllReadyH.cons rfl (λK hK=>?_) AllReadyH.nil
  rw[zG (by rfl)]
  go_simp
  go_wp2_with (go_at_call 10;refine(HNA.out _ (T5.out.kept (Kept.refl v5.heap.size v5.heap.size v5).drew)).mono ?_;rintro e z1 ⟨rfl,kz1⟩)
  have Z1:Kept v5.heap.size v5.heap.size v5 z1:=(Kept.refl v5.heap.size v5.heap.size v5).drew.trans (kz1.mono (Kept.refl v5.heap.size v5.heap.size v5).drew.size (λi hi _=>zD (zC hi (Kept.refl v5.heap.size v5.heap.size v5).drew.size)))
  refine hK.out _ _ (Z1) (λhH=>?_)
  clear hK K;refine wpAnyH_ready (rs:=[9]) (by kernel_rfl) (by simp) ?_
  refine AllReadyH.cons rfl (λK hK=>?_) AllReadyH.nil
  rw[zG (by rfl)]
  go_simp
  go_wp2_with (go_at_call 47;refine(HBNK.out _ _).mono ?_;rintro e z2 ⟨rfl,kz2⟩)
  have Z2:Kept v5.heap.size v5.heap.size v5 z2:=Z1.trans (kz2.mono Z1.size (λi hi _=>zD (zC hi Z1.size)))
  refine hK.out _ _ (Z2) (λhH=>?_)
  clear hK K;refine wpAnyH_done (by kernel_rfl) ?_ _
  refine NoPanic.normal ?_;obtain⟨N9,hN9⟩:∃x,x=(Nt.cells ⟨f.id,f.depth,me,(s:Int),SS⟩).toArray:=⟨_,rfl⟩;have r14:=rK R5.out Z2;have n14:=F5.out.block nb (zF RN.out) (.inr HNB.out);have n15:=rK (n14.trans RN.out) Z2;rw[<-hN9] at r14;have R14:=hid r14;have N15:=hid n15;have HN9:=hid (show N9.size=36 by rw[hN9];exact HSZ.out _)
  have HA9:=hid (show N9.all (·.oneCell')=true by rw[hN9];exact Nt.all _)
  have HN9E:=hid hN9;clear r14 n14 n15 hN9
  go_upto_region 14 with fail
  refine zA ?_;refine wLk 25 (.tmp 10) rfl (nn) (0) rfl (.agg N9) (run_loadVar_row z2 nn 25 25 _ (0,0) _ R14.out Tryz.underlying25 rfl (noteInfo HN9.out)) ?_
  simp only[Act.put,sA,sB,sC];refine wpList_store_row rfl 25 _ _ rfl (nb) N9 rfl rfl 25 NZ N15.out (noteInfo HN9.out) (by rw[HN9.out,HNZ.out]) HA9.out ?_
  simp only[Act.put];refine wW λK hK=>?_;go_simp;apply hK;clear hK K;have hrz:=setRow_heap z2 nb _ N9 _ _ N15.out;have gz:=Qa6 z2 nb N9;have ez:=((E5.out.kept Z2).aside (b:=nb) (.inl (.inl (.inr rfl))) HNB.out gz).mono (X':=X) (λk hk=>.inl (.inl (.inl hk)))
  have fz:=((K1.out.fr (B:=Out base eb)).trans (F5.out.trans Z2.fr)).local14 gz HNW.out;generalize z2.setRow nb N9=z3 at hrz ez fz |-;have RZ:=hid hrz;have EZ:=hid ez;have FZ:=hid fz;clear hrz gz ez fz;go_wp2;refine bodyPost_ret (Qht rfl _ _ nb 25 _ (0,0) _ rfl RZ.out Tryz.underlying25 rfl (noteInfo HN9.out)) rfl ?_
  exact⟨M,kk,by rw[HN9E.out,HSS.out];rfl,HTKN.out,EZ.out,FZ.out⟩
end Go.Proofs.YtnlbgggnpoeleaaGreatDoor
