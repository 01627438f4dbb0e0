/-
 KeyCtx; KeyApp; KeyBuild: several texts in one.
-/
import Derived.Test.YtnlbgggnpoeleaaGreatDoorKA
import Derived.Test.YtnlbgggnpoeleaaGreatDoorIC
import Derived.Test.YtnlbgggnpoeleaaGreatDoorGE
set_option maxRecDepth 100000
set_option maxHeartbeats 6400000
namespace Go.Proofs.YtnlbgggnpoeleaaGreatDoor
open Go.RowKit Go.Lib
open List renaming setIfInBounds_toArray -> sA, set_cons_zero -> sB, set_cons_succ -> sC
open BigFrame renaming wpList_want -> wQ
namespace Ky
def ctxOf (p:List UInt8)(n:Int)(t s:List UInt8):List UInt8:=if 0<=n/\n<=4611686018427387903 then ctx p n.toNat t s else []
def ctxSt (p:List UInt8)(n:Int)(t s:List UInt8):Option (List UInt8):=pRaw (pRaw (pNum (pRaw (some []) p) n) t) s
theorem Qmv {st:Option (List UInt8)}{n:Nat}(h:Short st n)(x:Int):Short (pNum st x) (n+8):=λl hl=>by
 unfold pNum at hl
 split at hl
 ·cases st with
  | none=>cases hl
  | some m=>
   cases hl
   have:=h m rfl;have:=Wm.enc_length_le x.toNat;rw[zE]
   omega
 ·cases hl
theorem short_more {st:Option (List UInt8)}{n m:Nat}(h:Short st n)(hm:n<=m):Short st m:=λl hl=>Nat.le_trans (h l hl) hm
end Ky
structure Po (w0:World) (base b:Nat) (st:Option (List UInt8)) (w:World):Prop where
 wr:Wr w base b st
 tab:Tab w
 kp:Kept base b w0 w
 fr:Fr b w0 w
 pos:0<b
theorem Po.next {w0 w w1:World}{base b:Nat}{st s1:Option (List UInt8)}(h:Po w0 base b st w)(h1:WrV w1 base b (.pointer (some ⟨b,0,none⟩)) s1)(k:Kept base b w w1)(f:Fr b w w1):Po w0 base b s1 w1:=
 ⟨Qtl h1,h.tab.kept k (zC h.pos (Nat.le_of_lt h.wr.lt)) h.pos,h.kp.trans k,h.fr.trans f,h.pos⟩
theorem Po.box {w0 w:World}{base b:Nat}{st:Option (List UInt8)}(h:Po w0 base b st w){lb:Nat}{cs:Array Value}{t:TypeId}(hb:w0.heap[lb]?=some (.cells cs t (0,0)))(hne:lb≠b)(ht:t≠5):w.heap[lb]?=some (.cells cs t (0,0)):=
 h.fr lb _ hb hne (λ_ _ e=>by injection e with _ e2;exact ht e2)
theorem Po.num {w0 w:World}{base b:Nat}{st:Option (List UInt8)}(h:Po w0 base b st w)(n:Int)(hs:Short st 100000):Calls Tryz.prog 60 #[.pointer (some ⟨b,0,none⟩),.int .i64 n] w λe w'=>e=.returned (.tuple #[])/\Po w0 base b (pNum st n) w':=by
 refine(Qqe base b _ st n w (.inr ⟨rfl,h.wr⟩) h.tab (Ky.short_more hs (by decide))).mono ?_
 rintro e w' ⟨rfl,h1,k,f⟩;exact⟨rfl,h.next h1 k f⟩
theorem Po.hash {w0 w:World}{base b:Nat}{st:Option (List UInt8)}(h:Po w0 base b st w)(x:List UInt8)(hx:x.length=32)(hs:Short st 100000):Calls Tryz.prog 57 #[.pointer (some ⟨b,0,none⟩),.agg (bY x).toArray] w λe w'=>e=.returned (.tuple #[])/\Po w0 base b (pRaw st x) w':=by
 refine(Qtq base b _ st x hx w (.inr ⟨rfl,h.wr⟩) (Ky.short_more hs (by decide))).mono ?_
 rintro e w' ⟨rfl,h1,k,f⟩;exact⟨rfl,h.next h1 k f⟩
theorem Po.ends {w0 w:World}{base b:Nat}{st:Option (List UInt8)}(h:Po w0 base b st w):Calls Tryz.prog 62 #[.pointer (some ⟨b,0,none⟩)] w λe w'=>∃E:Int,e=.returned (.tuple #[.string (str (st.getD [])),.int .i64 E])/\w=w':=by
 cases st with
 | none=>exact(Qvq base b w h.wr).mono λe w' ⟨h1,h2⟩=>⟨1,h1,h2⟩
 | some l=>exact(Qtr base b l w h.wr).mono λe w' ⟨h1,h2⟩=>⟨0,h1,h2⟩
theorem Tab.onto11 {w x:World}(h:Tab w)(k:Kept w.heap.size w.heap.size w x):Tab x:=h.kept k h.lt h.lt
theorem Qvk (p:Option Addr)(k:List UInt8)(hk:k.length=32)(n:Nat)(hn:n<64)(w:World)(tab:Tab w)(Post:World->Prop)
  (hdv:∀(x:World) (rb:Nat),Kept w.heap.size w.heap.size w x->w.heap.size<=rb->x.heap[rb]?=some (.cells zY 23 (0,0))->Calls Tryz.prog 70 #[.pointer p,.agg (bY k).toArray,.string ⟨#[97,112,112]⟩,.string (str (Wm.enc n))] x λe w'=>e=.returned (.agg (bY (Ky.app k n)).toArray)/\w'.heap[rb]?=some (.cells zY 23 (0,0))/\Post (w'.setRow rb (bY (Ky.app k n)).toArray)) :
  Calls Tryz.prog 97 #[.pointer p,.agg (bY k).toArray,.int .i64 (n:Int)] w λe w'=>e=.returned (.agg (bY (Ky.app k n)).toArray)/\Post w':=by
 have htab:=hid tab;have HDV:=hid hdv;have HN1:=hid (λw0 base b (x:World) (u:Po w0 base b (some []) x)=>u.num n (λl hl=>by cases hl;exact Nat.zero_le _))
 have HE1:=hid (λw0 base b (x:World) (u:Po w0 base b (pNum (some []) n) x)=>u.ends)
 have hpn:(pNum (some []) (n:Int)).getD []=Wm.enc n:=by
  unfold pNum;rw[zG (by omega),Int.toNat_natCast]
  rfl
 rw[hpn] at HE1;have HLD:=hid (λ(u:World) (b:Nat) (h:u.heap[b]?=some (.cells (bY k).toArray 23 (0,0)))=>Qje hk h)
 have HIU:=hid (Qgp (Ky.app_length k n));have HZU:=hid (Qjh (Ky.app_length k n));have HAU:=hid (Qae (Ky.app k n));have hd:decide ((n:Int)<0)=false:=decide_eq_false (by omega)
 have hd2:decide ((n:Int)>=64)=false:=decide_eq_false (by omega)
 generalize str (Wm.enc n)=tx at HE1 HDV;generalize pNum (some []) (n:Int)=st at HN1 HE1;generalize (bY (Ky.app k n)).toArray=cu at HDV HIU HZU HAU |-;generalize (bY k).toArray=kc at HDV HLD |-;clear hk hn tab hdv hpn
 go_enter Tryz.func97,Tryz.ntmps97
 go_upto_region 0 with fail
 refine zA ?_;refine wW λK hK=>?_;go_simp;apply hK;clear hK K;have kn:Kept w.heap.size w.heap.size w (w.alloc (.cells kc 23)):=zI.alloc (zB _) _
 have rpb:=Qaa w (.cells kc 23)
 have Kw1:=kn;generalize w.alloc (.cells kc 23)=w1 at kn rpb Kw1  |-
 obtain⟨pb,hpb⟩:∃n,n=w.heap.size:=⟨_,rfl⟩;rw[<-hpb] at rpb
 (try rw[<-hpb])
 clear hpb kn;refine @Qas _ _ _ _ _ _ _ _ ?_ 23 rfl _ (Qoa _) ?_;kernel_rfl
 simp only[Act.put,sA,sB,sC];have kn:Kept w1.heap.size w1.heap.size w1 (w1.alloc (.cells zY 23)):=zI.alloc (zB _) _
 have rrb:=Qaa w1 (.cells zY 23)
 replace rpb:=rK rpb kn
 have Kw2:=Kw1.onto kn;have HRB:Hid (w.heap.size<=w1.heap.size):=hid (Kw1.size);generalize w1.alloc (.cells zY 23)=w2 at kn rrb Kw2 rpb |-
 obtain⟨rb,hrb⟩:∃n,n=w1.heap.size:=⟨_,rfl⟩;rw[<-hrb] at rrb HRB
 (try rw[<-hrb])
 clear hrb kn Kw1;have Rpb:=hid rpb;clear rpb;have Rrb:=hid rrb;clear rrb;have KW:=hid Kw2;clear Kw2
 go_upto_region 3 with fail
 refine zA ?_;refine wW λK hK=>?_;go_simp;go_at_call 27
 refine(Qja w2).mono ?_;rintro e w4 ⟨rfl,hw4,k4,s4⟩;have U4:Hid (Po w4 (w2.heap.size+1) w2.heap.size (some []) w4):=hid ⟨hw4,htab.out.onto11 (KW.out.onto k4),Kept.refl _ _ _,Fr.refl _ _,zC htab.out.lt (KW.out.size)⟩;have Rpb4:=hid (rK Rpb.out k4);have Rrb4:=hid (rK Rrb.out k4);have Npb:Hid (pb≠w2.heap.size):=hid (zD (zF Rpb.out));have Nrb:Hid (rb≠w2.heap.size):=hid (zD (zF Rrb.out));have K4:=hid (KW.out.onto k4);have HS3:=hid KW.out.size;clear hw4 k4 s4 Rpb Rrb KW;generalize w2.heap.size=wb at U4 Npb Nrb HS3 |-;apply hK;clear hK K;refine wW λK hK=>?_;go_simp;apply hK;clear hK K
 go_upto_region 4 with fail
 refine zA ?_;iterate 2(refine wW λK hK=>?_;go_simp;apply hK;clear hK K)
 refine wW λK hK=>?_;go_simp;go_at_call 60
 refine(HN1.out _ _ _ _ U4.out).mono ?_;rintro e w5 ⟨rfl,u5⟩;have U5:=hid u5;clear u5;apply hK;clear hK K
 go_upto_region 5 with fail
 refine zA ?_;refine wW λK hK=>?_;go_simp;apply hK;clear hK K;refine wW λK hK=>?_;go_simp;go_at_call 62
 refine(HE1.out _ _ _ _ U5.out).mono ?_;rintro e w6 ⟨E,rfl,rfl⟩;apply hK;clear hK K;iterate 5(refine wW λK hK=>?_;go_simp;apply hK;clear hK K)
 go_upto_region 6 with fail
 have R5:=U5.out.box Rrb4.out Nrb.out (by decide)
 have K5:Kept w.heap.size w.heap.size w w5:=by
  have k8:=U5.out.kp;have hs3:=HS3.out;exact K4.out.trans (k8.mono (by omega) (λi hi _=>by omega))
 have HDR:=hid (HDV.out w5 rb K5 HRB.out R5);clear R5 K5;refine zA ?_;refine wW λK hK=>?_;go_simp;apply hK;clear hK K;refine wLk 23 (.tmp 4) rfl (pb) (0) rfl (.agg kc) (HLD.out _ _ (U5.out.box Rpb4.out Npb.out (by decide))) ?_
 simp only[Act.put,sA,sB,sC];refine wW λK hK=>?_;go_simp;apply hK;clear hK K;refine wW λK hK=>?_;go_simp;go_at_call 70
 refine(HDR.out).mono ?_;rintro e w7 ⟨rfl,r7,p7⟩;have R7:=hid r7;have P7:=hid p7;clear r7 p7;apply hK;clear hK K;refine wpList_store_row rfl 23 _ _ rfl (rb) cu rfl rfl 23 zY (R7.out) HIU.out HZU.out HAU.out ?_
 simp only[Act.put];have R9:=setRow_heap w7 rb zY cu _ _ (R7.out);have k9:=P7.out;generalize w7.setRow rb cu=w9 at R9 k9 |-;go_wp2;refine bodyPost_ret (results_cell_row rfl _ _ rb 23 cu (0,0) _ rfl R9 Tryz.underlying23 rfl HIU.out) rfl ?_
 exact⟨rfl,k9⟩
theorem Qvi (k:List UInt8)(hk:k.length=32)(n:Nat)(hn:n<64)(w:World)(tab:Tab w):Calls Tryz.prog 97 #[.pointer none,.agg (bY k).toArray,.int .i64 (n:Int)] w λe w'=>e=.returned (.agg (bY (Ky.app k n)).toArray)/\Kept w.heap.size w.heap.size w w':=by
 refine Qvk none k hk n hn w tab (Kept w.heap.size w.heap.size w) (λx rb kx hrb rx=>?_)
 refine(Qi4 k (hid hk) ⟨#[97,112,112]⟩ (str (Wm.enc n)) (hid (by decide)) (hid (by rw[Qai];have:=Wm.enc_length_le n;omega)) x).mono ?_
 rintro e w' ⟨rfl,k7⟩;exact⟨rfl,rK rx k7,Qak (kx.onto k7) rb hrb _⟩
theorem Qkd (k:List UInt8)(hk:k.length=32)(n:Nat)(hn:n<64)(w:World):Calls Tryz.prog 75 #[.agg (bY k).toArray,.int .i64 (n:Int)] w λe w'=>e=.returned (.agg (bY (Ky.app k n)).toArray)/\Kept w.heap.size w.heap.size w w':=by
 have HNU:=hid (λu=>refnum n u (by omega))
 have HDV:=hid (λu=>(show Calls Tryz.prog 76 #[.agg (bY k).toArray,.string ⟨#[97,112,112]⟩,.string (str (Wm.enc n))] u λe w'=>e=.returned (.agg (bY (Ky.app k n)).toArray)/\Kept u.heap.size u.heap.size u w' from by
  have:=Qbf k (hid hk) ⟨#[97,112,112]⟩ (str (Wm.enc n)) (hid (by decide)) (hid (by rw[Qai];have:=Wm.enc_length_le n;omega)) u
  rw[show Mc.derive k (⟨#[97,112,112]⟩:ByteArray).data.toList (str (Wm.enc n)).data.toList=Ky.app k n from rfl] at this
  exact this))
 have HLK:=hid (λ(u:World) (b:Nat) (h:u.heap[b]?=some (.cells (bY k).toArray 22 (0,0)))=>Qhb hk h)
 have HIU:=hid (Qgo (Ky.app_length k n));have HZU:=hid (Qjh (Ky.app_length k n));have HAU:=hid (Qae (Ky.app k n));generalize str (Wm.enc n)=tx at HNU HDV;generalize (bY (Ky.app k n)).toArray=cu at HDV HIU HZU HAU |-;generalize (bY k).toArray=kc at HDV HLK |-;clear hk hn
 go_enter Tryz.func75,Tryz.ntmps75
 go_upto_region 0 with fail
 refine zA ?_;refine wW λK hK=>?_;go_simp;apply hK;clear hK K;have kn:Kept w.heap.size w.heap.size w (w.alloc (.cells kc 22)):=zI.alloc (zB _) _
 have rpb:=Qaa w (.cells kc 22)
 have Kw1:=kn;generalize w.alloc (.cells kc 22)=w1 at kn rpb Kw1  |-
 obtain⟨pb,hpb⟩:∃n,n=w.heap.size:=⟨_,rfl⟩;rw[<-hpb] at rpb
 (try rw[<-hpb])
 clear hpb kn;refine @Qas _ _ _ _ _ _ _ _ ?_ 22 rfl _ (Qj5 _) ?_;kernel_rfl
 simp only[Act.put,sA,sB,sC];have kn:Kept w1.heap.size w1.heap.size w1 (w1.alloc (.cells zY 22)):=zI.alloc (zB _) _
 have rrb:=Qaa w1 (.cells zY 22)
 replace rpb:=rK rpb kn
 have Kw2:=Kw1.onto kn;have HRB:Hid (w.heap.size<=w1.heap.size):=hid (Kw1.size);generalize w1.alloc (.cells zY 22)=w2 at kn rrb Kw2 rpb |-
 obtain⟨rb,hrb⟩:∃n,n=w1.heap.size:=⟨_,rfl⟩;rw[<-hrb] at rrb HRB
 (try rw[<-hrb])
 clear hrb kn Kw1;have Rpb:=hid rpb;clear rpb;have Rrb:=hid rrb;clear rrb;have KW:=hid Kw2;clear Kw2
 go_upto_region 1 with fail
 have HLA:=hid (λ(x:World) (k:Kept w2.heap.size w2.heap.size w2 x)=>HLK.out x pb (rK Rpb.out k))
 obtain⟨wd,hwd⟩:∃wd,wd=w2.drew:=⟨_,rfl⟩;have KD:Kept w2.heap.size w2.heap.size w2 wd:=by rw[hwd];exact zI.drew
 refine wp_region_noPanic ?_;refine Qa9 4 (S:=λw'=>Kept w2.heap.size w2.heap.size w2 w') (by kernel_rfl) (by rw[<-hwd];exact KD) (λhH=>?_)
 rw[<-hwd] at hH |-;clear hwd;refine tkT (i:=0) 5 (.agg kc) rfl (yK (by kernel_rfl) 22 _ rfl (pb) (0) rfl (.agg kc) (HLA.out)) hH ?_
 simp only[sA,sB,sC];refine tkH (i:=1) 6 rfl hH ?_
 apply zH
 ·intro w9 h9
  go_simp
  first|done|rfl
 simp only[sA,sB,sC];refine Qa2 (i:=2) (by kernel_rfl) rfl (λK hK=>?_)
 rw[zG (by rfl)]
 go_simp
 go_wp2_with (go_at_call 56;refine(HNU.out _).mono ?_;rintro e w5 ⟨rfl,k5⟩)
 have KS:Kept w2.heap.size w2.heap.size w2 w5:=KD.onto k5;have K5:=KS;refine hK.out _ _ KS (λhH=>?_)
 clear hK K KS;refine Qa2 (i:=3) (by kernel_rfl) rfl (λK hK=>?_)
 rw[zG (by rfl)]
 go_simp
 go_wp2_with (go_at_call 76;refine(HDV.out _).mono ?_;rintro e w8 ⟨rfl,k8⟩)
 have KS:Kept w2.heap.size w2.heap.size w2 w8:=K5.onto k8;have K8:=KS;have R9:=rK Rrb.out K8;refine hK.out _ _ KS (λhH=>?_)
 clear hK K KS;refine Qb4 (by kernel_rfl) rfl (λK hK=>?_)
 rw[zG (by rfl)]
 refine Qdi 22 _ _ rfl rfl rb cu rfl rfl 22 zY R9 HIU.out HZU.out HAU.out ?_
 refine hK.out _ _ ?_;clear hK K;refine Qb5 (by kernel_rfl) ?_ _
 refine NoPanic.normal ?_;clear hH;have R10:=setRow_heap w8 rb _ cu _ _ R9;have k10:Kept w.heap.size w.heap.size w (w8.setRow rb cu):=Qak (KW.out.onto K8) rb HRB.out cu;generalize w8.setRow rb cu=w10 at R10 k10 |-;go_wp2;refine bodyPost_ret (results_cell_row rfl _ _ rb 22 cu (0,0) _ rfl R10 Tryz.underlying22 rfl HIU.out) rfl ?_
 exact⟨rfl,k10⟩
theorem Qc2 {p:List UInt8->Prop}(h:∀b0 b1 b2 b3 b4 b5 b6 b7 b8 b9 b10 b11 b12 b13 b14 b15 b16 b17 b18 b19 b20 b21 b22 b23 b24 b25 b26 b27 b28 b29 b30 b31,p [b0,b1,b2,b3,b4,b5,b6,b7,b8,b9,b10,b11,b12,b13,b14,b15,b16,b17,b18,b19,b20,b21,b22,b23,b24,b25,b26,b27,b28,b29,b30,b31]):∀l:List UInt8,l.length=32->p l:=λl hl=>
 match l,hl with
 | [b0,b1,b2,b3,b4,b5,b6,b7,b8,b9,b10,b11,b12,b13,b14,b15,b16,b17,b18,b19,b20,b21,b22,b23,b24,b25,b26,b27,b28,b29,b30,b31],_=>h b0 b1 b2 b3 b4 b5 b6 b7 b8 b9 b10 b11 b12 b13 b14 b15 b16 b17 b18 b19 b20 b21 b22 b23 b24 b25 b26 b27 b28 b29 b30 b31
namespace Ky
def st (j c:List UInt8):Nat->List (List UInt8)
 | 0=>[j,z32,z32,z32,z32,z32,z32]
 | i+1=>(st j c i).set (i+1) (key j c (i+1))
def src:Nat->Nat
 | 0=>0
 | 1=>0
 | _=>2
def lab:Nat->ByteArray
 | 0=>⟨#[119,101,108,99,111,109,101]⟩
 | 1=>⟨#[101,112,111,99,104]⟩
 | 2=>⟨#[105,110,105,116]⟩
 | 3=>⟨#[99,111,110,102,105,114,109]⟩
 | 4=>⟨#[97,112,112,115]⟩
 | _=>⟨#[101,120,112,111,114,116]⟩
def cx (c:ByteArray):Nat->ByteArray
 | 1=>c
 | _=>⟨#[]⟩
theorem st_length (j c:List UInt8):∀i,(st j c i).length=7
 | 0=>rfl
 | i+1=>by rw[st,List.length_set,st_length j c i]
theorem st_all {j:List UInt8}(hj:j.length=32)(c:List UInt8):∀i,∀x∈st j c i,x.length=32
 | 0=>λx hx=>by
  rcases List.mem_cons.1 hx with rfl|hx
  ·exact hj
  ·have:x=z32:=by simpa using hx
   rw[this];rfl
 | i+1=>λx hx=>by
  rcases List.mem_or_eq_of_mem_set hx with h|h
  ·exact st_all hj c i x h
  ·rw[h];exact key_length hj c _
theorem key_step (j:List UInt8)(c:ByteArray)(i:Nat)(hi:i<6):key j c.data.toList (i+1)=Mc.derive (key j c.data.toList (src i)) (lab i).data.toList (cx c i).data.toList:=by
 match i,hi with
 | 0,_=>rfl
 | 1,_=>rfl
 | 2,_=>rfl
 | 3,_=>rfl
 | 4,_=>rfl
 | 5,_=>rfl
theorem st_src (j c:List UInt8)(i:Nat)(hi:i<6):(st j c i)[src i]?=some (key j c (src i)):=by
 match i,hi with
 | 0,_=>rfl
 | 1,_=>rfl
 | 2,_=>rfl
 | 3,_=>rfl
 | 4,_=>rfl
 | 5,_=>rfl
theorem lab_size (i:Nat):(lab i).size<=100:=by
 unfold lab
 split <;> decide
theorem cx_size (c:ByteArray)(i:Nat):(cx c i).size<=c.size:=by
 unfold cx
 split
 ·exact zB _
 ·exact Nat.zero_le _
theorem flat_part {L:List (List UInt8)}(_h32:∀x∈L,x.length=32)(m:Nat)(x:List UInt8)(hx:L[m]?=some x):L.flatten=(L.take m).flatten++(x++(L.drop (m+1)).flatten):=by
 have hm:m<L.length:=by
  rcases Nat.lt_or_ge m L.length with h|h
  ·exact h
  ·rw[List.getElem?_eq_none h] at hx;cases hx
 have e:x=L[m]:=by rw[List.getElem?_eq_getElem hm] at hx;exact(Option.some.inj hx).symm
 subst e
 conv=>lhs;rw[<-List.take_append_drop m L,List.drop_eq_getElem_cons hm]
 rw[List.flatten_append,List.flatten_cons]
theorem flat_length {L:List (List UInt8)}(h32:∀x∈L,x.length=32):L.flatten.length=32*L.length:=by
 induction L with
 | nil=>rfl
 | cons x L ih=>
  rw[List.flatten_cons,zE,List.length_cons,h32 x (List.mem_cons_self ..),ih (λy hy=>h32 y (List.mem_cons_of_mem _ hy))]
  omega
theorem take_length {L:List (List UInt8)}(h32:∀x∈L,x.length=32)(m:Nat)(hm:m<=L.length):(L.take m).flatten.length=32*m:=by
 rw[flat_length (λx hx=>h32 x (List.mem_of_mem_take hx)),List.length_take,Nat.min_eq_left hm]
theorem flat_set {L:List (List UInt8)}(m:Nat)(x:List UInt8)(hm:m<L.length):(L.set m x).flatten=(L.take m).flatten++(x++(L.drop (m+1)).flatten):=by
 rw[List.set_eq_take_append_cons_drop,zG hm,List.flatten_append,List.flatten_cons]
def flat (j c:List UInt8)(i:Nat):List UInt8:=(st j c i).flatten
theorem flat_len {j:List UInt8}(hj:j.length=32)(c:List UInt8)(i:Nat):(flat j c i).length=224:=by
 rw[flat,flat_length (st_all hj c i),st_length]
def secs (j c:List UInt8):List UInt8:=flat j c 6
end Ky
theorem Qmx {w:World}{b:Nat}{t:TypeId}{L:List (List UInt8)}(h32:∀x∈L,x.length=32)(h:w.heap[b]?=some (.cells (bY L.flatten).toArray t (0,0)))(m:Nat)(x:List UInt8)(hx:L[m]?=some x):w.rangeAt b (32*m) (bY x):=λj v hj=>by
 have hm:m<L.length:=by
  rcases Nat.lt_or_ge m L.length with h|h
  ·exact h
  ·rw[List.getElem?_eq_none h] at hx;cases hx
 have ht:=Ky.take_length h32 m (Nat.le_of_lt hm);rw[cell_of_row w b (32*m+j) _ _ _ h,List.getElem?_toArray,Ky.flat_part h32 m x hx,Qax,Qax];rw[List.getElem?_append_right (by rw[bZ,ht];omega),bZ,ht,Nat.add_sub_cancel_left]
 have h2:j<(bY x).length:=by
  rcases Nat.lt_or_ge j (bY x).length with h|h
  ·exact h
  ·rw[List.getElem?_eq_none h] at hj;cases hj
 rw[List.getElem?_append_left h2];exact hj
theorem Qoh {w:World}{b:Nat}{cs:Array Value}{t:TypeId}(h:w.heap[b]?=some (.cells cs t (0,0))){o n:Nat}(hn:o+n<=cs.size):w.there b o n:=λj hj=>by
 refine⟨?_,by simp[World.frozen?,h]⟩
 rw[cell_of_row w b (o+j) _ _ _ h,Array.getElem?_eq_getElem (by omega)]
 rfl
theorem Qb2 {b:Nat}{t:TypeId}:∀(vs A B C:List Value) (w:World),vs.length=B.length->w.heap[b]?=some (.cells (A++(B++C)).toArray t (0,0))->(w.setCells b A.length vs).heap[b]?=some (.cells (A++(vs++C)).toArray t (0,0))
 | [],A,[],C,w,_,h=>h
 | v::vs,A,x::B,C,w,hl,h=>by
  have h1:=Qaj h A.length v;have e1:(A++(x::B++C)).set A.length v=(A++[v])++(B++C):=by simp
  rw[e1] at h1;have:=Qb2 vs (A++[v]) B C _ (by simpa using hl) h1
  rw[World.setCells];have e2:(A++[v]).length=A.length+1:=by simp
  rw[e2] at this;have e3:(A++[v])++(vs++C)=A++(v::vs++C):=by simp
  rw[e3] at this;exact this
theorem Qcv {b i:Nat}(hne:i≠b):∀(vs:List Value) (o:Nat) (x:World),(x.setCells b o vs).heap[i]?=x.heap[i]?
 | [],_,_=>rfl
 | _::r,o,_=>(Qcv hne r (o+1) _).trans (Below.heap_setCell _ _ _ _ hne)
theorem Qdo {w:World}(b:Nat)(hb:w.heap.size<=b):∀(vs:List Value) (o:Nat) (x:World),Kept w.heap.size w.heap.size w x->Kept w.heap.size w.heap.size w (x.setCells b o vs)
 | [],_,_,h=>h
 | v::r,o,_,h=>Qdo b hb r (o+1) _ (h.set (.inr hb) o v)
theorem Qrm {w:World}{b:Nat}{t:TypeId}{L:List (List UInt8)}(h32:∀x∈L,x.length=32)(h:w.heap[b]?=some (.cells (bY L.flatten).toArray t (0,0)))(m:Nat)(hm:m<L.length)(x:List UInt8)(hx:x.length=32):(w.setCells b (32*m) (bY x)).heap[b]?=some (.cells (bY (L.set m x).flatten).toArray t (0,0)):=by
 rw[Ky.flat_part h32 m L[m] (List.getElem?_eq_getElem hm),Qax,Qax] at h;have:=Qb2 (bY x) (bY (L.take m).flatten) (bY L[m]) (bY (L.drop (m+1)).flatten) w (by rw[bZ,bZ,hx,h32 _ (List.getElem_mem hm)]) h
 rw[bZ,Ky.take_length h32 m (Nat.le_of_lt hm)] at this;rw[Ky.flat_set m x hm,Qax,Qax];exact this
def Qba:Array Value:=(bY (List.replicate 224 0)).toArray
theorem Qlg (w:World):(Instr.alloc 86 true (.tuple #[])).run Tryz.prog w=.ok (.pointer (some ⟨w.heap.size,0,none⟩)) (w.alloc (.cells Qba 86)):=by kernel_rfl
theorem secInfo {l:List UInt8}(h:l.length=224):(Tryz.prog.info? 86).map (·.size)=some (bY l).toArray.size:=by rw[List.size_toArray,bZ,h];kernel_rfl
theorem secSize {l:List UInt8}(h:l.length=224):Qba.size=(bY l).toArray.size:=by rw[show(bY l).toArray.size=l.length by rw[List.size_toArray,bZ],h];rfl
theorem Qur {w:World}{b:Nat}{l:List UInt8}(hl:l.length=224)(h:w.heap[b]?=some (.cells (bY l).toArray 86 (0,0))):(loadVar 86 ⟨b,0,none⟩).run Tryz.prog w=.ok (.agg (bY l).toArray) w:=
 run_loadVar_row w b 86 86 _ (0,0) _ h Tryz.underlying86 rfl (secInfo hl)
theorem Qqt {w:World}{b:Nat}{t:TypeId}{L:List (List UInt8)}(h32:∀x∈L,x.length=32)(h:w.heap[b]?=some (.cells (bY L.flatten).toArray t (0,0)))(m:Nat)(x:List UInt8)(hx:L[m]?=some x):(loadVar 23 ⟨b,32*m,none⟩).run Tryz.prog w=.ok (.agg (bY x).toArray) w:=
 run_loadVar_mid w b (32*m) 23 (bY x) _ (Qmx h32 h m x hx) Tryz.underlying23 rfl (by have:=Qgp (h32 x (List.mem_of_getElem? hx));simpa using this)
theorem Qsh {w:World}{b:Nat}{t:TypeId}{L:List (List UInt8)}(h32:∀x∈L,x.length=32)(h:w.heap[b]?=some (.cells (bY L.flatten).toArray t (0,0)))(m:Nat)(x:List UInt8)(hx:L[m]?=some x):(loadVar 22 ⟨b,32*m,none⟩).run Tryz.prog w=.ok (.agg (bY x).toArray) w:=
 run_loadVar_mid w b (32*m) 22 (bY x) _ (Qmx h32 h m x hx) Tryz.underlying22 rfl (by have:=Qgo (h32 x (List.mem_of_getElem? hx));simpa using this)
end Go.Proofs.YtnlbgggnpoeleaaGreatDoor
