/-
 ShaEnding; ShaOf; ShaPart: several texts in one.
-/
import Derived.Test.YtnlbgggnpoeleaaGreatDoorGB
import Derived.Test.YtnlbgggnpoeleaaGreatDoorShelf
import Derived.Lib.RepeatB
set_option maxRecDepth 100000
set_option maxHeartbeats 1600000
namespace Go.Proofs.YtnlbgggnpoeleaaGreatDoor
open Go.RowKit
open Go.Lib (hid)
def padEnd (n i:Nat):List UInt8:=[128]++List.replicate (Sm.zeros n) (0:UInt8)++(Sm.be8 (8*n)).take i
theorem Qc6 (n i:Nat)(hi:i<=8):(padEnd n i).length=1+Sm.zeros n+i:=by
 simp only[padEnd,zE,List.length_replicate,List.length_take,Qdg,List.length_singleton]
 omega
theorem Qoz (n i:Nat)(hi:i<8):padEnd n i++[UInt8.ofNat (8*n/256 ^ (7-i))]=padEnd n (i+1):=by
 have h8:i<(Sm.be8 (8*n)).length:=by rw[Qdg];exact hi
 rw[padEnd,padEnd,List.append_assoc _ _ [_],List.take_succ_eq_append_getElem h8]
 congr 3
 simp[Sm.be8]
theorem Qr3 (l:List UInt8):l++padEnd l.length 8=Sm.pad l:=by
 rw[padEnd,List.take_of_length_le (by rw[Qdg];exact zB _),Sm.pad]
 simp only[List.append_assoc]
theorem Qhu:∀ c,Lib.repeatL [0] c=List.replicate c (0:UInt8)
 | 0=>rfl
 | c+1=>by rw[Lib.repeatL,Qhu c];rfl
theorem Qnv (n:Nat)(w:World)(hn:Hid (n<1152921504606846976)):
  Calls Tryz.prog 158 #[.int .u64 (n:Int)] w λe w'=>e=.returned (.string (str (padEnd n 8)))/\Kept w.heap.size w.heap.size w w':=by
 have hz:Sm.zeros n<64:=Nat.mod_lt _ (by decide)
 have h1:((n:Int)+1)%18446744073709551616=(n:Int)+1:=by have:=hn.out;omega
 have h2:(n:Int)*8%18446744073709551616=(n:Int)*8:=by have:=hn.out;omega
 go_enter Tryz.func158,Tryz.ntmps158
 go_wp2_with fail
 have hzz:(56-((n:Int)+1))%64=((Sm.zeros n:Nat):Int):=by unfold Sm.zeros;omega
 rw[hzz];clear hzz;refine(Tryz.strings_Repeat ⟨#[0]⟩ (Sm.zeros n) w (by omega) (by show 1*Sm.zeros n<=_;omega)).mono ?_
 rintro e w1 ⟨rfl,b1⟩;have k1:Kept w.heap.size w.heap.size w w1:=Kept.ofBelow b1 (zB _);rw[show(⟨#[0]⟩:ByteArray).data.toList=[0] from rfl,Qhu]
 go_wp2_with fail
 have hS0:(⟨#[128]⟩++⟨Array.replicate (Sm.zeros n) 0⟩:ByteArray).data.toList=padEnd n 0:=by
  simp[padEnd,ByteArray.data_append]
 generalize (⟨#[128]⟩++⟨Array.replicate (Sm.zeros n) 0⟩:ByteArray)=S at hS0 |-
 have hSs:S.size=1+Sm.zeros n:=by
  have:S.data.toList.length=S.size:=by simp
  rw[<-this,hS0,Qc6 _ _ (by decide)]
  rfl
 rw[run_bytes_of_string (P:=Tryz.prog) w1 9 106 5 S Tryz.underlying9 Tryz.underlying106 Tryz.underlying5]
 have hbuf:=Buf.made w1 S (by unfold maxLen;omega)
 have k4:Kept w1.heap.size w1.heap.size w1 (w1.drew.alloc (.cells (bytesRow S (grownCap w1 S.size 0 5)) 5 ((bytesRow S (grownCap w1 S.size 0 5)).size,(bytesRow S (grownCap w1 S.size 0 5)).size+1))):=zI.drew.alloc (zB _) _
 rw[hS0] at hbuf;generalize w1.drew.alloc (.cells (bytesRow S (grownCap w1 S.size 0 5)) 5 ((bytesRow S (grownCap w1 S.size 0 5)).size,(bytesRow S (grownCap w1 S.size 0 5)).size+1))=w4 at hbuf k4 |-
 generalize Value.slice (some ⟨w1.heap.size,0,none⟩) S.size (grownCap w1 S.size 0 5)=v4 at hbuf |-
 obtain⟨B,hB⟩:∃B,B=w1.heap.size:=⟨_,rfl⟩;rw[<-hB] at hbuf k4;have hs4:B<=w4.heap.size:=by rw[hB];exact k4.size
 have K1:Hid (Kept w.heap.size w.heap.size w w1):=hid k1;have hwB:Hid (w.heap.size<=B):=hid (by rw[hB];exact k1.size)
 have HB4:=hid hbuf;have K4:=hid k4;obtain⟨i0,hi,hz0,hz1,hz2⟩:=Qhp;clear hbuf k4 k1 b1 hS0 hSs hB
 go_wp2_with fail
 go_loopw [5,7] (λv i w9=>∃j:Nat,j<=8/\i=.int .i64 (56-8*(j:Int))/\Hid (Buf w9 B v (padEnd n j))/\Hid (Kept B B w1 w9)/\B<=w9.heap.size) (λ_ i _=>(RowKit.intOf i+8).toNat)
 case atStart=>exact⟨0,by omega,rfl,HB4,K4,hs4⟩
 case round=>
  obtain⟨j,hj,rfl,hb,k9,hs9⟩:=hrel;obtain⟨g,cap,hv,hg1,hg2,hcap,hcell⟩:=hb.out.cells;have hLl:(padEnd n j).length=1+Sm.zeros n+j:=Qc6 n j hj;have Hcell:=hid hcell;rw[hLl] at hv hcap;clear hcell;subst hv
  by_cases hlt:j<8
  ·have hsh:(56:Int)-8*(j:Int)=((56-8*j:Nat):Int):=by omega
   rw[hsh];have hX:=lenbyte n j hlt;have hb14:=hb.out.same (w':=wr.alloc (.cells #[.int .u8 ((n:Int)*8/2 ^ (56-8*j)%256)] 5)) λk _ hk=>Below.heap_alloc _ _ _ hk
   have hc14:(wr.alloc (.cells #[.int .u8 ((n:Int)*8/2 ^ (56-8*j)%256)] 5)).cell? ⟨wr.heap.size,0,none⟩=some (.int .u8 (UInt8.ofNat (8*n/256 ^ (7-j))).toNat):=(World.cell?_alloc_new wr _ _ 0).trans (by rw[<-hX];rfl)
   have k14:=k9.out.alloc hs9 (.cells #[.int .u8 ((n:Int)*8/2 ^ (56-8*j)%256)] 5)
   have hs14:B<=(wr.alloc (.cells #[.int .u8 ((n:Int)*8/2 ^ (56-8*j)%256)] 5)).heap.size:=by simp;omega
   have Hb14:=hid hb14;have Hc14:=hid hc14;have K14:=hid k14;have HS14:=hid hs14;clear hb14 hX hc14 k14 hs14
   go_wp2_with (at_builtin;refine Qb6 rfl _ _ 106 rfl B i0 Tryz.underlying106 hi hz0 hz1 hz2 _ _ rfl Hb14.out ⟨wr.heap.size,0,none⟩ 1 _ rfl Hc14.out (by rw[hLl];omega) HS14.out ?_)
   intro v15 w15 hb15 hg15;have k15:Kept B B w1 w15:=K14.out.grown hg15 HS14.out (λk hk=>by cases hk;exact hg1)
   have hs15:=hg15.size;have hs16:=HS14.out;rw[Qoz _ _ hlt] at hb15;obtain⟨g2,cap2,hv15,_⟩:=hb15.cells;have hLl2:(padEnd n (j+1)).length=1+Sm.zeros n+(j+1):=Qc6 n (j+1) (by omega)
   rw[hLl2] at hv15;have Hb15:=hid hb15;clear hb15 hg15;subst hv15;go_wp2;refine⟨⟨j+1,by omega,by congr 1;omega,hid Hb15.out,hid k15,by omega⟩,by simp only[RowKit.intOf];omega⟩
  ·obtain rfl:j=8:=by omega
   have hcv:=run_convert_bytes_back (P:=Tryz.prog) wr 106 9 5 ⟨g,0,none⟩ cap (padEnd n 8) Tryz.underlying106 Tryz.underlying5 Tryz.underlying9 (λj hj=>by rw[Addr.add_lit,Nat.zero_add];exact Hcell.out j hj)
   rw[hLl] at hcv;have Hcv:=hid hcv;clear hcv
   go_wp2_with fail
   rw[Hcv.out];go_wp2;go_ret;exact⟨rfl,K1.out.trans (k9.out.mono hwB.out (λk hk _=>by have:=hwB.out;omega))⟩
def joined (parts:List ByteArray)(k:Nat):List UInt8:=(parts.take k).flatMap λs=>s.data.toList
theorem Qph (parts:List ByteArray)(k:Nat)(h:k<parts.length):joined parts (k+1)=joined parts k++(parts[k]).data.toList:=by
 rw[joined,joined,List.take_succ_eq_append_getElem h,List.flatMap_append];simp
theorem Quu (parts:List ByteArray)(k:Nat):(joined parts k).length<=(joined parts parts.length).length:=by
 have e:joined parts parts.length=joined parts k++(parts.drop k).flatMap λs=>s.data.toList:=by
  rw[joined,joined,<-List.flatMap_append,List.take_append_drop,List.take_length]
 rw[e,zE]
 omega
def digZero:Array Value:=(digCells Sm.init.list (List.replicate 64 0) 0 0).toArray
def digNil:Array Value:=(List.replicate 72 (Value.int .u32 0)++List.replicate 64 (Value.int .u8 0)++[Value.int .i64 0,Value.int .u64 0]).toArray
def digMid:Array Value:=(wcells Sm.init.list++List.replicate 64 (Value.int .u32 0)++List.replicate 64 (Value.int .u8 0)++[Value.int .i64 0,Value.int .u64 0]).toArray
theorem Qpv:digZero.all (·.oneCell')=true:=by
 rw[digZero,Array.all_eq_true_iff_forall_mem];intro v hv;rw[List.mem_toArray,digCells,List.mem_append,List.mem_append,List.mem_append] at hv
 rcases hv with h|h|h|h
 ·exact Array.all_eq_true_iff_forall_mem.1 (Qcp _) v (by simpa using h)
 ·exact Array.all_eq_true_iff_forall_mem.1 (Qcp _) v (by simpa using h)
 ·exact Qan _ v h
 ·simp at h
  rcases h with rfl|rfl <;> rfl
theorem Qgc (parts:List ByteArray)(ad:Option Addr)(c g o:Nat)(w:World)(hlen:Hid (parts.length<1152921504606846976))(htot:Hid ((joined parts parts.length).length<1152921504606846976))
  (hcell:∀j (hj:j<parts.length),ad=some ⟨g,o,none⟩/\g<w.heap.size/\w.cell? ⟨g,o+j,none⟩=some (.string parts[j])) :
  Calls Tryz.prog 134 #[.slice ad parts.length c] w λe w'=>e=.returned (.agg (bY (Sm.sum (joined parts parts.length))).toArray)/\Kept w.heap.size w.heap.size w w':=by
 have HC:=hid hcell;clear hcell
 go_enter Tryz.func134,Tryz.ntmps134
 go_upto_region 1 with fail
 rw[Qao];have hA:(w.alloc (.cells zY 23)).heap[w.heap.size]?=some (.cells zY 23 (0,0)):=Qaa _ _
 have k1:Kept w.heap.size w.heap.size w (w.alloc (.cells zY 23)):=zI.alloc (zB _) _
 have s1:(w.alloc (.cells zY 23)).heap.size=w.heap.size+1:=by simp
 generalize w.alloc (.cells zY 23)=w1 at hA k1 s1 |-
 obtain⟨wa,hwa⟩:∃wa,wa=w.heap.size:=⟨_,rfl⟩;rw[<-hwa] at hA k1 s1 |-;have HWA:=hid hwa;clear hwa
 go_wp2_with fail
 refine(Qib w1).mono ?_;rintro e w2 ⟨rfl,k2⟩;generalize hst:(wcells Sm.init.list).toArray=st
 go_wp2_with fail
 refine(Qh7 w2).mono ?_;rintro e w3 ⟨rfl,k3⟩;generalize hkk:(wcells Sm.K).toArray=kk;have Hst:=hid hst;have Hkk:=hid hkk
 have hzz:digZero.size=138:=by
  rw[digZero,List.size_toArray];exact Qk9 _ _ _ _ rfl rfl
 clear hst hkk;have h8:st.size=8:=by rw[<-Hst.out];kernel_rfl
 have h64:kk.size=64:=by rw[<-Hkk.out];kernel_rfl
 obtain⟨mid,hmid⟩:∃mid,mid=digMid:=⟨_,rfl⟩;have hms:mid.size=138:=by rw[hmid];kernel_rfl
 have hf1:Array.foldl (λ(cs:Array Value) (x:Value × Nat)=>cs.setIfInBounds x.snd x.fst) Tryz.zeroCells236 st.zipIdx 0 8=mid:=by rw[<-Hst.out,hmid];kernel_rfl
 have hf2:Array.foldl (λ(cs:Array Value) (x:Value × Nat)=>cs.setIfInBounds (8+x.snd) x.fst) mid kk.zipIdx 0 64=digZero:=by rw[<-Hkk.out,hmid];kernel_rfl
 clear hmid;have hz0:Tryz.zeroCells236.size=138:=by kernel_rfl
 have hst2:=Qce (P:=Tryz.prog) w3 236 Tryz.zeroCells236 digZero (by rw[hzz];exact hz0) Qpv
 have hD:Dig (w3.alloc (.cells digZero 236)) w3.heap.size Sm.init.list (List.replicate 64 0) 0 0:=Qaa _ _
 have k4:Kept w3.heap.size w3.heap.size w3 (w3.alloc (.cells digZero 236)):=zI.alloc (zB _) _
 have s4:(w3.alloc (.cells digZero 236)).heap.size=w3.heap.size+1:=by simp
 generalize hDZ:digZero=DZ at hst2 hD k4 s4 hzz hf2 |-;have Hst2:=hid hst2;clear hDZ hst2
 go_wp2_with fail
 clear h8 h64 hms hf1 hf2 hz0;rw[Hst2.out];generalize w3.alloc (.cells DZ 236)=w4 at hD k4 s4 |-
 have hT:Taken w4 w3.heap.size (joined parts 0) (((joined parts 0).length:Nat):Int):=by
  rw[show joined parts 0=[] by simp[joined]]
  exact⟨List.replicate 64 0,rfl,rfl,hD⟩
 have hws:w.heap.size+1<=w3.heap.size:=by
  have h2:=k2.size;have h3:=k3.size;have:=HWA.out
  omega
 have hK4:Kept w.heap.size w.heap.size w w4:=by
  have h2:=k2.size;have h3:=k3.size;have:=HWA.out;refine((((?_:Kept w.heap.size w.heap.size w w1).trans (k2.mono (by omega) (λk hk _=>by omega))).trans (k3.mono (by omega) (λk hk _=>by omega))).trans (k4.mono (by omega) (λk hk _=>by omega)))
  rw[<-HWA.out];exact HWA.out ▸ k1
 have hA4:w4.heap[wa]?=some (.cells zY 23 (0,0)):=by
  have h2:=k2.size;have h3:=k3.size;exact(k4.block wa (by omega) (by omega)).trans ((k3.block wa (by omega) (by omega)).trans ((k2.block wa (by omega) (by omega)).trans hA))
 obtain⟨wd,hwd⟩:∃wd,wd=w3.heap.size:=⟨_,rfl⟩;rw[<-hwd] at hT hws s4 |-;have hawd:wa<wd:=by have:=HWA.out;omega
 have HT:=hid hT;have HK4:=hid hK4;have HA4:=hid hA4;have Hws:=hid hws;clear hT hK4 hA4 hws k1 k2 k3 k4 hA hD s1 hwd Hst Hkk Hst2 hzz
 go_wp2_with fail
 go_loopw [5,11] (λx5 j w9=>∃k:Nat,k<=parts.length/\j=.int .i64 (k:Int)/\Hid (Taken w9 wd (joined parts k) (((joined parts k).length:Nat):Int))/\Hid (Kept (wd+1) wd w4 w9)) (λ_ j _=>parts.length-(RowKit.intOf j).toNat)
 case atStart=>exact⟨0,by omega,rfl,HT,hid zI⟩
 case round=>
  obtain⟨k,hk,rfl,hT,hK⟩:=hrel
  by_cases hlt:k<parts.length
  ·obtain⟨rfl,hg,hc⟩:=HC.out k hlt
   have hcr:wr.cell? ⟨g,o+k,none⟩=some (.string parts[k]):=(hK.out.cell (p:=⟨g,o+k,none⟩) (by show g<_;have:=Hws.out;omega) (by show g≠_;have:=Hws.out;omega)).trans ((HK4.out.cell (p:=⟨g,o+k,none⟩) hg (by show g≠_;omega)).trans hc)
   have hmore:=Qph parts k hlt;have hle:=Quu parts (k+1);have hsz:(parts[k]).data.toList.length=(parts[k]).size:=by simp
   generalize parts[k]=S at hcr hmore hsz;have hlen1:(joined parts (k+1)).length=(joined parts k).length+S.size:=by rw[hmore,zE,hsz]
   have Hmore:=hid hmore;have Hlen1:=hid hlen1;have HN:Hid ((joined parts k).length+S.size<9223372036854775808):=hid (by have:=htot.out;omega)
   have hln:(k:Int)<(parts.length:Int):=by omega
   have hw1:wrap64 ((k:Int)+1)=(k:Int)+1:=by have:=hlen.out;unfold wrap64;omega
   clear hc hmore hle hlen1
   go_wp2_with fail
   refine(Qkp wd (joined parts k) (joined parts k).length S wr hT.out HN).mono ?_;rintro e w9 ⟨rfl,hT9,k9⟩;rw[<-Hmore.out,<-Hlen1.out] at hT9;have hwr:wd+1<=wr.heap.size:=by have:=hK.out.size;omega
   have HT9:=hid hT9;have HK9:=hid (hK.out.trans (k9.mono hwr (λ_ _ h=>h)))
   clear hT9 k9
   go_wp2_with fail
   go_roundw
   case rel=>exact⟨k+1,by omega,by go_num,hid HT9.out,hid HK9.out⟩
   case measure=>
    rw[hw1];clear hw1;show parts.length-((k:Int)+1).toNat<parts.length-(k:Int).toNat
    omega
  ·obtain rfl:k=parts.length:=by omega
   obtain⟨L,hL⟩:∃L,L=joined parts parts.length:=⟨_,rfl⟩;have HLn:Hid (L.length<1152921504606846976):=hid (by rw[hL];exact htot.out)
   rw[<-hL] at hT;have HL:=hid hL;clear hL htot;obtain⟨blk,hb64,hbt,hD⟩:=hT.out;have c7:=hD.n (Qa7 _) hb64;have hwr:wd+1<=wr.heap.size:=by have:=hK.out.size;omega
   clear hD hbt hb64
   go_wp2_with fail
   refine(Qnv L.length wr HLn).mono ?_;rintro e w10 ⟨rfl,k10⟩;have hT10:=hT.out.same (k10.block wd (by omega) (by omega))
   have hpl:(str (padEnd L.length 8)).size=1+Sm.zeros L.length+8:=by rw[Qai,Qc6 _ _ (zB _)]
   have hz:Sm.zeros L.length<64:=Nat.mod_lt _ (by decide)
   have hs10:=k10.size;have hcall:=Qkp wd L L.length (str (padEnd L.length 8)) w10 hT10 (hid (by have:=HLn.out;omega))
   rw[show(str (padEnd L.length 8)).data.toList=padEnd L.length 8 from rfl,Qr3] at hcall;have Hcall:=hid hcall;have K10:=hid k10;generalize hE:str (padEnd L.length 8)=E at Hcall;clear hT10 hcall hpl k10 c7
   go_wp2_with fail
   refine Hcall.out.mono ?_;rintro e w11 ⟨rfl,hT11,k11⟩;obtain⟨blk2,hb64,hbt,hD11⟩:=hT11;have hm:=Sm.pad_mod L;have hh:=Qsr wd (Sm.blocks (Sm.pad L) ((Sm.pad L).length/64)) blk2 _ _ w11 hb64 hD11;rw[<-Sm.sum] at hh;have Hh:=hid hh;have hs11:=k11.size;have hAr:=(hK.out.block wa (by omega) (by omega)).trans HA4.out
   have hA11:=(k11.block wa (by omega) (by omega)).trans ((K10.out.block wa (by omega) (by omega)).trans hAr)
   have hK11:Kept w.heap.size w.heap.size w w11:=by
    have h1:=HWA.out;exact((HK4.out.trans (hK.out.mono (by omega) (λk hk _=>by omega))).trans (K10.out.mono (by omega) (λk hk _=>by omega))).trans (k11.mono (by omega) (λk hk _=>by omega))
   have HK11:=hid hK11;clear hh hD11 hbt k11 hK11 hAr Hcall
   go_wp2_with fail
   refine Hh.out.mono ?_;rintro e w12 ⟨rfl,k12⟩;have hA12:=(k12.block wa (by omega) (by omega)).trans hA11
   have hK12:Kept wa wa w w12:=by
    have h1:=HWA.out;rw[h1];exact HK11.out.trans (k12.mono (by omega) (λk hk _=>by omega))
   have hcl:(Sm.sum L).length=32:=by
    rw[Sm.sum];have:=Qb8 (Sm.blocks (Sm.pad L) ((Sm.pad L).length/64)).list 8 (zB _);exact this
   have hsz:(bY (Sm.sum L)).toArray.size=32:=by rw[List.size_toArray,bZ,hcl]
   have hall:=Qae (Sm.sum L);have hz32:=Qah;generalize hcs:(bY (Sm.sum L)).toArray=cs at hsz hall |-;have Hcs:=hid hcs.symm;clear hcs;generalize zY=z at hA12 hz32;clear hA11
   go_wp2_with (with_reducible refine wpList_store_row rfl 23 _ _ rfl wa cs rfl rfl 23 _ hA12 (by rw[Qbi,hsz]) (by rw[hz32,hsz]) hall ?_)
   obtain⟨t1,t2⟩:Kept wa wa w (w12.setRow wa cs)/\(w12.setRow wa cs).heap[wa]?=some (.cells cs 23 (0,0)):=
    ⟨hK12.trans ⟨rfl,rfl,rfl,by simp[World.setRow],λk hk _=>setRow_other w12 wa k cs (by omega)⟩,setRow_heap w12 wa z cs _ _ hA12⟩
   refine bodyPost_ret (results_cell_row rfl _ _ wa 23 cs (0,0) _ rfl t2 Tryz.underlying23 rfl (by rw[Qbi,hsz])) rfl ?_
   refine⟨?_,?_⟩
   ·rw[Hcs.out,HL.out]
   ·rw[<-HWA.out]
    exact t1
theorem Qw7 (s:ByteArray)(g:Nat)(w:World)(hs:Hid (s.size<1152921504606846976))(hg:g<w.heap.size)(hc:w.cell? ⟨g,0,none⟩=some (.string s)):
  Calls Tryz.prog 134 #[.slice (some ⟨g,0,none⟩) 1 1] w λe w'=>e=.returned (.agg (bY (Sm.sum s.data.toList)).toArray)/\Kept w.heap.size w.heap.size w w':=by
 have e:joined [s] [s].length=s.data.toList:=by simp[joined]
 have hl:s.data.toList.length=s.size:=by simp
 have:=Qgc [s] (some ⟨g,0,none⟩) 1 g 0 w (hid (by show 1<_;decide)) (hid (by rw[e,hl];exact hs.out)) (λj hj=>by
  obtain rfl:j=0:=by simp at hj;omega
  exact⟨rfl,hg,hc⟩)
 rw[e] at this;exact this
theorem Qaw (l:List UInt8):(Sm.sum l).length=32:=by
 rw[Sm.sum];exact Qb8 (Sm.blocks (Sm.pad l) ((Sm.pad l).length/64)).list 8 (zB _)
end Go.Proofs.YtnlbgggnpoeleaaGreatDoor
