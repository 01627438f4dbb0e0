/-
 ChatLaid; ChatDigits; ChatRefName: several texts in one.
-/
import Derived.Test.YtnlbgggnpoeleaaGreatDoorWireLaid
import Derived.Test.YtnlbgggnpoeleaaGreatDoorCA
import Derived.Test.YtnlbgggnpoeleaaGreatDoorShaRefHex
set_option maxRecDepth 100000
set_option maxHeartbeats 6400000
namespace Go.Proofs.YtnlbgggnpoeleaaGreatDoor
open Go.ChangeShapes Go.WideShapes Go.ChangeAt Go.RowKit
theorem Qd0 {P:Program}{W:World}{x:String × DataW Unit}{rest:List (String × DataW Unit)}(h:laidMet P (x::rest) W):laidMet P rest W:=by
 obtain⟨name,d⟩:=x;obtain⟨ps,⟨g,t,cs,fuel,p,q,h1,h2,h3,h4,hq,rfl⟩,hn,hc⟩:=h;exact⟨q,hq,(List.nodup_append.1 hn).2.1,λb off hm=>hc b off (List.mem_append_right _ hm)⟩
theorem gTensType:(Tryz.prog.globals[1]?).map (·.type)=some 218:=by kernel_rfl
theorem tensCells:Tryz.prog.cellsOf 218=20:=by kernel_rfl
theorem tensOne:Tryz.prog.cellsOf 161=1:=by kernel_rfl
theorem chatTable {W : World} (h : laidMetH Tryz.prog [("bevy/wire.bounds", Rows.laid_bevy_wire_bounds), ("math/bits.deBruijn32tab", Rows.laid_math_bits_deBruijn32tab), ("math/bits.deBruijn64tab", Rows.laid_math_bits_deBruijn64tab), ("internal/strconv.uint64pow10", Rows.laid_internal_strconv_uint64pow10)] W) : Tab2 W := by
 have h0 : laidMet Tryz.prog [("bevy/wire.bounds", Rows.laid_bevy_wire_bounds), ("math/bits.deBruijn32tab", Rows.laid_math_bits_deBruijn32tab), ("math/bits.deBruijn64tab", Rows.laid_math_bits_deBruijn64tab), ("internal/strconv.uint64pow10", Rows.laid_internal_strconv_uint64pow10)] W := h;have t := Lib.tabIs_of_head (k := .i64) (zs := [63, 16383, 1073741823, 4611686018427387903]) gTab gTabType Tryz.underlying112 Tryz.underlying3 wireCellsInt wireCellsTab h0
 have h3:=Qd0 (Qd0 (Qd0 h0));have p:=Lib.tabIs_of_head (k:=.u64) (zs:=[1,10,100,1000,10000,100000,1000000,10000000,100000000,1000000000,10000000000,100000000000,1000000000000,10000000000000,100000000000000,1000000000000000,10000000000000000,100000000000000000,1000000000000000000,10000000000000000000]) gTens gTensType Tryz.underlying218 Tryz.underlying161 tensOne tensCells h3
 have c1:=p.cell gTens 0 (by decide)
 refine⟨⟨t.cell gTab 0 (by decide),t.cell gTab 1 (by decide),t.cell gTab 2 (by decide),t.cell gTab 3 (by decide)⟩,?_,?_⟩
 ·rw[show Lib.pow10Tab=[1,10,100,1000,10000,100000,1000000,10000000,100000000,1000000000,10000000000,100000000000,1000000000000,10000000000000,100000000000000,1000000000000000,10000000000000000,100000000000000000,1000000000000000000,10000000000000000000] from by decide]
  exact p
 ·rcases Nat.lt_or_ge 1 W.heap.size with h|h
  ·exact h
  ·exfalso
   simp[World.cell?,Array.getElem?_eq_none h] at c1
noncomputable def laidWorld4 (os:Os):World:=
 { World.holding Tryz.prog os ⟨#[],#[],[]⟩ with heap:=(((((World.holding Tryz.prog os ⟨#[],#[],[]⟩).heap.modify 0 fun
   | .cells _ t frozen=>.cells #[.int .i64 63,.int .i64 16383,.int .i64 1073741823,.int .i64 4611686018427387903] t frozen
   | o=>o).modify 2 fun
   | .cells _ t frozen=>.cells #[.int .u8 0,.int .u8 1,.int .u8 28,.int .u8 2,.int .u8 29,.int .u8 14,.int .u8 24,.int .u8 3,.int .u8 30,.int .u8 22,.int .u8 20,.int .u8 15,.int .u8 25,.int .u8 17,.int .u8 4,.int .u8 8,.int .u8 31,.int .u8 27,.int .u8 13,.int .u8 23,.int .u8 21,.int .u8 19,.int .u8 16,.int .u8 7,.int .u8 26,.int .u8 12,.int .u8 18,.int .u8 6,.int .u8 11,.int .u8 5,.int .u8 10,.int .u8 9] t frozen
   | o=>o).modify 3 fun
   | .cells _ t frozen=>.cells #[.int .u8 0,.int .u8 1,.int .u8 56,.int .u8 2,.int .u8 57,.int .u8 49,.int .u8 28,.int .u8 3,.int .u8 61,.int .u8 58,.int .u8 42,.int .u8 50,.int .u8 38,.int .u8 29,.int .u8 17,.int .u8 4,.int .u8 62,.int .u8 47,.int .u8 59,.int .u8 36,.int .u8 45,.int .u8 43,.int .u8 51,.int .u8 22,.int .u8 53,.int .u8 39,.int .u8 33,.int .u8 30,.int .u8 24,.int .u8 18,.int .u8 12,.int .u8 5,.int .u8 63,.int .u8 55,.int .u8 48,.int .u8 27,.int .u8 60,.int .u8 41,.int .u8 37,.int .u8 16,.int .u8 46,.int .u8 35,.int .u8 44,.int .u8 21,.int .u8 52,.int .u8 32,.int .u8 23,.int .u8 11,.int .u8 54,.int .u8 26,.int .u8 40,.int .u8 15,.int .u8 34,.int .u8 20,.int .u8 31,.int .u8 10,.int .u8 25,.int .u8 14,.int .u8 19,.int .u8 9,.int .u8 13,.int .u8 8,.int .u8 7,.int .u8 6] t frozen
   | o=>o).modify 1 fun
   | .cells _ t frozen=>.cells #[.int .u64 1,.int .u64 10,.int .u64 100,.int .u64 1000,.int .u64 10000,.int .u64 100000,.int .u64 1000000,.int .u64 10000000,.int .u64 100000000,.int .u64 1000000000,.int .u64 10000000000,.int .u64 100000000000,.int .u64 1000000000000,.int .u64 10000000000000,.int .u64 100000000000000,.int .u64 1000000000000000,.int .u64 10000000000000000,.int .u64 100000000000000000,.int .u64 1000000000000000000,.int .u64 10000000000000000000] t frozen
   | o=>o) }
open Go.RowKit Go.Lib
open List renaming setIfInBounds_toArray -> sA, set_cons_zero -> sB, set_cons_succ -> sC
open BigFrame renaming wpList_want -> wQ
theorem Qeq {m:Nat}(h:m<10):Lib.decDigits m=[UInt8.ofNat (48+m)]:=by
 rw[Lib.decDigits,dif_pos h]
theorem Qju {m:Nat}(h:¬m<10):Lib.decDigits m=Lib.decDigits (m/10)++[UInt8.ofNat (48+m%10)]:=by
 rw[Lib.decDigits,dif_neg h]
theorem Qnz:∀ (k m:Nat),1<=k->m<10 ^ k->(Lib.decDigits m).length<=k
 | 0,_,h,_=>absurd h (by decide)
 | 1,m,_,h=>by rw[Qeq (by omega)];simp
 | k+2,m,_,h=>by
  by_cases hm:m<10
  ·rw[Qeq hm];simp
  ·rw[Qju hm,zE]
   have:=Qnz (k+1) (m/10) (by omega) (by rw[Nat.pow_succ] at h;omega)
   simp only[List.length_cons,List.length_nil]
   omega
theorem Qny (n:Nat)(h:n<=9223372036854775807):(Lib.decDigits n).length<=20:=Qnz 20 n (by decide) (Nat.lt_of_le_of_lt h (by decide))
theorem Qkm (m:Nat)(h:m/10<=9223372036854775807):wrap64 ((m:Int)/10)=((m/10:Nat):Int):=by
 unfold wrap64
 omega
theorem Qf7 (r:Nat)(h:r<10):(((UInt8.ofNat (48+r)).toNat:Nat):Int)=48+(r:Int):=by
 rw[UInt8.toNat_ofNat']
 omega
theorem Qla (c:UInt8)(w:World):(convert 106 9 (.slice (some ⟨w.heap.size,0,none⟩) 1 1)).run Tryz.prog (w.alloc (.cells #[.int .u8 (c.toNat:Int)] 5))=.ok (.string (str [c])) (w.alloc (.cells #[.int .u8 (c.toNat:Int)] 5)):=
 run_convert_bytes_back (P:=Tryz.prog) _ 106 9 5 ⟨w.heap.size,0,none⟩ 1 [c] Tryz.underlying106 Tryz.underlying5 Tryz.underlying9 (λj hj=>by
  obtain rfl:j=0:=by simp at hj;omega
  exact World.cell?_alloc_new w _ _ 0)
theorem Qnw (n:Nat)(hn:n<=9223372036854775807)(w:World):Calls Tryz.prog 34 #[.int .i64 (n:Int)] w λe w'=>e=.returned (.string (str (Lib.decDigits n)))/\Kept w.heap.size w.heap.size w w':=by
 have HCV:=hid Qla;have HL:=hid (Qny n hn);have hn0:¬(n:Int)<0:=by omega
 have HN:=hid hn;clear hn
 go_enter Tryz.func34,Tryz.ntmps34
 go_wp2
 go_loopw [0,5] (λs0 s5 wr=>∃(m:Nat) (l:List UInt8),s0=.int .i64 (m:Int)/\s5=.string (str l)/\Hid (m<=9223372036854775807)/\Hid (Lib.decDigits m++l=Lib.decDigits n)/\Hid (Kept w.heap.size w.heap.size w wr)) (λs0 _ _=>(RowKit.intOf s0).toNat)
 case atStart=>exact⟨n,[],rfl,rfl,HN,hid (by simp),hid zI⟩
 case round=>
  obtain⟨m,l,rfl,rfl,hm,HD,HK⟩:=hrel;clear hn0;have hll:l.length<=100:=by have h:=HL.out;rw[<-HD.out,zE] at h;omega
  by_cases h9:m<10
  ·have hle:¬(9:Int)<(m:Int):=by omega
   have hc:=Qf7 m h9;have HR:=hid (show [UInt8.ofNat (48+m)]++l=Lib.decDigits n by rw[<-Qeq h9];exact HD.out)
   have hm9:(m:Int)<10:=by omega
   have hm0:0<=(m:Int):=by omega
   have HC:=hid hc;clear h9 hc hm
   go_wp2_with fail
   rw[show(48+(m:Int))=((UInt8.ofNat (48+m)).toNat:Int) from HC.out.symm];rw[HCV.out _ wr];generalize UInt8.ofNat (48+m)=c at HR |-;have HK2:=hid (HK.out.alloc HK.out.size (.cells #[.int .u8 (c.toNat:Int)] 5))
   go_wp2;refine bodyPost_ret (results_tmp rfl _ _ _) rfl ?_;exact⟨by rw[<-HR.out,Qa5];rfl,HK2.out⟩
  ·have hle:(9:Int)<(m:Int):=by omega
   have HC:=hid (Qf7 (m%10) (by omega))
   have HR:=hid (show Lib.decDigits (m/10)++([UInt8.ofNat (48+m%10)]++l)=Lib.decDigits n by rw[<-List.append_assoc,<-Qju h9];exact HD.out)
   have HM:=hid (show m/10<=9223372036854775807/\m/10<m by have:=hm.out;omega)
   clear h9
   go_wp2_with fail
   rw[show(48+(m:Int)%10)=((UInt8.ofNat (48+m%10)).toNat:Int) from by rw[HC.out];omega]
   rw[HCV.out _ wr];generalize UInt8.ofNat (48+m%10)=c at HR |-;have HK2:=hid (HK.out.alloc HK.out.size (.cells #[.int .u8 (c.toNat:Int)] 5))
   go_wp2
   go_roundw
   case rel=>exact⟨m/10,[c]++l,by rw[Qkm m HM.out.1],by rw[<-Qa5],hid HM.out.1,HR,HK2⟩
   case measure=>
    have h1:=Qkm m HM.out.1;have h2:=HM.out.2
    have h3:(RowKit.intOf (.int .i64 (wrap64 ((m:Int)/10)))).toNat<(RowKit.intOf (.int .i64 (m:Int))).toNat:=by
     rw[h1];exact h2
    exact h3
theorem Qnx (k:Nat):1<=k->k<=9223372036854775808->∀w:World,Calls Tryz.prog 34 #[.int .i64 (-(k:Int))] w λe w'=>e=.returned (.string (str (45::Lib.decDigits k)))/\Kept w.heap.size w.heap.size w w':=by
 induction k using Nat.strongRecOn with
 | ind k ih=>
 intro hk hm w;have IH:=hid (ih (k/10) (by omega))
 clear ih;have HCV:=hid Qla;have hn0 : -(k:Int)<0:=by omega
 have HN:=hid (show 1<=k/\k<=9223372036854775808 from⟨hk,hm⟩);have HC:=hid (Qf7 (k%10) (by omega))
 clear hk hm;obtain⟨v,hv⟩:∃v:Int,v=-(k:Int):=⟨_,rfl⟩;rw[<-hv] at hn0 |-
 have HR:=hid (show wrap64 (-(v.tmod 10))=((k%10:Nat):Int) from by
  have h9:((k:Int).tmod 10)=((k%10:Nat):Int):=rfl;rw[hv,Int.neg_tmod,h9,Int.neg_neg];unfold wrap64
  omega)
 have HQ:=hid (show wrap64 (v.tdiv 10)=-((k/10:Nat):Int) from by
  have h9:((k:Int).tdiv 10)=((k/10:Nat):Int):=rfl;rw[hv,Int.neg_tdiv,h9];unfold wrap64;have:=HN.out
  omega)
 have HV:=hid hv;clear hv
 go_enter Tryz.func34,Tryz.ntmps34
 go_wp2_with fail
 rw[show wrap64 (48+wrap64 (-v.tmod 10))%256=((UInt8.ofNat (48+k%10)).toNat:Int) from by rw[HR.out,HC.out];unfold wrap64;omega]
 rw[HCV.out _ w]
 have HDD:=hid (show(k<10/\[UInt8.ofNat (48+k%10)]=Lib.decDigits k)\/(10<=k/\Lib.decDigits (k/10)++[UInt8.ofNat (48+k%10)]=Lib.decDigits k) from by
  by_cases h:k<10
  ·exact .inl ⟨h,by rw[Qeq h,Nat.mod_eq_of_lt h]⟩
  ·exact .inr ⟨by omega,(Qju h).symm⟩)
 generalize UInt8.ofNat (48+k%10)=c at HDD |-;have HK2:=hid (kA w (.cells #[.int .u8 (c.toNat:Int)] 5))
 clear HC HR;generalize w.alloc (.cells #[.int .u8 (c.toNat:Int)] 5)=w2 at HK2 |-
 rcases HDD.out with⟨hk1,hd⟩|⟨hk1,hd⟩
 ·have hq0:(wrap64 (v.tdiv 10) == 0)=true:=by rw[HQ.out,Nat.div_eq_of_lt hk1];rfl
  have HD:=hid hd;clear hk1 hd HDD
  go_wp2_with fail
  refine bodyPost_ret (results_tmp rfl _ _ _) rfl ?_;exact⟨by rw[<-HD.out,show(45::[c]:List UInt8)=[45]++[c] from rfl,Qa5];rfl,HK2.out⟩
 ·have hq0:(wrap64 (v.tdiv 10) == 0)=false:=by
   rw[HQ.out];have:¬ -((k/10:Nat):Int)=0:=by omega
   simpa using this
  have HD:=hid hd;have HK10:=hid hk1;have hll:=Qny (k/10) (by have:=HN.out;omega)
  have hll:(45::Lib.decDigits (k/10)).length<=100:=by rw[List.length_cons];omega
  clear hk1 hd HDD
  go_wp2_with fail
  rw[HQ.out];refine(IH.out (by have:=HK10.out;omega) (by have:=HN.out;omega) w2).mono ?_
  rintro e w3 ⟨rfl,k3⟩;have HK3:=hid (HK2.out.next1 k3);clear k3;go_wp2;refine bodyPost_ret (results_tmp rfl _ _ _) rfl ?_;exact⟨by rw[<-HD.out,show(45::(Lib.decDigits (k/10)++[c]):List UInt8)=(45::Lib.decDigits (k/10))++[c] from rfl,Qa5];rfl,HK3.out⟩
theorem Qfw (n:Int)(h0 : -9223372036854775808<=n)(h1:n<=9223372036854775807)(w:World):Calls Tryz.prog 34 #[.int .i64 n] w λe w'=>e=.returned (.string (str (Lib.itoa n)))/\Kept w.heap.size w.heap.size w w':=by
 by_cases h:n<0
 ·obtain⟨k,hk⟩:∃k:Nat,n=-(k:Int):=⟨n.natAbs,by omega⟩
  have hk2:n.natAbs=k:=by omega
  rw[Lib.itoa,zG h,hk2,hk];exact Qnx k (by omega) (by omega) w
 ·obtain⟨k,hk⟩:∃k:Nat,n=(k:Int):=⟨n.toNat,by omega⟩
  have hk2:n.toNat=k:=by omega
  rw[Lib.itoa,if_neg h,hk2,hk];exact Qnw k (by omega) w
theorem Qiw (ep:List UInt8)(hep:ep.length=32)(a g:Int)(ha0 : -9223372036854775808<=a)(ha1:a<=9223372036854775807)(hg0 : -9223372036854775808<=g)(hg1:g<=9223372036854775807)(w:World):
  Calls Tryz.prog 11 #[.agg (bY ep).toArray,.int .i64 a,.int .i64 g] w λe w'=>e=.returned (.string (str (Cn.name ep a g)))/\Kept w.heap.size w.heap.size w w':=by
 have HHX:=hid (λ(x:World)=>Qm1 ep hep x)
 have HIA:=hid (λ(x:World) (k:Kept w.heap.size w.heap.size w x)=>Qfw a ha0 ha1 x)
 have HIG:=hid (λ(x:World) (k:Kept w.heap.size w.heap.size w x)=>Qfw g hg0 hg1 x)
 have HLK:=hid (λ(u:World) (b:Nat) (h:u.heap[b]?=some (.cells (bY ep).toArray 23 (0,0)))=>Qb3 (Qam h) hep)
 have hl1:(Sm.hex ep).length=64:=by rw[Qjl,hep]
 have hl2:=Qen a ha0 ha1;have hl3:=Qen g hg0 hg1;have HEQ:Hid ((([110,111,116,101,32]++Sm.hex ep)++[32]++Lib.itoa a++[32]++Lib.itoa g)=Cn.name ep a g):=hid (by simp[Cn.name])
 obtain⟨hx,hhx⟩:∃x,x=Sm.hex ep:=⟨_,rfl⟩;obtain⟨ia,hia⟩:∃x,x=Lib.itoa a:=⟨_,rfl⟩;obtain⟨ig,hig⟩:∃x,x=Lib.itoa g:=⟨_,rfl⟩;rw[<-hhx] at HHX hl1 HEQ;rw[<-hia] at HIA hl2 HEQ;rw[<-hig] at HIG hl3 HEQ;obtain⟨EP,hEP⟩:∃x,x=(bY ep).toArray:=⟨_,rfl⟩;rw[<-hEP] at HHX HLK |-;have HX1:=hid (show ¬9223372036854775807<5+hx.length by omega)
 have HL1:=hid hl1;have HL2:=hid hl2;have HL3:=hid hl3;clear hhx hia hig hEP hl1 hl2 hl3 ha0 ha1 hg0 hg1 hep
 go_enter Tryz.func11,Tryz.ntmps11
 go_upto_region 0 with fail
 refine zA ?_;iterate 2(refine wW λK hK=>?_;go_simp;apply hK;clear hK K)
 have kn:Kept w.heap.size w.heap.size w (w.alloc (.cells EP 23)):=zI.alloc (zB _) _
 have rn:=Qaa w (.cells EP 23)
 generalize w.alloc (.cells EP 23)=w1 at kn rn |-
 obtain⟨nb,hnb⟩:∃x,x=w.heap.size:=⟨_,rfl⟩;rw[<-hnb] at rn
 (try rw[<-hnb])
 have RN:=hid rn;have K1:=hid kn;clear kn rn hnb
 go_upto_region 1 with fail
 refine zA ?_;refine wLk 23 (.tmp 3) rfl (nb) (0) rfl (.agg EP) (HLK.out _ _ RN.out) ?_
 simp only[Act.put,sA,sB,sC];refine wW λK hK=>?_;go_simp;go_at_call 33
 refine(HHX.out _).mono ?_;rintro e w2 ⟨rfl,k2⟩;have K2:=hid (K1.out.onto k2);clear k2;apply hK;clear hK K;refine @wQ _ _ _ _ _ _ _ ?_ ?_;kernel_rfl;intro K hK;go_simp
 (try rw[if_neg (by have:=HL1.out;have:=HL2.out;have:=HL3.out;omega)])
 apply hK;clear hK K;refine @wQ _ _ _ _ _ _ _ ?_ ?_;kernel_rfl;intro K hK;go_simp
 (try rw[if_neg (by have:=HL1.out;have:=HL2.out;have:=HL3.out;omega)])
 apply hK;clear hK K;refine wW λK hK=>?_;go_simp;apply hK;clear hK K;refine wW λK hK=>?_;go_simp;go_at_call 34
 refine(HIA.out _ K2.out).mono ?_;rintro e w3 ⟨rfl,k3⟩;have K3:=hid (K2.out.onto k3);clear k3;apply hK;clear hK K;refine @wQ _ _ _ _ _ _ _ ?_ ?_;kernel_rfl;intro K hK;go_simp
 (try rw[if_neg (by have:=HL1.out;have:=HL2.out;have:=HL3.out;omega)])
 apply hK;clear hK K;refine @wQ _ _ _ _ _ _ _ ?_ ?_;kernel_rfl;intro K hK;go_simp
 (try rw[if_neg (by have:=HL1.out;have:=HL2.out;have:=HL3.out;omega)])
 apply hK;clear hK K;refine wW λK hK=>?_;go_simp;apply hK;clear hK K;refine wW λK hK=>?_;go_simp;go_at_call 34
 refine(HIG.out _ K3.out).mono ?_;rintro e w4 ⟨rfl,k4⟩;have K5:=hid (K3.out.onto k4);clear k4;apply hK;clear hK K;refine @wQ _ _ _ _ _ _ _ ?_ ?_;kernel_rfl;intro K hK;go_simp
 (try rw[if_neg (by have:=HL1.out;have:=HL2.out;have:=HL3.out;omega)])
 apply hK;clear hK K;refine wW λK hK=>?_;go_simp;apply hK;clear hK K;go_wp2;go_ret;exact⟨by rw[<-HEQ.out];simp[Qa5],K5.out⟩
end Go.Proofs.YtnlbgggnpoeleaaGreatDoor
