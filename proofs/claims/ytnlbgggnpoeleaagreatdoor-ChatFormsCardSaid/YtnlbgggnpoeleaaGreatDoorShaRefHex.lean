/-
 The document's own signs of a digest.
-/
import Derived.Test.YtnlbgggnpoeleaaGreatDoorShaHexF
set_option maxRecDepth 100000
set_option maxHeartbeats 1600000
namespace Go.Proofs.YtnlbgggnpoeleaaGreatDoor
open Go.RowKit
open Go.Lib (hid)
def hexPart (l:List UInt8)(q j:Nat):List UInt8:=hexTo l q++[Sm.sign ((l.getD q 0).toNat/16),Sm.sign ((l.getD q 0).toNat%16)].take j
theorem Qnm (l:List UInt8)(q:Nat):hexPart l q 0=hexTo l q:=by simp[hexPart]
theorem Qpo (l:List UInt8)(q:Nat):hexPart l q 1=hexPart l q 0++[Sm.sign ((l.getD q 0).toNat/16)]:=by simp[hexPart]
theorem Qpn (l:List UInt8)(q:Nat):hexPart l q 2=hexPart l q 1++[Sm.sign ((l.getD q 0).toNat%16)]:=by simp[hexPart]
theorem Qpp (l:List UInt8)(q:Nat)(h:q<l.length):hexPart l q 2=hexTo l (q+1):=by
 rw[hexPart,Qhf l q h,List.getD_eq_getElem?_getD,List.getElem?_eq_getElem h]
 rfl
theorem Qke (l:List UInt8)(q j:Nat)(h:q<=l.length)(hj:j<=2):(hexPart l q j).length=2*q+j:=by
 rw[hexPart,zE,Qdu l q h,List.length_take];simp only[List.length_cons,List.length_nil]
 omega
theorem Qqk (d:Nat)(h:d<10):((Sm.sign d).toNat:Int)=48+(d:Int):=by
 rw[Sm.sign,zG h,UInt8.toNat_ofNat']
 omega
theorem Qmu (d:Nat)(h:¬d<10)(h2:d<16):((Sm.sign d).toNat:Int)=87+(d:Int):=by
 rw[Sm.sign,if_neg h,UInt8.toNat_ofNat']
 omega
theorem Qm1 (l:List UInt8)(hl:l.length=32)(w:World):
  Calls Tryz.prog 33 #[.agg (bY l).toArray] w λe w'=>e=.returned (.string (str (Sm.hex l)))/\Kept w.heap.size w.heap.size w w':=by
 have hcs:(bY l).toArray.size=32:=by rw[List.size_toArray,bZ,hl]
 have hall:=Qae l;generalize hq:(bY l).toArray=cs at hcs hall |-;have HQ:=hid hq.symm;clear hq
 go_enter Tryz.func33,Tryz.ntmps33
 go_wp2_with fail
 have hA:(w.alloc (.cells cs 22)).heap[w.heap.size]?=some (.cells cs 22 (0,0)):=Qaa _ _
 have k1:Kept w.heap.size w.heap.size w (w.alloc (.cells cs 22)):=zI.alloc (zB _) _
 have s1:(w.alloc (.cells cs 22)).heap.size=w.heap.size+1:=by simp
 generalize w.alloc (.cells cs 22)=w1 at hA k1 s1 |-
 rw[HQ.out] at hA;obtain⟨wa,hwa⟩:∃wa,wa=w.heap.size:=⟨_,rfl⟩;rw[<-hwa] at hA k1 s1 |-;have HWA:=hid hwa;have HA:=hid hA;have HK1:=hid k1;clear hwa hA k1 HQ;rw[show(⟨#[]⟩:ByteArray)=str (hexTo l 0) from rfl]
 go_loopw [3,4,5,6] (λs i j d w9=>∃q:Nat,q<=32/\s=.string (str (hexTo l q))/\i=.int .i64 (q:Int)/\Hid (Kept (wa+1) (wa+1) w1 w9)) (λ_ i _ _ _=>32-(RowKit.intOf i).toNat)
 case atStart=>exact⟨0,by omega,rfl,rfl,hid zI⟩
 case round=>
  obtain⟨q,hq,rfl,rfl,hK⟩:=hrel
  by_cases hlt:q<32
  ·have hc:∀w9,Kept (wa+1) (wa+1) w1 w9->w9.cell? ⟨wa,q,none⟩=some (.int .u8 ((l.getD q 0).toNat:Int)):=λw9 hK=>(hK.cell (p:=⟨wa,q,none⟩) (by show wa<_;omega) (by show wa≠_;omega)).trans (Qag HA.out (show(bY l)[q]?=some (Value.int IntKind.u8 ((l.getD q 0).toNat:Int)) by
    rw[Qbq l q (by omega),List.getD_eq_getElem?_getD,List.getElem?_eq_getElem (show q<l.length by omega)]
    rfl))
   have hq1:(q:Int)<32:=by omega
   have h1:=Qpo l q;have h2:=Qpn l q;have h3:=Qpp l q (by omega)
   generalize l.getD q 0=X at hc h1 h2;have hX:=X.toNat_lt;have H1:=hid h1;have H2:=hid h2;have H3:=hid h3;have Hc:=hid hc;clear h1 h2 h3 hc
   go_wp2_with fail
   go_loopw [3,5,6] (λs j d w9=>∃p:Nat,p<=2/\s=.string (str (hexPart l q p))/\j=.int .i64 (p:Int)/\Hid (Kept (wa+1) (wa+1) w1 w9)) (λ_ j _ _=>2-(RowKit.intOf j).toNat)
   case atStart=>exact⟨0,by omega,by rw[Qnm],rfl,hK⟩
   case round=>
    obtain⟨p,hp,rfl,rfl,hK9⟩:=hrel;have hc:=Hc.out wr hK9.out;have hsz:wa+1<=wr.heap.size:=by have:=hK9.out.size;omega
    have hcv:∀(w:World) (c:UInt8),(convert 106 9 (.slice (some ⟨w.heap.size,0,none⟩) 1 1)).run Tryz.prog (w.alloc (.cells #[.int .u8 (c.toNat:Int)] 5))=.ok (.string (str [c])) (w.alloc (.cells #[.int .u8 (c.toNat:Int)] 5)):=λw c=>
     run_convert_bytes_back (P:=Tryz.prog) _ 106 9 5 ⟨w.heap.size,0,none⟩ 1 [c] Tryz.underlying106 Tryz.underlying5 Tryz.underlying9 (λj hj=>by
      obtain rfl:j=0:=by simp at hj;omega
      exact World.cell?_alloc_new w _ _ 0)
    have Hcv:=hid hcv;have hpl:(hexPart l q p).length<=100:=by rw[Qke l q p (by omega) hp];omega
    clear hcv
    by_cases hp2:p<2
    ·by_cases hp0:p=0
     ·subst hp0
      by_cases hd:X.toNat/16<10
      ·go_wp2_with fail
       rw[show(48+(X.toNat:Int)/16)=((Sm.sign (X.toNat/16)).toNat:Int) from(Qqk _ hd).symm];rw[Hcv.out wr _];generalize Sm.sign (X.toNat/16)=c at H1 |-;have k11:=hK9.out.alloc hsz (.cells #[.int .u8 (c.toNat:Int)] 5)
       have HK11:=hid k11;clear k11;go_wp2
       go_roundw
       case rel=>exact⟨1,by omega,by rw[H1.out,<-Qa5],by go_num,hid HK11.out⟩
       case measure=>simp only[RowKit.intOf];omega
      ·have HSG:((Sm.sign (X.toNat/16)).toNat:Int)=97+(X.toNat:Int)/16-10:=by
        rw[Qmu _ hd (by omega)]
        omega
       go_wp2_with fail
       rw[show(97+(X.toNat:Int)/16-10)=((Sm.sign (X.toNat/16)).toNat:Int) from(HSG).symm];rw[Hcv.out wr _];generalize Sm.sign (X.toNat/16)=c at H1 |-;have k11:=hK9.out.alloc hsz (.cells #[.int .u8 (c.toNat:Int)] 5)
       have HK11:=hid k11;clear k11;go_wp2
       go_roundw
       case rel=>exact⟨1,by omega,by rw[H1.out,<-Qa5],by go_num,hid HK11.out⟩
       case measure=>simp only[RowKit.intOf];omega
     ·obtain rfl:p=1:=by omega
      by_cases hd:X.toNat%16<10
      ·go_wp2_with fail
       rw[show(48+(X.toNat:Int)%16)=((Sm.sign (X.toNat%16)).toNat:Int) from(Qqk _ hd).symm];rw[Hcv.out wr _];generalize Sm.sign (X.toNat%16)=c at H2 |-;have k11:=hK9.out.alloc hsz (.cells #[.int .u8 (c.toNat:Int)] 5)
       have HK11:=hid k11;clear k11;go_wp2
       go_roundw
       case rel=>exact⟨2,by omega,by rw[H2.out,<-Qa5],by go_num,hid HK11.out⟩
       case measure=>simp only[RowKit.intOf];omega
      ·have HSG:((Sm.sign (X.toNat%16)).toNat:Int)=97+(X.toNat:Int)%16-10:=by
        rw[Qmu _ hd (by omega)]
        omega
       go_wp2_with fail
       rw[show(97+(X.toNat:Int)%16-10)=((Sm.sign (X.toNat%16)).toNat:Int) from(HSG).symm];rw[Hcv.out wr _];generalize Sm.sign (X.toNat%16)=c at H2 |-;have k11:=hK9.out.alloc hsz (.cells #[.int .u8 (c.toNat:Int)] 5)
       have HK11:=hid k11;clear k11;go_wp2
       go_roundw
       case rel=>exact⟨2,by omega,by rw[H2.out,<-Qa5],by go_num,hid HK11.out⟩
       case measure=>simp only[RowKit.intOf];omega
    ·obtain rfl:p=2:=by omega
     go_wp2_with fail
     exact⟨⟨q+1,by omega,by rw[H3.out],by rw[Int.natCast_add];rfl,hK9⟩,by simp only[RowKit.intOf];omega⟩
  ·obtain rfl:q=32:=by omega
   go_wp2;go_ret;rw[show hexTo l 32=Sm.hex l by rw[hexTo,List.take_of_length_le (by omega)]]
   exact⟨rfl,by rw[<-HWA.out];exact HK1.out.trans (hK.out.mono (by omega) (λk hk _=>by omega))⟩
end Go.Proofs.YtnlbgggnpoeleaaGreatDoor
