/-
 The landed signs of a digest.
-/
import Derived.Test.YtnlbgggnpoeleaaGreatDoorGB
import Derived.Deep.RegionLaw
import Derived.OwnWalk
set_option maxRecDepth 100000
set_option maxHeartbeats 1600000
namespace Go.Proofs.YtnlbgggnpoeleaaGreatDoor
open Go.RowKit
open Go.Lib (hid)
theorem Qt0 {P:Program}(w:World)(t:TypeId)(ht:P.underlying t=some .string)(d:Nat)(h:d<16):(Instr.index t (.string ⟨#[48,49,50,51,52,53,54,55,56,57,97,98,99,100,101,102]⟩) (.int .u8 (d:Int))).run P w=.ok (.int .u8 ((Sm.sign d).toNat:Int)) w:=by
 rw[run_index_string w t _ _ _ ht];have:d=0\/d=1\/d=2\/d=3\/d=4\/d=5\/d=6\/d=7\/d=8\/d=9\/d=10\/d=11\/d=12\/d=13\/d=14\/d=15:=by omega
 rcases this with rfl|rfl|rfl|rfl|rfl|rfl|rfl|rfl|rfl|rfl|rfl|rfl|rfl|rfl|rfl|rfl <;> rfl
theorem low4 (X:UInt8):bits .and .u8 (X.toNat:Int) 15=((X.toNat%16:Nat):Int):=by
 have h:=X.toNat_lt
 have:∀n:Nat,n<256->bits .and .u8 (n:Int) 15=((n%16:Nat):Int):=by
  intro n hn;rw[show(15:Int)=((15:Nat):Int) from rfl,u8_and_nat n 15 hn (by decide)]
  congr 1
  exact Nat.and_two_pow_sub_one_eq_mod n 4
 exact this _ h
def hrow (l:List UInt8):List Value:=bY l++List.replicate (64-l.length) (Value.int .u8 0)
theorem Qpm (l:List UInt8)(h:l.length<=64):(hrow l).length=64:=by rw[hrow,zE,bZ,List.length_replicate];omega
theorem Qqv (l:List UInt8)(x:UInt8)(h:l.length<64):(hrow l).set l.length (.int .u8 (x.toNat:Int))=hrow (l++[x]):=by
 unfold hrow;have e:64-l.length=(64-(l++[x]).length)+1:=by rw[zE,List.length_singleton];omega
 rw[List.set_append_right _ _ (by rw[bZ];exact zB _),bZ,Nat.sub_self,e,List.replicate_succ,List.set_cons_zero]
 simp[bY]
theorem Qwk:bY (List.replicate 64 0)=hrow []:=by simp[hrow,bY]
def hexTo (l:List UInt8)(q:Nat):List UInt8:=Sm.hex (l.take q)
theorem Qhf (l:List UInt8)(q:Nat)(h:q<l.length):hexTo l (q+1)=hexTo l q++[Sm.sign ((l[q]).toNat/16),Sm.sign ((l[q]).toNat%16)]:=by
 rw[hexTo,hexTo,Sm.hex,Sm.hex,List.take_succ_eq_append_getElem h,List.flatMap_append];simp
theorem Qdu (l:List UInt8):∀q,q<=l.length->(hexTo l q).length=2*q
 | 0,_=>by simp[hexTo,Sm.hex]
 | q+1,h=>by
  rw[Qhf l q (by omega),zE,Qdu l q (by omega)]
  simp only[List.length_cons,List.length_nil]
  omega
theorem Qnl (l:List UInt8)(hl:l.length=32)(w:World):
  Calls Tryz.prog 31 #[.agg (bY l).toArray] w λe w'=>e=.returned (.string (str (Sm.hex l)))/\Kept w.heap.size w.heap.size w w':=by
 have hix:∀q (h:q<l.length),(bY l).toArray[q]?=some (.int .u8 ((l[q]).toNat:Int)):=λq h=>by
  rw[List.getElem?_toArray];exact Qbq l q h
 have hcs:(bY l).toArray.size=32:=by rw[List.size_toArray,bZ,hl]
 have hall:=Qae l;generalize (bY l).toArray=cs at hix hcs hall |-;have HIX:=hid hix;clear hix
 go_enter Tryz.func31,Tryz.ntmps31
 go_wp2_with fail
 have hA:(w.alloc (.cells cs 23)).heap[w.heap.size]?=some (.cells cs 23 (0,0)):=Qaa _ _
 have k1:Kept w.heap.size w.heap.size w (w.alloc (.cells cs 23)):=zI.alloc (zB _) _
 have s1:(w.alloc (.cells cs 23)).heap.size=w.heap.size+1:=by simp
 generalize w.alloc (.cells cs 23)=w1 at hA k1 s1 |-
 obtain⟨wa,hwa⟩:∃wa,wa=w.heap.size:=⟨_,rfl⟩;rw[<-hwa] at hA k1 s1 |-;have HWA:=hid hwa;generalize hr:Result.andThen _ _=r
 have hr2:r=.ok (.value (.slice (some ⟨w1.heap.size,0,none⟩) 0 64)) (w1.alloc (.cells (bY (List.replicate 64 0)).toArray 5)):=by
  rw[<-hr];kernel_rfl
 rw[hr2];clear hr hr2 r hwa;have hB:(w1.alloc (.cells (bY (List.replicate 64 0)).toArray 5)).heap[w1.heap.size]?=some (.cells (bY (List.replicate 64 0)).toArray 5 (0,0)):=Qaa _ _
 have k2:Kept w1.heap.size w1.heap.size w1 (w1.alloc (.cells (bY (List.replicate 64 0)).toArray 5)):=zI.alloc (zB _) _
 have s2:(w1.alloc (.cells (bY (List.replicate 64 0)).toArray 5)).heap.size=w1.heap.size+1:=by simp
 generalize w1.alloc (.cells (bY (List.replicate 64 0)).toArray 5)=w2 at hB k2 s2 |-
 obtain⟨wb,hwb⟩:∃wb,wb=w1.heap.size:=⟨_,rfl⟩;rw[<-hwb] at hB k2 s2 |-;rw[Qwk] at hB;have hab:wa<wb:=by omega
 have hA2:=(k2.block wa (by omega) (by omega)).trans hA
 have hK2:Kept wa wa w w2:=k1.trans (k2.mono (by omega) (λk hk _=>by omega))
 have Hown:Hid (w2.heap[wb]?=some (.cells (hrow (hexTo l 0)).toArray 5 (0,0))):=hid hB
 have HK2:=hid hK2;clear hA hB k1 k2 hK2 hwb s1
 go_wp2_with (with_reducible refine wpList_load_row rfl 23 _ rfl wa rfl 23 cs (0,0) _ hA2 Tryz.underlying23 rfl (by rw[Qbi,hcs]) ?_)
 go_loopw [3,5,8] (λv x j w9=>∃q:Nat,q<=32/\v=.slice (some ⟨wb,0,none⟩) (2*q) 64/\j=.int .i64 (q:Int)/\Hid (w9.heap[wb]?=some (.cells (hrow (hexTo l q)).toArray 5 (0,0)))/\Hid (Kept (wb+1) wb w2 w9)/\wb+1<=w9.heap.size) (λ_ _ j _=>32-(RowKit.intOf j).toNat)
 case atStart=>exact⟨0,by omega,rfl,rfl,Hown,hid zI,by omega⟩
 case round=>
  obtain⟨q,hq,rfl,rfl,hO,hK,hs9⟩:=hrel
  by_cases hlt:q<32
  ·have hrun:=Qc5 wr 23 5 32 cs .i64 q _ (by kernel_rfl) (Tryz.sizeOf5 wr) (Tryz.isAgg5 wr) hlt (HIX.out q (by omega))
   have hmore:=Qhf l q (by omega)
   generalize l[q]'(by omega)=X at hrun hmore
   have hX:=X.toNat_lt;have Hrun:=hid hrun;have Hmore:=hid hmore;clear hrun hmore;obtain⟨i0,hi,hz0,hz1,hz2⟩:=Qhp
   go_wp2_with fail
   rw[Hrun.out]
   go_wp2_with fail
   have a1:=low4 X;have s1:=λw=>Qt0 (P:=Tryz.prog) w 9 Tryz.underlying9 (X.toNat/16) (by omega)
   have s2:=λw=>Qt0 (P:=Tryz.prog) w 9 Tryz.underlying9 (X.toNat%16) (by omega)
   rw[show((X.toNat/16:Nat):Int)=(X.toNat:Int)/16 from rfl] at s1;rw[show((X.toNat%16:Nat):Int)=(X.toNat:Int)%16 from rfl] at s2 a1;have hlen:=Qdu l q (by omega)
   have hrl:=Qpm (hexTo l q) (by omega)
   have c0:=Qby hO.out (2*q) (by omega)
   have c1:=Qby hO.out (2*q+1) (by omega)
   have f0:=Qa0 hO.out (2*q);have f1:=Qa0 hO.out (2*q+1);generalize (hrow (hexTo l q))[2*q]'(by omega)=y0 at c0
   generalize (hrow (hexTo l q))[2*q+1]'(by omega)=y1 at c1
   have hq62:2*q<=62:=by omega
   have hwl:wb<wr.heap.size:=by omega
   have c0a:∀x,(wr.alloc x).cell? ⟨wb,2*q,none⟩=some y0:=λx=>(World.cell?_of_block (w:=wr) (a:=⟨wb,2*q,none⟩) (Below.heap_alloc _ _ _ hwl)).trans c0
   have c1a:∀x,(wr.alloc x).cell? ⟨wb,2*q+1,none⟩=some y1:=λx=>(World.cell?_of_block (w:=wr) (a:=⟨wb,2*q+1,none⟩) (Below.heap_alloc _ _ _ hwl)).trans c1
   have f0a:∀x,(wr.alloc x).frozen? ⟨wb,2*q,none⟩=false:=λx=>(World.frozen?_of_block (w:=wr) (a:=⟨wb,2*q,none⟩) (Below.heap_alloc _ _ _ hwl)).trans f0
   have f1a:∀x,(wr.alloc x).frozen? ⟨wb,2*q+1,none⟩=false:=λx=>(World.frozen?_of_block (w:=wr) (a:=⟨wb,2*q+1,none⟩) (Below.heap_alloc _ _ _ hwl)).trans f1
   go_region
   generalize Sm.sign (X.toNat/16)=g1 at Hmore |-;generalize Sm.sign (X.toNat%16)=g2 at Hmore |-;have e0:=Qqv (hexTo l q) g1 (by omega)
   have e1:=Qqv (hexTo l q++[g1]) g2 (by rw[zE,List.length_singleton];omega)
   rw[hlen] at e0;rw[zE,List.length_singleton,hlen,List.append_assoc,List.singleton_append,<-Hmore.out] at e1;have hw4:=Qaj (Qaj hO.out (2*q) (.int .u8 (g1.toNat:Int))) (2*q+1) (.int .u8 (g2.toNat:Int));rw[e0,e1] at hw4;have k4:=(hK.out.set (b':=wb) (.inl rfl) (2*q) (.int .u8 (g1.toNat:Int))).set (b':=wb) (.inl rfl) (2*q+1) (.int .u8 (g2.toNat:Int));have hsz4:wb+1<=((wr.setCell ⟨wb,2*q,none⟩ (.int .u8 (g1.toNat:Int))).setCell ⟨wb,2*q+1,none⟩ (.int .u8 (g2.toNat:Int))).heap.size:=by simpa [World.setCell] using hs9
   generalize (wr.setCell ⟨wb,2*q,none⟩ (.int .u8 (g1.toNat:Int))).setCell ⟨wb,2*q+1,none⟩ (.int .u8 (g2.toNat:Int))=w8 at hw4 k4 hsz4 |-;have hw5:(w8.alloc (.cells #[.int .u8 (g1.toNat:Int),.int .u8 (g2.toNat:Int)] 5)).drew.heap[wb]?=some (.cells (hrow (hexTo l (q+1))).toArray 5 (0,0)):=(Below.heap_alloc _ _ _ (by omega)).trans hw4
   have k5:Kept (wb+1) wb w2 (w8.alloc (.cells #[.int .u8 (g1.toNat:Int),.int .u8 (g2.toNat:Int)] 5)).drew:=(k4.alloc hsz4 _).drew
   have hsz5:wb+1<=(w8.alloc (.cells #[.int .u8 (g1.toNat:Int),.int .u8 (g2.toNat:Int)] 5)).drew.heap.size:=by have:=k5.size;omega
   generalize (w8.alloc (.cells #[.int .u8 (g1.toNat:Int),.int .u8 (g2.toNat:Int)] 5)).drew=w10 at hw5 k5 hsz5 |-
   clear c0a c1a f0a f1a c0 c1 f0 f1 e0 e1 hw4 k4 hsz4 s1 s2 a1;have HW5:=hid hw5;have HK5:=hid k5;clear hw5 k5;go_wp2
   go_roundw
   case rel=>exact⟨q+1,by omega,by rw[Nat.mul_add],by go_num,hid HW5.out,hid HK5.out,by omega⟩
   case measure=>simp only[RowKit.intOf];omega
  ·obtain rfl:q=32:=by omega
   have hlen:=Qdu l 32 (by omega)
   have hh:hexTo l 32=Sm.hex l:=by rw[hexTo,List.take_of_length_le (by omega)]
   have hcl:=λj (hj:j<(hexTo l 32).length)=>Qag hO.out (show(hrow (hexTo l 32))[j]?=_ by rw[hrow,List.getElem?_append_left (by rw[bZ];exact hj)];exact Qbq (hexTo l 32) j hj)
   have hcv:=run_convert_bytes_back (P:=Tryz.prog) wr 106 9 5 ⟨wb,0,none⟩ 64 (hexTo l 32) Tryz.underlying106 Tryz.underlying5 Tryz.underlying9 (λj hj=>by rw[Addr.add_lit,Nat.zero_add];exact hcl j hj)
   rw[hlen,hh] at hcv;have Hcv:=hid hcv;clear hcv hcl
   go_wp2_with fail
   rw[Hcv.out];go_wp2;go_ret;exact⟨rfl,by rw[<-HWA.out];exact HK2.out.trans (hK.out.mono (by omega) (λk hk _=>by omega))⟩
end Go.Proofs.YtnlbgggnpoeleaaGreatDoor
