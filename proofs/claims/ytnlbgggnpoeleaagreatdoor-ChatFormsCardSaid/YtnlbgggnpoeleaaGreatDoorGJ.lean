/-
 ShaRefWords; ShaTurned; ShaSum: several texts in one.
-/
import Derived.Test.YtnlbgggnpoeleaaGreatDoorGB
set_option maxRecDepth 100000
set_option maxHeartbeats 12800000
namespace Go.Proofs.YtnlbgggnpoeleaaGreatDoor
open Go.RowKit
open Go.Lib (hid)
theorem Qbd (x:UInt32)(n:Nat)(h1:1<=n)(h2:n<=31)(w:World):Calls Tryz.prog 154 #[w32 x,.int .u64 n] w λe w'=>e=.returned (w32 (Sm.rotr x n))/\w'=w:=by
 have hlt:=x.toNat_lt
 have hq:bits BinOp.or IntKind.u32 ((x.toNat:Int)/2 ^ n) ((x.toNat:Int)*2 ^ (32-n)%4294967296)=((Sm.rotr x n).toNat:Int):=by
  have:=Qwx (x.toNat/2 ^ n) (x.toNat*2 ^ (32-n)%4294967296) (Nat.lt_of_le_of_lt (Nat.div_le_self _ _) hlt) (Nat.mod_lt _ (by decide))
  rw[Sm.rotr,<-this];simp
 have Hq:=hid hq;clear hq;unfold w32
 go_enter Tryz.func154,Tryz.ntmps154
 go_wp2;rw[Hq.out];go_ret;exact⟨rfl,rfl⟩
theorem Qq9 (l:List UInt8)(g cap i:Nat)(w:World)(hi:i+4<=l.length)(hl:l.length<=1000000)(hcell:∀j (hj:j<l.length),w.cell? ⟨g,j,none⟩=some (.int .u8 (l[j]).toNat)):
  Calls Tryz.prog 153 #[.slice (some ⟨g,0,none⟩) l.length cap,.int .i64 i] w λe w'=>e=.returned (w32 (Sm.word l i))/\∃n,w'=w.drewN n:=by
 have c0:=hcell i (by omega)
 have c1:=hcell (i+1) (by omega)
 have c2:=hcell (i+2) (by omega)
 have c3:=hcell (i+3) (by omega)
 have b0:=(l[i]'(by omega)).toNat_lt
 have b1:=(l[i+1]'(by omega)).toNat_lt
 have b2:=(l[i+2]'(by omega)).toNat_lt
 have b3:=(l[i+3]'(by omega)).toNat_lt
 have hq:=Qtn _ _ _ _ b0 b1 b2 b3
 have hw:Value.int .u32 (((l[i]'(by omega)).toNat*16777216+(l[i+1]'(by omega)).toNat*65536+(l[i+2]'(by omega)).toNat*256+(l[i+3]'(by omega)).toNat:Nat):Int)=w32 (Sm.word l i):=by
  rw[w32,Sm.word,UInt32.toNat_ofNat',Nat.mod_eq_of_lt]
  ·simp only[List.getD_eq_getElem?_getD,List.getElem?_eq_getElem (show i<l.length by omega),List.getElem?_eq_getElem (show i+1<l.length by omega),List.getElem?_eq_getElem (show i+2<l.length by omega),List.getElem?_eq_getElem (show i+3<l.length by omega),Option.getD_some]
  ·simp only[List.getD_eq_getElem?_getD,List.getElem?_eq_getElem (show i<l.length by omega),List.getElem?_eq_getElem (show i+1<l.length by omega),List.getElem?_eq_getElem (show i+2<l.length by omega),List.getElem?_eq_getElem (show i+3<l.length by omega),Option.getD_some]
   omega
 have Hq:=hid hq;have Hw:=hid hw;clear hcell hq hw
 go_enter Tryz.func153,Tryz.ntmps153
 go_wp2_with fail
 go_quiet (fail)
 go_wp2;rw[Hq.out,Hw.out];go_ret;exact⟨rfl,nq,rfl⟩
theorem Qw6 (x:UInt32)(w:World):Calls Tryz.prog 154 #[.int .u32 (x.toNat:Int),.int .u64 2] w λe w'=>e=.returned (.int .u32 ((Sm.rotr x 2).toNat:Int))/\w'=w:=Qbd x 2 (by decide) (by decide) w
theorem Qw5 (x:UInt32)(w:World):Calls Tryz.prog 154 #[.int .u32 (x.toNat:Int),.int .u64 6] w λe w'=>e=.returned (.int .u32 ((Sm.rotr x 6).toNat:Int))/\w'=w:=Qbd x 6 (by decide) (by decide) w
theorem Qw4 (x:UInt32)(w:World):Calls Tryz.prog 154 #[.int .u32 (x.toNat:Int),.int .u64 7] w λe w'=>e=.returned (.int .u32 ((Sm.rotr x 7).toNat:Int))/\w'=w:=Qbd x 7 (by decide) (by decide) w
theorem Qvy (x:UInt32)(w:World):Calls Tryz.prog 154 #[.int .u32 (x.toNat:Int),.int .u64 11] w λe w'=>e=.returned (.int .u32 ((Sm.rotr x 11).toNat:Int))/\w'=w:=Qbd x 11 (by decide) (by decide) w
theorem Qvx (x:UInt32)(w:World):Calls Tryz.prog 154 #[.int .u32 (x.toNat:Int),.int .u64 13] w λe w'=>e=.returned (.int .u32 ((Sm.rotr x 13).toNat:Int))/\w'=w:=Qbd x 13 (by decide) (by decide) w
theorem Qvw (x:UInt32)(w:World):Calls Tryz.prog 154 #[.int .u32 (x.toNat:Int),.int .u64 17] w λe w'=>e=.returned (.int .u32 ((Sm.rotr x 17).toNat:Int))/\w'=w:=Qbd x 17 (by decide) (by decide) w
theorem Qvv (x:UInt32)(w:World):Calls Tryz.prog 154 #[.int .u32 (x.toNat:Int),.int .u64 18] w λe w'=>e=.returned (.int .u32 ((Sm.rotr x 18).toNat:Int))/\w'=w:=Qbd x 18 (by decide) (by decide) w
theorem Qvu (x:UInt32)(w:World):Calls Tryz.prog 154 #[.int .u32 (x.toNat:Int),.int .u64 19] w λe w'=>e=.returned (.int .u32 ((Sm.rotr x 19).toNat:Int))/\w'=w:=Qbd x 19 (by decide) (by decide) w
theorem Qvt (x:UInt32)(w:World):Calls Tryz.prog 154 #[.int .u32 (x.toNat:Int),.int .u64 22] w λe w'=>e=.returned (.int .u32 ((Sm.rotr x 22).toNat:Int))/\w'=w:=Qbd x 22 (by decide) (by decide) w
theorem Qvs (x:UInt32)(w:World):Calls Tryz.prog 154 #[.int .u32 (x.toNat:Int),.int .u64 25] w λe w'=>e=.returned (.int .u32 ((Sm.rotr x 25).toNat:Int))/\w'=w:=Qbd x 25 (by decide) (by decide) w
theorem Qnr:∀ (l:List UInt32) (a b:Nat),a<l.length->b<4->(l.flatMap Sm.bytes4)[4*a+b]?=some (UInt8.ofNat ((l.getD a 0).toNat/256 ^ (3-b)))
 | [],_,_,h,_=>by simp at h
 | x::l,0,b,_,hb=>by
  rw[List.flatMap_cons,Nat.mul_zero,Nat.zero_add,List.getElem?_append_left (by rw[Qc7];exact hb)]
  simp[Sm.bytes4,hb]
 | x::l,a+1,b,h,hb=>by
  rw[List.flatMap_cons,List.getElem?_append_right (by rw[Qc7];omega),Qc7,show 4*(a+1)+b-4=4*a+b by omega,Qnr l a b (by simpa using h) hb]
  simp
def Qww:Array Value:=(wcells (List.replicate 8 0)).toArray
theorem Qtk : #[Value.int IntKind.u32 0,Value.int IntKind.u32 0,Value.int IntKind.u32 0,Value.int IntKind.u32 0,Value.int IntKind.u32 0,Value.int IntKind.u32 0,Value.int IntKind.u32 0,Value.int IntKind.u32 0]=Qww:=rfl
theorem Qtx {P:Program}(w:World)(g:Nat)(t:TypeId)(old cs:Array Value)(hg:w.heap[g]?=some (.cells old t (0,0)))(ho:old.size=cs.size)(h1:cs.all (·.oneCell')=true):(storeCells ⟨g,0,none⟩ cs.toList).run P w=.ok () (w.setRow g cs):=by
 have:=run_storeCells_from (P:=P) g t cs.toList 0 old w hg (by simp;omega) (λv hv=>(Array.all_eq_true_iff_forall_mem.1 h1) v (by simpa using hv))
 rw[this];simp
theorem Qra (l:List UInt32)(i:Nat)(x:UInt32):(wcells l).set i (w32 x)=wcells (l.set i x):=by simp[wcells,List.map_set]
theorem Qe3 (s:ByteArray)(w:World)(hs:s.size<=20000):Calls Tryz.prog 132 #[.string s] w λe w'=>e=.returned (.agg (bY (Sm.sum s.data.toList)).toArray)/\Kept w.heap.size w.heap.size w w':=by
 go_enter Tryz.func132,Tryz.ntmps132
 go_upto_region 1 with fail
 rw[Qao];have hA:(w.alloc (.cells zY 22)).heap[w.heap.size]?=some (.cells zY 22 (0,0)):=Qaa _ _
 have k1:Kept w.heap.size w.heap.size w (w.alloc (.cells zY 22)):=zI.alloc (zB _) _
 have s1:(w.alloc (.cells zY 22)).heap.size=w.heap.size+1:=by simp
 generalize w.alloc (.cells zY 22)=w1 at hA k1 s1 |-
 refine zA ?_;refine wpList_build rfl _ _ rfl (by kernel_rfl) ?_
 generalize hk:Option.getD (Program.built _ _ _) _=kc;have hkc:kc=kcells:=hk.symm.trans (by kernel_rfl)
 clear hk;have hksz:kc.size=64:=by rw[hkc];rfl
 have hkall:kc.all (·.oneCell')=true:=by rw[hkc];kernel_rfl
 have Hkc:=hid hkc;clear hkc;have hst:=Qce (P:=Tryz.prog) w1 229 Qbg kc (by rw[hksz];rfl) hkall
 rw[s1] at hst;have Hst:=hid hst;clear hst
 go_wp2_with fail
 rw[Qd2,Hst.out];have hB:(w1.alloc (.cells kc 229)).heap[w.heap.size+1]?=some (.cells kc 229 (0,0)):=by rw[<-s1];exact Qaa _ _
 have hA:=(Below.heap_alloc w1 (.cells kc 229) w.heap.size (by omega)).trans hA
 have k2:=k1.alloc k1.size (.cells kc 229)
 have s2:(w1.alloc (.cells kc 229)).heap.size=w.heap.size+2:=by simp;omega
 clear Hst k1;generalize w1.alloc (.cells kc 229)=w2 at hA hB k2 s2 |-
 clear s1
 go_wp2_with fail
 rw[run_bytes_of_string (P:=Tryz.prog) w2 9 106 5 s Tryz.underlying9 Tryz.underlying106 Tryz.underlying5]
 have hbuf:=Buf.made w2 s (by unfold maxLen;omega)
 have k4:Kept w2.heap.size w2.heap.size w2 (w2.drew.alloc (.cells (bytesRow s (grownCap w2 s.size 0 5)) 5 ((bytesRow s (grownCap w2 s.size 0 5)).size,(bytesRow s (grownCap w2 s.size 0 5)).size+1))):=zI.drew.alloc (zB _) _
 generalize w2.drew.alloc (.cells (bytesRow s (grownCap w2 s.size 0 5)) 5 ((bytesRow s (grownCap w2 s.size 0 5)).size,(bytesRow s (grownCap w2 s.size 0 5)).size+1))=w4 at hbuf k4 |-
 generalize Value.slice (some ⟨w2.heap.size,0,none⟩) s.size (grownCap w2 s.size 0 5)=v4 at hbuf |-
 have hlen:s.data.toList.length=s.size:=by simp
 have hs4:=k4.size;have hb5:Buf (w4.alloc (.cells #[.int .u8 128] 5)) w2.heap.size v4 s.data.toList:=hbuf.same λk _ hk=>Below.heap_alloc _ _ _ hk
 have hc5:(w4.alloc (.cells #[.int .u8 128] 5)).cell? ⟨w4.heap.size,0,none⟩=some (.int .u8 (128:UInt8).toNat):=(World.cell?_alloc_new w4 _ _ 0).trans rfl
 have k5:=k4.alloc hs4 (.cells #[.int .u8 128] 5)
 have hs5:=k5.size;rw[s2] at hb5 k5 hs5;obtain⟨i0,hi,hz0,hz1,hz2⟩:=Qhp;clear hbuf k4 hs4
 go_wp2_with (at_builtin;refine Qb6 rfl _ _ 106 rfl (w.heap.size+2) i0 Tryz.underlying106 hi hz0 hz1 hz2 v4 _ rfl hb5 ⟨w4.heap.size,0,none⟩ 1 128 rfl hc5 (by omega) hs5 ?_)
 intro v6 w6 hb6 hg6;have k6:Kept (w.heap.size+2) (w.heap.size+2) w2 w6:=k5.grown hg6 hs5 (λk hk=>by obtain⟨g,h1,h2,_⟩:=hb5.own;rw[h1] at hk;cases hk;exact h2)
 clear hb5 hc5 k5 hs5 hg6;rw[Qry] at hb6
 go_wp2_with fail
 go_loopw [4] (λv w9=>∃j,j<=Sm.zeros s.size/\Hid (Buf w9 (w.heap.size+2) v (padTo s.data.toList j))/\Kept (w.heap.size+2) (w.heap.size+2) w2 w9/\w.heap.size+2<=w9.heap.size) (λv _=>100000-slen v)
 case atStart=>exact⟨0,Nat.zero_le _,hid hb6,k6,by have:=k6.size;omega⟩
 case round=>
  obtain⟨j,hj,hb9,k9,hs9⟩:=hrel;obtain⟨g,cap,hv9,hg1,hg2,hcap,hcell⟩:=hb9.out.cells;have hLl:(padTo s.data.toList j).length=s.size+1+j:=by rw[Qe7,hlen]
  rw[hLl] at hv9 hcap;clear hcell;have hzz:Sm.zeros s.size<64:=Nat.mod_lt _ (by decide)
  subst hv9
  by_cases hlt:j<Sm.zeros s.size
  ·
   have h56:¬(s.size+1+j)%64=56:=by unfold Sm.zeros at hlt;omega
   have hb10:=hb9.out.same (w':=wr.alloc (.cells #[.int .u8 0] 5)) λk _ hk=>Below.heap_alloc _ _ _ hk
   have hc10:(wr.alloc (.cells #[.int .u8 0] 5)).cell? ⟨wr.heap.size,0,none⟩=some (.int .u8 (0:UInt8).toNat):=(World.cell?_alloc_new wr _ _ 0).trans rfl
   have k10:=k9.alloc hs9 (.cells #[.int .u8 0] 5)
   have hs10:w.heap.size+2<=(wr.alloc (.cells #[.int .u8 0] 5)).heap.size:=by simp;omega
   have Hb10:=hid hb10;clear hb10
   go_wp2_with (at_builtin;refine Qb6 rfl _ _ 106 rfl (w.heap.size+2) i0 Tryz.underlying106 hi hz0 hz1 hz2 _ _ rfl Hb10.out ⟨wr.heap.size,0,none⟩ 1 0 rfl hc10 (by rw[hLl];omega) hs10 ?_)
   intro v11 w11 hb11 hg11;have k11:Kept (w.heap.size+2) (w.heap.size+2) w2 w11:=k10.grown hg11 hs10 (λk hk=>by cases hk;exact hg1)
   have hs11:=hg11.size;rw[Qrz] at hb11;obtain⟨g2,cap2,hv11,_⟩:=hb11.cells;have hLl2:(padTo s.data.toList (j+1)).length=s.size+1+(j+1):=by rw[Qe7,hlen]
   rw[hLl2] at hv11;have Hb11:=hid hb11;clear hb11 hg11 hc10;subst hv11;go_wp2
   go_roundw
   case rel=>exact⟨j+1,by omega,Hb11,k11,by omega⟩
   case measure=>simp[slen];omega
  ·obtain rfl:j=Sm.zeros s.size:=by omega
   have h56:(s.size+1+Sm.zeros s.size)%64=56:=by unfold Sm.zeros;omega
   have hb12:Hid (Buf wr (w.heap.size+2) (.slice (some ⟨g,0,none⟩) (s.size+1+Sm.zeros s.size) cap) (padLen s.data.toList 0)):=hid (by rw[<-Qox,hlen];exact hb9.out)
   clear hb9 hcap hLl hlt hj
   go_wp2_with fail
   rw[show(((s.size:Int)+1+(Sm.zeros s.size:Int))%64 != 56)=false by rw[bne_eq_false_iff_eq];omega]
   clear h56
   go_loopw [4,6] (λv i w9=>∃j:Nat,j<=8/\i=.int .i64 j/\Hid (Buf w9 (w.heap.size+2) v (padLen s.data.toList j))/\Kept (w.heap.size+2) (w.heap.size+2) w2 w9/\w.heap.size+2<=w9.heap.size) (λ_ i _=>8-(RowKit.intOf i).toNat)
   case atStart=>exact⟨0,by omega,rfl,hb12,k9,hs9⟩
   case round=>
    obtain⟨j,hj,rfl,hb13,k13,hs13⟩:=hrel;obtain⟨g,cap,hv13,hg1,hg2,hcap,hcell⟩:=hb13.out.cells;have hLl:(padLen s.data.toList j).length=s.size+1+Sm.zeros s.size+j:=by rw[Qgh _ _ hj,hlen]
    rw[hLl] at hv13 hcap;clear hcell;subst hv13
    by_cases hlt:j<8
    ·
     have hX:=lenbyte s.size j hlt;have hb14:=hb13.out.same (w':=wr.alloc (.cells #[.int .u8 ((s.size:Int)*8/2 ^ (56-8*j)%256)] 5)) λk _ hk=>Below.heap_alloc _ _ _ hk
     have hc14:(wr.alloc (.cells #[.int .u8 ((s.size:Int)*8/2 ^ (56-8*j)%256)] 5)).cell? ⟨wr.heap.size,0,none⟩=some (.int .u8 (UInt8.ofNat (8*s.size/256 ^ (7-j))).toNat):=(World.cell?_alloc_new wr _ _ 0).trans (by rw[<-hX];rfl)
     have k14:=k13.alloc hs13 (.cells #[.int .u8 ((s.size:Int)*8/2 ^ (56-8*j)%256)] 5)
     have hs14:w.heap.size+2<=(wr.alloc (.cells #[.int .u8 ((s.size:Int)*8/2 ^ (56-8*j)%256)] 5)).heap.size:=by simp;omega
     have Hb14:=hid hb14;have Hc14:=hid hc14;have K14:=hid k14;have HS14:=hid hs14;clear hb14 hX hc14 k14 hs14
     go_wp2_with (at_builtin;refine Qb6 rfl _ _ 106 rfl (w.heap.size+2) i0 Tryz.underlying106 hi hz0 hz1 hz2 _ _ rfl Hb14.out ⟨wr.heap.size,0,none⟩ 1 _ rfl Hc14.out (by rw[hLl];omega) HS14.out ?_)
     intro v15 w15 hb15 hg15;have k15:Kept (w.heap.size+2) (w.heap.size+2) w2 w15:=K14.out.grown hg15 HS14.out (λk hk=>by cases hk;exact hg1)
     have hs15:=hg15.size;have hs16:=HS14.out;rw[show 8*s.size=8*s.data.toList.length by rw[hlen],Qoy _ _ hlt] at hb15
     obtain⟨g2,cap2,hv15,_⟩:=hb15.cells;have hLl2:(padLen s.data.toList (j+1)).length=s.size+1+Sm.zeros s.size+(j+1):=by rw[Qgh _ _ (by omega),hlen]
     rw[hLl2] at hv15;have Hb15:=hid hb15;clear hb15 hg15;subst hv15;go_wp2
     go_roundw
     case rel=>exact⟨j+1,by omega,by go_num,Hb15,k15,by omega⟩
     case measure=>simp[RowKit.intOf];omega
    ·obtain rfl:j=8:=by omega
     have hb16:Hid (Buf wr (w.heap.size+2) (.slice (some ⟨g,0,none⟩) (s.size+1+Sm.zeros s.size+8) cap) (Sm.pad s.data.toList)):=hid (by rw[<-Qr2];exact hb13.out)
     clear hb13 hb12 hcap hLl hlt hj;have hMp:(Sm.pad s.data.toList).length=s.size+1+Sm.zeros s.size+8:=by rw[Sm.pad_length,hlen]
     have hM64:=Sm.pad_mod s.data.toList;rw[hMp] at hM64;have hMs:s.size+1+Sm.zeros s.size+8<=30000:=by omega
     obtain⟨gg,cc,hvv,hgg1,hgg2,hcc,hcell⟩:=hb16.out.cells;rw[hMp] at hvv;simp only[Value.slice.injEq,Option.some.injEq,Addr.mk.injEq,and_true,true_and] at hvv;obtain⟨rfl,rfl⟩:=hvv;generalize hpp:Sm.pad s.data.toList=P at hb16 hMp hcell;generalize hM:s.size+1+Sm.zeros s.size+8=M at *;have hAr:=(k13.block w.heap.size (by omega) (by omega)).trans hA
     have hBr:=(k13.block (w.heap.size+1) (by omega) (by omega)).trans hB
     have Hcell:=hid hcell;have HP:=hid hpp;have HMp:=hid hMp;clear hcell hpp hb16 hM hA hB
     go_wp2_with fail
     rw[Qho,show((8:Nat):Int)=8 from rfl];have kv:Kept wr.heap.size wr.heap.size wr (wr.alloc (.cells (wcells Sm.init.list).toArray 230)):=zI.alloc (zB _) _
     have hV:(wr.alloc (.cells (wcells Sm.init.list).toArray 230)).heap[wr.heap.size]?=some (.cells (wcells Sm.init.list).toArray 230 (0,0)):=Qaa _ _
     have sv:(wr.alloc (.cells (wcells Sm.init.list).toArray 230)).heap.size=wr.heap.size+1:=by simp
     generalize wr.alloc (.cells (wcells Sm.init.list).toArray 230)=wv at kv hV sv |-
     have hcv:∀j (hj:j<P.length),wv.cell? ⟨g,j,none⟩=some (.int .u8 (P[j]).toNat):=λj hj=>(kv.cell (p:=⟨g,j,none⟩) hgg2 (by show g≠_;omega)).trans (Hcell.out j hj)
     have Hcv:=hid hcv;have hBv:=(kv.block (w.heap.size+1) (by omega) (by omega)).trans hBr
     have hAv:=(kv.block w.heap.size (by omega) (by omega)).trans hAr
     have hBs:w.heap.size+2<=wr.heap.size:=hs13;clear hcv Hcell hAr hBr;obtain⟨vb,hvb⟩:∃vb,vb=wr.heap.size:=⟨_,rfl⟩;rw[<-hvb] at kv hV sv hgg2 hBs |-;have hKv:Kept w.heap.size w.heap.size w wv:=(k2.trans (k13.mono (by omega) (λk hk _=>by omega))).trans (kv.mono (by omega) (λk hk _=>by omega))
     have HKv:=hid hKv;clear hvb k13 kv hKv
     go_loopw [8] (λi w9=>∃t:Nat,64*t<=M/\i=.int .i64 (64*(t:Int))/\Hid (w9.heap[vb]?=some (.cells (wcells (Sm.blocks P t).list).toArray 230 (0,0)))/\Kept (vb+1) vb wv w9/\vb+1<=w9.heap.size) (λi _=>M-(RowKit.intOf i).toNat)
     case atStart=>exact⟨0,by omega,rfl,hid hV,Kept.refl _ _ _,by omega⟩
     case round=>
      obtain⟨t,ht,rfl,hV9,k9,hs9'⟩:=hrel
      by_cases hlt:64*t<M
      ·go_wp2_with fail
       rw[Qd2,Qvn];have hW0:(wr.alloc (.cells (wrow []).toArray 229)).heap[wr.heap.size]?=some (.cells (wrow []).toArray 229 (0,0)):=Qaa _ _
       have kw:Kept wr.heap.size wr.heap.size wr (wr.alloc (.cells (wrow []).toArray 229)):=zI.alloc (zB _) _
       have sw:(wr.alloc (.cells (wrow []).toArray 229)).heap.size=wr.heap.size+1:=by simp
       generalize wr.alloc (.cells (wrow []).toArray 229)=ww at kw hW0 sw |-
       obtain⟨wb,hwb⟩:∃wb,wb=wr.heap.size:=⟨_,rfl⟩;rw[<-hwb] at kw hW0 sw hs9' |-;clear hwb;have hMt:64*t+64<=M:=by omega
       have hcw:∀j (hj:j<P.length),ww.cell? ⟨g,j,none⟩=some (.int .u8 (P[j]).toNat):=λj hj=>((kw.cell (p:=⟨g,j,none⟩) (by show g<wb;omega) (by show g≠wb;omega)).trans (k9.cell (p:=⟨g,j,none⟩) (by show g<_;omega) (by show g≠vb;omega))).trans (Hcv.out j hj)
       have Hcw:=hid hcw;have hVw:=hid ((kw.block vb (by omega) (by omega)).trans hV9.out)
       have hBw:=hid (((kw.block (w.heap.size+1) (by omega) (by omega)).trans (k9.block (w.heap.size+1) (by omega) (by omega))).trans hBv)
       clear hcw;rw[show decide (64*(t:Int)<(M:Int))=true by rw[decide_eq_true_iff];omega]
       go_loopw [10] (λi w9=>∃q:Nat,q<=16/\i=.int .i64 (q:Int)/\Hid (w9.heap[wb]?=some (.cells (wrow (Sm.first P (64*t) q)).toArray 229 (0,0)))/\Kept (wb+1) wb ww w9/\wb+1<=w9.heap.size) (λi _=>16-(RowKit.intOf i).toNat)
       case atStart=>exact⟨0,by omega,rfl,hid hW0,Kept.refl _ _ _,by omega⟩
       case round=>
        obtain⟨q,hq,rfl,hW,k20,hs20⟩:=hrel
        by_cases hlt2:q<16
        ·
         have hword:=Qq9 P g cap (64*t+4*q) wr (by rw[HMp.out];omega) (by rw[HMp.out];omega) (λj hj=>(k20.cell (p:=⟨g,j,none⟩) (by show g<_;omega) (by show g≠wb;omega)).trans (Hcw.out j hj))
         rw[HMp.out] at hword;unfold w32 at hword;have Hword:=hid hword;have hfl:=Sm.first_length P (64*t) q;have hwl:=Qec (Sm.first P (64*t) q) (by omega)
         have cq:=Qby hW.out q (by omega)
         have fq:=Qa0 hW.out q;have hset:=Qaj hW.out q (w32 (Sm.word P (64*t+4*q)));have e1:=Qic (Sm.first P (64*t) q) (Sm.word P (64*t+4*q)) (by omega)
         rw[hfl] at e1;rw[e1] at hset;have Hset:=hid hset;have k21:=k20.set (b':=wb) (.inl rfl) q (w32 (Sm.word P (64*t+4*q)));unfold w32 at k21;clear hset e1 hword;generalize hu:(wrow (Sm.first P (64*t) q))[q]=u at cq;clear hu
         go_wp2_with fail
         rw[show(64*(t:Int)+4*(q:Int))=((64*t+4*q:Nat):Int) by omega]
         refine Hword.out.mono ?_;rintro e w21 ⟨rfl,nn,rfl⟩;go_wp2
         go_roundw
         case rel=>exact⟨q+1,by omega,by go_num,hid Hset.out,k21.drewN nn,by simp[World.setCell];omega⟩
         case measure=>simp[RowKit.intOf];omega
        ·obtain rfl:q=16:=by omega
         go_wp2_with fail
         rw[show((16:Nat):Int)=16 from rfl]
         go_loopw [11,12,13] (λi x y w9=>∃q:Nat,q<=48/\i=.int .i64 (16+(q:Int))/\Hid (w9.heap[wb]?=some (.cells (wrow (Sm.exts (Sm.first P (64*t) 16) q)).toArray 229 (0,0)))/\Kept (wb+1) wb ww w9/\wb+1<=w9.heap.size) (λi _ _ _=>64-(RowKit.intOf i).toNat)
         case atStart=>exact⟨0,by omega,rfl,hW,k20,hs20⟩
         case round=>
          obtain⟨q,hq,rfl,hW5,k25,hs25⟩:=hrel
          by_cases hlt3:q<48
          ·
           have hfl:(Sm.exts (Sm.first P (64*t) 16) q).length=16+q:=by rw[Sm.exts_length,Sm.first_length]
           obtain⟨L,hL⟩:∃L,L=Sm.exts (Sm.first P (64*t) 16) q:=⟨_,rfl⟩;rw[<-hL] at hfl hW5;have hx:wr.cell? ⟨wb,16+q-15,none⟩=_:=Qag hW5.out (Qev L (16+q-15) (by omega))
           have hy:wr.cell? ⟨wb,16+q-2,none⟩=_:=Qag hW5.out (Qev L (16+q-2) (by omega))
           have h0:=Qag hW5.out (Qev L q (by omega))
           have h7:wr.cell? ⟨wb,16+q-7,none⟩=_:=Qag hW5.out (Qev L (16+q-7) (by omega))
           have hex:Sm.ext L=L++[L.getD q 0+L.getD (16+q-7) 0+Sm.sig0 (L.getD (16+q-15) 0)+Sm.sig1 (L.getD (16+q-2) 0)]:=by
            rw[Sm.ext,hfl,show 16+q-16=q by omega]
           unfold Sm.sig0 Sm.sig1 at hex;rw[show 16+q-7=q+9 by omega] at h7 hex
           have hwl:=Qec L (by omega)
           generalize L.getD (16+q-15) 0=X at hx hex;generalize L.getD (16+q-2) 0=Y at hy hex;generalize L.getD q 0=U at h0 hex;generalize L.getD (q+9) 0=V at h7 hex;obtain⟨Z1,hZ1⟩:∃Z,Z=Sm.rotr X 7 ^^^ Sm.rotr X 18:=⟨_,rfl⟩;obtain⟨N,hN⟩:∃Z,Z=Z1 ^^^ Sm.shr X 3:=⟨_,rfl⟩;obtain⟨Z2,hZ2⟩:∃Z,Z=Sm.rotr Y 17 ^^^ Sm.rotr Y 19:=⟨_,rfl⟩;obtain⟨F,hF⟩:∃Z,Z=Z2 ^^^ Sm.shr Y 10:=⟨_,rfl⟩;obtain⟨UV,hUV⟩:∃Z,Z=U+V:=⟨_,rfl⟩;obtain⟨UN,hUN⟩:∃Z,Z=UV+N:=⟨_,rfl⟩;obtain⟨R,hR⟩:∃Z,Z=UN+F:=⟨_,rfl⟩;rw[<-hZ1,<-hN,<-hZ2,<-hF,<-hUV,<-hUN,<-hR] at hex;have x1:bits .xor .u32 ((Sm.rotr X 7).toNat:Int) ((Sm.rotr X 18).toNat:Int)=(Z1.toNat:Int):=by rw[hZ1];exact Qcc _ _
           have x2:(X.toNat:Int)/8=((Sm.shr X 3).toNat:Int):=Qqg X;have x3:bits .xor .u32 (Z1.toNat:Int) ((Sm.shr X 3).toNat:Int)=(N.toNat:Int):=by rw[hN];exact Qcc _ _
           have y1:bits .xor .u32 ((Sm.rotr Y 17).toNat:Int) ((Sm.rotr Y 19).toNat:Int)=(Z2.toNat:Int):=by rw[hZ2];exact Qcc _ _
           have y2:(Y.toNat:Int)/1024=((Sm.shr Y 10).toNat:Int):=Qmj Y;have y3:bits .xor .u32 (Z2.toNat:Int) ((Sm.shr Y 10).toNat:Int)=(F.toNat:Int):=by rw[hF];exact Qcc _ _
           have a1:IntKind.u32.wrap ((U.toNat:Int)+(V.toNat:Int))=(UV.toNat:Int):=by rw[IntKind.wrap_u32,hUV];exact Qb0 _ _
           have a2:IntKind.u32.wrap ((UV.toNat:Int)+(N.toNat:Int))=(UN.toNat:Int):=by rw[IntKind.wrap_u32,hUN];exact Qb0 _ _
           have a3:IntKind.u32.wrap ((UN.toNat:Int)+(F.toNat:Int))=(R.toNat:Int):=by rw[IntKind.wrap_u32,hR];exact Qb0 _ _
           clear hZ1 hN hZ2 hF hUV hUN hR;have e1:=Qic L R (by omega)
           rw[hfl,<-hex,hL,<-Sm.exts] at e1;rw[<-hL] at e1;have He:=hid e1;unfold w32 at hx hy h0 h7 He;clear hL hex e1
           go_wp2_with fail
           have e16:IntKind.i64.wrap (16+(q:Int)-16)=(q:Int):=by rw[IntKind.wrap_i64];omega
           have e7:IntKind.i64.wrap (16+(q:Int)-7)=(q:Int)+9:=by rw[IntKind.wrap_i64];omega
           have q1:(q:Int)<64:=by omega
           have q2:(0:Int)<=(q:Int)+9:=by omega
           have q3:(q:Int)+9<64:=by omega
           have q4:((q:Int)+9).toNat=q+9:=by omega
           have q5:(16:Int)+(q:Int)<64:=by omega
           have q6:(0:Int)<=16+(q:Int):=by omega
           have q7:((16:Int)+(q:Int)).toNat=16+q:=by omega
           refine wp_region_still_tail 29 (by kernel_rfl) (by kernel_rfl) ?_
           simp only[List.take_succ_cons,List.take_zero,List.drop_succ_cons,List.drop_zero];generalize hw9:({ heap:=wr.heap,tape:=wr.tape,drawn:=wr.drawn+1,os:=wr.os,output:=wr.output }:World)=wd
           have h0d:wd.cell? ⟨wb,q,none⟩=some (.int .u32 (U.toNat:Int)):=by rw[<-hw9];exact h0
           have h7d:wd.cell? ⟨wb,q+9,none⟩=some (.int .u32 (V.toNat:Int)):=by rw[<-hw9];exact h7
           have hWd:wd.heap[wb]?=some (.cells (wrow L).toArray 229 (0,0)):=by rw[<-hw9];exact hW5.out
           have kd:Kept (wb+1) wb ww wd:=by rw[<-hw9];exact k25.drew
           have hsd:wb+1<=wd.heap.size:=by rw[<-hw9];exact hs25
           clear hw9 h0 h7 hx hy;have cq:=Qby hWd (16+q) (by omega)
           have fq:=Qa0 hWd (16+q);have hset:=Qaj hWd (16+q) (.int .u32 (R.toNat:Int));rw[He.out] at hset;have Hset:=hid hset;have kset:=kd.set (b':=wb) (.inl rfl) (16+q) (.int .u32 (R.toNat:Int));generalize hu:(wrow L)[16+q]=u at cq;clear hu hset hWd
           repeat still_step
           still_call (Qw4 X wd)
           repeat still_step
           still_call (Qvv X wd)
           repeat still_step
           still_call (Qvw Y wd)
           repeat still_step
           still_call (Qvu Y wd)
           repeat still_step
           refine wpStill_nil ?_;go_wp2
           go_roundw
           case rel=>exact⟨q+1,by omega,by go_num,hid Hset.out,kset,by simp[World.setCell];omega⟩
           case measure=>simp[RowKit.intOf];omega
          ·obtain rfl:q=48:=by omega
           rw[show((48:Nat):Int)=48 from rfl];have hr:Sm.exts (Sm.first P (64*t) 16) 48=Sm.sched P (64*t):=rfl;rw[hr] at hW5;have hVr:=(k25.block vb (by omega) (by omega)).trans hVw.out
           have hBr:=(k25.block (w.heap.size+1) (by omega) (by omega)).trans hBw.out
           have hcs8:(wcells (Sm.blocks P t).list).toArray.size=8:=rfl;have hall8:(wcells (Sm.blocks P t).list).toArray.all (·.oneCell')=true:=Qcp _
           generalize hvs:(wcells (Sm.blocks P t).list).toArray=vs at hVr hcs8 hall8;have Hvs:=hid hvs.symm;clear hvs
           go_wp2_with (with_reducible refine wpList_load_row rfl 230 _ rfl vb rfl 230 vs (0,0) _ hVr Tryz.underlying230 rfl (by rw[Qip,hcs8]) ?_)
           have hst:=Qce (P:=Tryz.prog) wr 230 Qww vs (by rw[hcs8];rfl) hall8
           rw[Qtk,hst];clear hst;have hS0:(wr.alloc (.cells vs 230)).heap[wr.heap.size]?=some (.cells vs 230 (0,0)):=Qaa _ _
           have ks:Kept wr.heap.size wr.heap.size wr (wr.alloc (.cells vs 230)):=zI.alloc (zB _) _
           have ss:(wr.alloc (.cells vs 230)).heap.size=wr.heap.size+1:=by simp
           generalize wr.alloc (.cells vs 230)=ws at hS0 ks ss |-
           rw[Hvs.out] at hS0;obtain⟨sb,hsb⟩:∃sb,sb=wr.heap.size:=⟨_,rfl⟩;rw[<-hsb] at hS0 ks ss hs25 |-;have hvbsb:vb<sb:=by omega
           have hsl:wrow (Sm.sched P (64*t))=wcells (Sm.sched P (64*t)):=by rw[wrow,Sm.sched_length];simp
           have HWs:Hid (ws.heap[wb]?=some (.cells (wcells (Sm.sched P (64*t))).toArray 229 (0,0))):=hid (by rw[<-hsl];exact(ks.block wb (by omega) (by omega)).trans hW5.out)
           have HVs:Hid (ws.heap[vb]?=some (.cells (wcells (Sm.blocks P t).list).toArray 230 (0,0))):=hid (by rw[<-Hvs.out];exact(ks.block vb (by omega) (by omega)).trans hVr)
           have HBs:Hid (ws.heap[w.heap.size+1]?=some (.cells (wcells Sm.K).toArray 229 (0,0))):=hid (by
            have h:=(ks.block (w.heap.size+1) (by omega) (by omega)).trans hBr
            rw[Hkc.out] at h
            exact h)
           have HKs:Hid (Kept (vb+1) vb wv ws):=hid (((k9.trans (kw.mono (by omega) (λk hk _=>by omega))).trans (k25.mono (by omega) (λk hk _=>by omega))).trans (ks.mono (by omega) (λk hk _=>by omega)))
           have HSB:Hid (ws.heap.size=sb+1):=hid ss;have HS0:=hid hS0;clear hS0 ks ss hsl hr hVr hBr hcs8 hall8 hsb k25 kw k20 hW hW5 Hvs;generalize hV0:Sm.blocks P t=V0 at HS0 HVs;have HV0:=hid hV0;clear hV0
           go_wp2_with fail
           go_loopw [15,16,17,18,19] (λi1 e1 a1 x1 y1 w9=>∃q:Nat,q<=64/\i1=.int .i64 (q:Int)/\∃A B C D E F G I:UInt32,Hid (Sm.rounds (Sm.sched P (64*t)) V0 q=⟨A,B,C,D,E,F,G,I⟩)/\Hid (w9.heap[sb]?=some (.cells (wcells [A,B,C,D,E,F,G,I]).toArray 230 (0,0)))/\Hid (Kept (sb+1) sb ws w9)) (λi1 _ _ _ _ _=>64-(RowKit.intOf i1).toNat)
           case atStart=>exact⟨0,by omega,rfl,V0.a,V0.b,V0.c,V0.d,V0.e,V0.f,V0.g,V0.h,hid rfl,HS0,hid zI⟩
           case round=>
            obtain⟨q,hq,rfl,A,B,C,D,E,F,G,I,hR,hS,hk⟩:=hrel
            by_cases hlt6:q<64
            ·
             have ck:wr.cell? ⟨w.heap.size+1,q,none⟩=some (.int .u32 ((Sm.K.getD q 0).toNat:Int)):=(hk.out.cell (p:=⟨w.heap.size+1,q,none⟩) (by show w.heap.size+1<_;omega) (by show w.heap.size+1≠_;omega)).trans (Qag HBs.out (Qbt Sm.K q (by rw[Qbs];exact hlt6)))
             have cw:wr.cell? ⟨wb,q,none⟩=some (.int .u32 (((Sm.sched P (64*t)).getD q 0).toNat:Int)):=(hk.out.cell (p:=⟨wb,q,none⟩) (by show wb<_;omega) (by show wb≠_;omega)).trans (Qag HWs.out (Qbt (Sm.sched P (64*t)) q (by rw[Sm.sched_length];exact hlt6)))
             have c0:wr.cell? ⟨sb,0,none⟩=some (.int .u32 (A.toNat:Int)):=Qag hS.out (show(wcells [A,B,C,D,E,F,G,I])[0]?=some (w32 A) from rfl);have c1:wr.cell? ⟨sb,1,none⟩=some (.int .u32 (B.toNat:Int)):=Qag hS.out (show(wcells [A,B,C,D,E,F,G,I])[1]?=some (w32 B) from rfl);have c2:wr.cell? ⟨sb,2,none⟩=some (.int .u32 (C.toNat:Int)):=Qag hS.out (show(wcells [A,B,C,D,E,F,G,I])[2]?=some (w32 C) from rfl);have c3:wr.cell? ⟨sb,3,none⟩=some (.int .u32 (D.toNat:Int)):=Qag hS.out (show(wcells [A,B,C,D,E,F,G,I])[3]?=some (w32 D) from rfl);have c4:wr.cell? ⟨sb,4,none⟩=some (.int .u32 (E.toNat:Int)):=Qag hS.out (show(wcells [A,B,C,D,E,F,G,I])[4]?=some (w32 E) from rfl);have c5:wr.cell? ⟨sb,5,none⟩=some (.int .u32 (F.toNat:Int)):=Qag hS.out (show(wcells [A,B,C,D,E,F,G,I])[5]?=some (w32 F) from rfl);have c6:wr.cell? ⟨sb,6,none⟩=some (.int .u32 (G.toNat:Int)):=Qag hS.out (show(wcells [A,B,C,D,E,F,G,I])[6]?=some (w32 G) from rfl);have c7:wr.cell? ⟨sb,7,none⟩=some (.int .u32 (I.toNat:Int)):=Qag hS.out (show(wcells [A,B,C,D,E,F,G,I])[7]?=some (w32 I) from rfl);have hstep:Sm.rounds (Sm.sched P (64*t)) V0 (q+1)=Sm.step ⟨A,B,C,D,E,F,G,I⟩ (Sm.K.getD q 0) ((Sm.sched P (64*t)).getD q 0):=by rw[Sm.rounds,hR.out]
             have q1:(q:Int)<64:=by omega
             generalize Sm.K.getD q 0=kq at ck hstep;generalize (Sm.sched P (64*t)).getD q 0=wq at cw hstep;have HST:=hid hstep;clear hstep
             go_wp2_with fail
             go_quiet (first|(go_at_call 154;with_reducible exact Calls.quiet_of_same (Qw5 E _))|(go_at_call 154;with_reducible exact Calls.quiet_of_same (Qvy E _))|(go_at_call 154;with_reducible exact Calls.quiet_of_same (Qvs E _)))
             rw[Qwz A B C D E F G I kq wq];generalize hT1:Sm.t1 ⟨A,B,C,D,E,F,G,I⟩ kq wq=T1;have d0:(wr.drewN nq).cell? ⟨sb,0,none⟩=some (.int .u32 (A.toNat:Int)):=c0;have d1:(wr.drewN nq).cell? ⟨sb,1,none⟩=some (.int .u32 (B.toNat:Int)):=c1;have d2:(wr.drewN nq).cell? ⟨sb,2,none⟩=some (.int .u32 (C.toNat:Int)):=c2;have d3:(wr.drewN nq).cell? ⟨sb,3,none⟩=some (.int .u32 (D.toNat:Int)):=c3;have d4:(wr.drewN nq).cell? ⟨sb,4,none⟩=some (.int .u32 (E.toNat:Int)):=c4;have d5:(wr.drewN nq).cell? ⟨sb,5,none⟩=some (.int .u32 (F.toNat:Int)):=c5;have d6:(wr.drewN nq).cell? ⟨sb,6,none⟩=some (.int .u32 (G.toNat:Int)):=c6;have hS2:(wr.drewN nq).heap[sb]?=some (.cells (wcells [A,B,C,D,E,F,G,I]).toArray 230 (0,0)):=hS.out
             have hk2:Kept (sb+1) sb ws (wr.drewN nq):=hk.out.drewN _;generalize wr.drewN nq=wr2 at d0 d1 d2 d3 d4 d5 d6 hS2 hk2 |-;have HS2:=hid hS2;have HK2:=hid hk2;clear c0 c1 c2 c3 c4 c5 c6 c7 hS2 hk2 ck cw
             go_wp2_with fail
             go_quiet (first|(go_at_call 154;with_reducible exact Calls.quiet_of_same (Qw6 A _))|(go_at_call 154;with_reducible exact Calls.quiet_of_same (Qvx A _))|(go_at_call 154;with_reducible exact Calls.quiet_of_same (Qvt A _)))
             rw[Qwy A B C D E F G I];generalize hT2:Sm.t2 ⟨A,B,C,D,E,F,G,I⟩=T2;obtain⟨DT,hDT⟩:∃Z,Z=D+T1:=⟨_,rfl⟩;obtain⟨TT,hTT⟩:∃Z,Z=T1+T2:=⟨_,rfl⟩;have a1:((D.toNat:Int)+(T1.toNat:Int))%4294967296=(DT.toNat:Int):=by rw[hDT];exact Qb0 _ _
             have a2:((T1.toNat:Int)+(T2.toNat:Int))%4294967296=(TT.toNat:Int):=by rw[hTT];exact Qb0 _ _
             have hnext:Sm.rounds (Sm.sched P (64*t)) V0 (q+1)=⟨TT,A,B,C,DT,E,F,G⟩:=by
              rw[HST.out,Sm.step,hT1,hT2,hDT,hTT]
             have Hnext:=hid hnext;have hSd:(wr2.drewN nq).heap[sb]?=some (.cells (wcells [A,B,C,D,E,F,G,I]).toArray 230 (0,0)):=HS2.out
             have hkd:Kept (sb+1) sb ws (wr2.drewN nq):=HK2.out.drewN _;clear hnext hT1 hT2 hDT hTT
             go_wp2_with (first
              | (refine wpList_build rfl 230 _ rfl (by kernel_rfl) ?_
                 generalize hb8:Option.getD (Program.built _ _ _) _=kc8;have hkc:kc8 = #[.int .u32 (((T1.toNat:Int)+(T2.toNat:Int))%4294967296),.int .u32 (A.toNat:Int),.int .u32 (B.toNat:Int),.int .u32 (C.toNat:Int),.int .u32 (((D.toNat:Int)+(T1.toNat:Int))%4294967296),.int .u32 (E.toNat:Int),.int .u32 (F.toNat:Int),.int .u32 (G.toNat:Int)]:=hb8.symm.trans (by kernel_rfl)
                 rw[a1,a2] at hkc;have hkc2:kc8=(wcells [TT,A,B,C,DT,E,F,G]).toArray:=hkc;have hk8:kc8.size=8:=by rw[hkc2];rfl
                 have hall8:kc8.all (·.oneCell')=true:=by rw[hkc2];exact Qcp _
                 have HKC:=hid hkc2
                 clear hb8 hkc hkc2))
             rw[Qtx (P:=Tryz.prog) (wr2.drewN nq) sb 230 _ kc8 hSd (hk8.symm ▸ rfl) hall8]
             have hS9:((wr2.drewN nq).setRow sb kc8).heap[sb]?=some (.cells kc8 230 (0,0)):=setRow_heap _ sb _ kc8 _ _ hSd
             have hk9:Kept (sb+1) sb ws ((wr2.drewN nq).setRow sb kc8):=hkd.trans ⟨rfl,rfl,rfl,by simp[World.setRow],λk _ hne=>setRow_other _ sb k kc8 hne⟩
             rw[HKC.out] at hS9 hk9 |-;generalize (wr2.drewN nq).setRow sb (wcells [TT,A,B,C,DT,E,F,G]).toArray=w9 at hS9 hk9 |-;have HS9:=hid hS9;have HK9:=hid hk9;clear hS9 hk9 hSd hkd hk8 hall8;go_wp2
             go_roundw
             case rel=>exact⟨q+1,by omega,by go_num,TT,A,B,C,DT,E,F,G,hid Hnext.out,hid HS9.out,hid HK9.out⟩
             case measure=>simp only[RowKit.intOf];omega
            ·obtain rfl:q=64:=by omega
             have hblk:Sm.blocks P (t+1)=Sm.plus V0 ⟨A,B,C,D,E,F,G,I⟩:=by rw[Sm.blocks,Sm.block,HV0.out,hR.out]
             have hVr:wr.heap[vb]?=some (.cells (wcells (plusTo V0.list [A,B,C,D,E,F,G,I] 0)).toArray 230 (0,0)):=by
              rw[show [A,B,C,D,E,F,G,I]=(⟨A,B,C,D,E,F,G,I⟩:Sm.St).list from rfl,Qi2];exact(hk.out.block vb (by omega) (by omega)).trans HVs.out
             have hSr:=hS.out;obtain⟨S,hSdef⟩:∃S,S=[A,B,C,D,E,F,G,I]:=⟨_,rfl⟩;have hSl:S.length=8:=by rw[hSdef];rfl
             rw[<-hSdef] at hVr hSr
             have hall:plusTo V0.list S 8=(Sm.blocks P (t+1)).list:=by
              rw[hblk,<-Qky,hSdef]
              rfl
             obtain⟨V,hVdef⟩:∃V,V=V0.list:=⟨_,rfl⟩;have hVl:V.length=8:=by rw[hVdef];rfl
             rw[<-hVdef] at hVr hall;have Hall:=hid hall;have HVr:=hid hVr;have HSr:=hid hSr;have hKr:Kept (vb+1) vb wv wr:=HKs.out.trans (hk.out.mono (by omega) (λk hk _=>by omega))
             have HKr:=hid hKr;have hszr:sb+1<=wr.heap.size:=by have:=hk.out.size;have:=HSB.out;omega
             clear hblk hVr hSr hall hSdef hVdef hKr;rw[show((64:Nat):Int)=64 from rfl]
             go_wp2_with fail
             generalize hwr:wr=wx at HVr HSr HKr hszr |-;clear hwr
             go_loopw [20] (λi1 w9=>∃q:Nat,q<=8/\i1=.int .i64 (q:Int)/\Hid (w9.heap[vb]?=some (.cells (wcells (plusTo V S q)).toArray 230 (0,0)))/\Hid (Kept (sb+1) vb wx w9)) (λi1 _=>8-(RowKit.intOf i1).toNat)
             case atStart=>exact⟨0,by omega,rfl,HVr,hid zI⟩
             case round=>
              obtain⟨q,hq,rfl,hV7,hk7⟩:=hrel
              by_cases hlt7:q<8
              ·
               have c1:wr.cell? ⟨vb,q,none⟩=some (w32 ((plusTo V S q).getD q 0)):=Qag hV7.out (Qbt _ q (by rw[Qca];exact hlt7))
               rw[Qi3 _ _ _ _ hlt7,if_neg (Nat.lt_irrefl q)] at c1;have c2:wr.cell? ⟨sb,q,none⟩=some (w32 (S.getD q 0)):=(hk7.out.cell (p:=⟨sb,q,none⟩) (by show sb<_;omega) (by show sb≠_;omega)).trans (Qag HSr.out (Qbt S q (by omega)))
               have q1:(q:Int)<8:=by omega
               obtain⟨Z,hZ⟩:∃Z,Z=V.getD q 0+S.getD q 0:=⟨_,rfl⟩;have a1:IntKind.u32.wrap (((V.getD q 0).toNat:Int)+((S.getD q 0).toNat:Int))=(Z.toNat:Int):=by rw[IntKind.wrap_u32,hZ];exact Qb0 _ _
               have e1:=Qkx V S q hlt7;rw[<-hZ] at e1;have HE:=hid e1;clear hZ e1;generalize V.getD q 0=X at c1 a1;generalize S.getD q 0=Y at c2 a1;unfold w32 at c1 c2
               go_wp2_with fail
               refine wp_region_still_tail 9 (by kernel_rfl) (by kernel_rfl) ?_
               simp only[List.take_succ_cons,List.take_zero,List.drop_succ_cons,List.drop_zero];generalize hw9:({ heap:=wr.heap,tape:=wr.tape,drawn:=wr.drawn+1,os:=wr.os,output:=wr.output }:World)=wd
               have c1d:wd.cell? ⟨vb,q,none⟩=some (.int .u32 (X.toNat:Int)):=by rw[<-hw9];exact c1
               have c2d:wd.cell? ⟨sb,q,none⟩=some (.int .u32 (Y.toNat:Int)):=by rw[<-hw9];exact c2
               have hVd:wd.heap[vb]?=some (.cells (wcells (plusTo V S q)).toArray 230 (0,0)):=by rw[<-hw9];exact hV7.out
               have kd:Kept (sb+1) vb wx wd:=by rw[<-hw9];exact hk7.out.drew
               clear hw9 c1 c2;have fq:=Qa0 hVd q;have hset:=Qaj hVd q (w32 Z);rw[Qra,HE.out] at hset;unfold w32 at hset;have Hset:=hid hset;have Kset:=hid (kd.set (b':=vb) (.inl rfl) q (.int .u32 (Z.toNat:Int)));clear hset hVd kd
               repeat still_step
               refine wpStill_nil ?_;go_wp2
               go_roundw
               case rel=>exact⟨q+1,by omega,by go_num,hid Hset.out,hid Kset.out⟩
               case measure=>simp only[RowKit.intOf];omega
              ·obtain rfl:q=8:=by omega
               have hV8:=hV7.out;rw[Hall.out] at hV8;have hK8:Kept (vb+1) vb wv wr:=HKr.out.trans (hk7.out.mono (by omega) (λ_ _ h=>h))
               have hs8:vb+1<=wr.heap.size:=by have:=hk7.out.size;omega
               have HV8:=hid hV8;have HK8:=hid hK8;clear hV8 hK8
               go_wp2_with fail
               go_roundw
               case rel=>exact⟨t+1,by omega,by go_num,hid HV8.out,HK8.out,hs8⟩
               case measure=>simp only[RowKit.intOf];omega
      ·obtain rfl:M=64*t:=by omega
       have hsum:Sm.sum s.data.toList=(Sm.blocks P t).list.flatMap Sm.bytes4:=by
        rw[Sm.sum,HP.out,HMp.out,show 64*t/64=t by omega]
       obtain⟨S,hS⟩:∃S,S=(Sm.blocks P t).list:=⟨_,rfl⟩;have hSl:S.length=8:=by rw[hS];rfl
       have hV9':=hV9.out;rw[<-hS] at hV9' hsum
       have hRl:(S.flatMap Sm.bytes4).length=32:=by
        have:=Qb8 S 8 (by omega)
        rwa[wbytes,List.take_of_length_le (by omega)] at this
       have Hsum:=hid hsum;have HV:=hid hV9';have hAr:=(k9.block w.heap.size (by omega) (by omega)).trans hAv
       have hKr:Kept w.heap.size w.heap.size w wr:=HKv.out.trans (k9.mono (by omega) (λk hk _=>by omega))
       have HAr:=hid hAr;have HKr:=hid hKr;clear hV9 hV9' hsum hS hAr hKr k9 hAv hBv Hcv HKv
       go_wp2_with fail
       rw[Qao];have hO0:(wr.alloc (.cells zY 22)).heap[wr.heap.size]?=some (.cells (brow []).toArray 22 (0,0)):=Qaa _ _
       have ko:Kept wr.heap.size wr.heap.size wr (wr.alloc (.cells zY 22)):=zI.alloc (zB _) _
       have so:(wr.alloc (.cells zY 22)).heap.size=wr.heap.size+1:=by simp
       generalize wr.alloc (.cells zY 22)=wo at hO0 ko so |-
       obtain⟨ob,hob⟩:∃ob,ob=wr.heap.size:=⟨_,rfl⟩;rw[<-hob] at ko hO0 so hs9' |-;have HVo:Hid (wo.heap[vb]?=some (.cells (wcells S).toArray 230 (0,0))):=hid ((ko.block vb (by omega) (by omega)).trans HV.out)
       have HAo:Hid (wo.heap[w.heap.size]?=some (.cells zY 22 (0,0))):=hid ((ko.block w.heap.size (by omega) (by omega)).trans HAr.out)
       have HKo:Hid (Kept w.heap.size w.heap.size w wo):=hid (HKr.out.trans (ko.mono (by omega) (λk hk _=>by omega)))
       obtain⟨R,hR⟩:∃R,R=S.flatMap Sm.bytes4:=⟨_,rfl⟩;have HR:=hid hR;rw[<-hR] at hRl;have HO0:Hid (wo.heap[ob]?=some (.cells (brow (R.take 0)).toArray 22 (0,0))):=hid hO0
       clear hob ko hO0 hR
       go_loopw [22] (λi1 w9=>∃q:Nat,q<=32/\i1=.int .i64 (q:Int)/\Hid (w9.heap[ob]?=some (.cells (brow (R.take q)).toArray 22 (0,0)))/\Hid (Kept (ob+1) ob wo w9)) (λi1 _=>32-(RowKit.intOf i1).toNat)
       case atStart=>exact⟨0,by omega,rfl,HO0,hid zI⟩
       case round=>
        obtain⟨q,hq,rfl,hO,hk⟩:=hrel
        by_cases hlt9:q<32
        ·obtain⟨a,b,hqa,hb⟩:∃a b,q=4*a+b/\b<4:=⟨q/4,q%4,by omega,by omega⟩
         have cx:wr.cell? ⟨vb,a,none⟩=some (.int .u32 ((S.getD a 0).toNat:Int)):=(hk.out.cell (p:=⟨vb,a,none⟩) (by show vb<_;omega) (by show vb≠_;omega)).trans (Qag HVo.out (Qbt S a (by omega)))
         have hel:=Qnr S a b (by omega) hb
         rw[<-HR.out,<-hqa] at hel
         have hmore:R.take (q+1)=R.take q++[UInt8.ofNat ((S.getD a 0).toNat/256 ^ (3-b))]:=by
          rw[List.take_add_one,hel]
          rfl
         generalize S.getD a 0=X at cx hmore;have hlen:(R.take q).length=q:=by rw[List.length_take];omega
         have hbl:=Qj0 (R.take q) (by omega)
         have co:=Qby hO.out q (by omega)
         have fo:=Qa0 hO.out q;have hset:=Qaj hO.out q (.int .u8 ((UInt8.ofNat (X.toNat/256 ^ (3-b))).toNat:Int));have e1:=Qgx (R.take q) (UInt8.ofNat (X.toNat/256 ^ (3-b))) (by omega)
         rw[hlen,<-hmore] at e1;rw[e1] at hset;have Hset:=hid hset;have Kset:=hid (hk.out.set (b':=ob) (.inl rfl) q (.int .u8 ((UInt8.ofNat (X.toNat/256 ^ (3-b))).toNat:Int)));generalize (brow (R.take q))[q]'(by omega)=y0 at co
         have h4:(q:Int)/4=(a:Int):=by omega
         have h6:(a:Int)<8:=by omega
         have h7:(q:Int)<32:=by omega
         clear hset e1 hmore hel
         rcases(show b=0\/b=1\/b=2\/b=3 by omega) with rfl|rfl|rfl|rfl
         ·have h5:(q:Int)%4=0:=by omega
          have hv:(X.toNat:Int)/16777216%256=(((UInt8.ofNat (X.toNat/256 ^ (3-0))).toNat:Nat):Int):=by
           rw[show X.toNat/256 ^ (3-0)=X.toNat/16777216 by simp]
           exact Qci _
          have Hv:=hid hv;clear hv hqa hb
          go_wp2_with fail
          rw[Hv.out];exact⟨⟨q+1,by omega,by rw[Int.natCast_add];rfl,hid Hset.out,hid Kset.out⟩,by simp only[RowKit.intOf];omega⟩
         ·have h5:(q:Int)%4=1:=by omega
          have hv:(X.toNat:Int)/65536%256=(((UInt8.ofNat (X.toNat/256 ^ (3-1))).toNat:Nat):Int):=by
           rw[show X.toNat/256 ^ (3-1)=X.toNat/65536 by simp]
           exact Qci _
          have Hv:=hid hv;clear hv hqa hb
          go_wp2_with fail
          rw[Hv.out];exact⟨⟨q+1,by omega,by rw[Int.natCast_add];rfl,hid Hset.out,hid Kset.out⟩,by simp only[RowKit.intOf];omega⟩
         ·have h5:(q:Int)%4=2:=by omega
          have hv:(X.toNat:Int)/256%256=(((UInt8.ofNat (X.toNat/256 ^ (3-2))).toNat:Nat):Int):=by
           rw[show X.toNat/256 ^ (3-2)=X.toNat/256 by simp]
           exact Qci _
          have Hv:=hid hv;clear hv hqa hb
          go_wp2_with fail
          rw[Hv.out];exact⟨⟨q+1,by omega,by rw[Int.natCast_add];rfl,hid Hset.out,hid Kset.out⟩,by simp only[RowKit.intOf];omega⟩
         ·have h5:(q:Int)%4=3:=by omega
          have hv:(X.toNat:Int)%256=(((UInt8.ofNat (X.toNat/256 ^ (3-3))).toNat:Nat):Int):=by
           rw[show X.toNat/256 ^ (3-3)=X.toNat by simp]
           exact Qci _
          have Hv:=hid hv;clear hv hqa hb
          go_wp2_with fail
          rw[Hv.out];exact⟨⟨q+1,by omega,by rw[Int.natCast_add];rfl,hid Hset.out,hid Kset.out⟩,by simp only[RowKit.intOf];omega⟩
        ·obtain rfl:q=32:=by omega
         have hOr:=hO.out;rw[List.take_of_length_le (by omega),Qq4 _ hRl] at hOr
         have hAr:=(hk.out.block w.heap.size (by omega) (by omega)).trans HAo.out
         have hKr:Kept w.heap.size w.heap.size w wr:=HKo.out.trans (hk.out.mono (by omega) (λk hk _=>by omega))
         have hsz:(bY R).toArray.size=32:=by rw[List.size_toArray,bZ,hRl]
         have hall:=Qae R;have hz32:=Qah;generalize hcs:(bY R).toArray=cs at hOr hsz hall;have Hcs:=hid hcs.symm;generalize zY=z at hAr hz32;have hi:(Tryz.prog.info? 22).map (·.size)=some cs.size:=by rw[hsz];kernel_rfl
         have HI:=hid hi;have HKr2:=hid hKr;clear hcs hi hKr HO0 HVo HAo
         go_wp2_with (first|(with_reducible refine wpList_load_row rfl 22 _ rfl ob rfl 22 cs (0,0) _ hOr Tryz.underlying22 rfl HI.out ?_)|(with_reducible refine wpList_store_row rfl 22 _ _ rfl w.heap.size cs rfl rfl 22 _ hAr HI.out (hz32.trans hsz.symm) hall ?_))
         obtain⟨t1,t2⟩:Kept w.heap.size w.heap.size w (wr.setRow w.heap.size cs)/\(wr.setRow w.heap.size cs).heap[w.heap.size]?=some (.cells cs 22 (0,0)):=
          ⟨HKr2.out.trans ⟨rfl,rfl,rfl,by simp[World.setRow],λk hk _=>setRow_other wr w.heap.size k cs (by omega)⟩,setRow_heap wr w.heap.size z cs _ _ hAr⟩
         refine bodyPost_ret (results_cell_row rfl _ _ w.heap.size 22 cs (0,0) _ rfl t2 Tryz.underlying22 rfl HI.out) rfl ?_
         refine⟨?_,t1⟩;rw[Hcs.out,Hsum.out,HR.out]
end Go.Proofs.YtnlbgggnpoeleaaGreatDoor
