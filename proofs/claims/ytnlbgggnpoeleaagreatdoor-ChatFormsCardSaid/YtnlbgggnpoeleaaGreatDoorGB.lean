/-
 ShaMath; ShaWords; ShaCells; ShaDig; ShaHash; ShaRight; ShaSpread; ShaMix; ShaTaken; ShaTake; ShaStart; ShaCmp; ShaCmpF: several texts in one.
-/
import Derived.Test.YtnlbgggnpoeleaaGreatDoorGA
import Derived.Laws.BitsAllLaws
import Derived.Lib.Hide
import Derived.Laws.PanicsMore
import Derived.Deep.Cut
import Derived.Laws.CopyRow
import Derived.Laws.CopyOwn
import Derived.Laws.Tables
import Derived.Lib.Bytealg
import Derived.Lib.Walk
import Derived.Laws.IdiomStrings
set_option maxRecDepth 100000
set_option maxHeartbeats 1600000
namespace Go.Proofs.YtnlbgggnpoeleaaGreatDoor
namespace Sm
def rotr (x:UInt32)(n:Nat):UInt32:=UInt32.ofNat (x.toNat/2 ^ n ||| x.toNat*2 ^ (32-n)%4294967296)
def shr (x:UInt32)(n:Nat):UInt32:=UInt32.ofNat (x.toNat/2 ^ n)
def sig0 (x:UInt32):UInt32:=rotr x 7 ^^^ rotr x 18 ^^^ shr x 3
def sig1 (x:UInt32):UInt32:=rotr x 17 ^^^ rotr x 19 ^^^ shr x 10
def big0 (a:UInt32):UInt32:=rotr a 2 ^^^ rotr a 13 ^^^ rotr a 22
def big1 (e:UInt32):UInt32:=rotr e 6 ^^^ rotr e 11 ^^^ rotr e 25
def cho (e f g:UInt32):UInt32:=(e &&& f) ^^^ (~~~e &&& g)
def maj (a b c:UInt32):UInt32:=(a &&& b) ^^^ (a &&& c) ^^^ (b &&& c)
def K:List UInt32:=[
 0x428a2f98,0x71374491,0xb5c0fbcf,0xe9b5dba5,0x3956c25b,0x59f111f1,0x923f82a4,0xab1c5ed5,
 0xd807aa98,0x12835b01,0x243185be,0x550c7dc3,0x72be5d74,0x80deb1fe,0x9bdc06a7,0xc19bf174,
 0xe49b69c1,0xefbe4786,0x0fc19dc6,0x240ca1cc,0x2de92c6f,0x4a7484aa,0x5cb0a9dc,0x76f988da,
 0x983e5152,0xa831c66d,0xb00327c8,0xbf597fc7,0xc6e00bf3,0xd5a79147,0x06ca6351,0x14292967,
 0x27b70a85,0x2e1b2138,0x4d2c6dfc,0x53380d13,0x650a7354,0x766a0abb,0x81c2c92e,0x92722c85,
 0xa2bfe8a1,0xa81a664b,0xc24b8b70,0xc76c51a3,0xd192e819,0xd6990624,0xf40e3585,0x106aa070,
 0x19a4c116,0x1e376c08,0x2748774c,0x34b0bcb5,0x391c0cb3,0x4ed8aa4a,0x5b9cca4f,0x682e6ff3,
 0x748f82ee,0x78a5636f,0x84c87814,0x8cc70208,0x90befffa,0xa4506ceb,0xbef9a3f7,0xc67178f2]
structure St where
 a:UInt32
 b:UInt32
 c:UInt32
 d:UInt32
 e:UInt32
 f:UInt32
 g:UInt32
 h:UInt32
def St.list (s:St):List UInt32:=[s.a,s.b,s.c,s.d,s.e,s.f,s.g,s.h]
def init:St:=⟨0x6a09e667,0xbb67ae85,0x3c6ef372,0xa54ff53a,0x510e527f,0x9b05688c,0x1f83d9ab,0x5be0cd19⟩
def word (l:List UInt8)(i:Nat):UInt32:=
 UInt32.ofNat ((l.getD i 0).toNat*16777216+(l.getD (i+1) 0).toNat*65536+(l.getD (i+2) 0).toNat*256+(l.getD (i+3) 0).toNat)
def first (l:List UInt8)(at0:Nat):Nat->List UInt32
 | 0=>[]
 | j+1=>first l at0 j++[word l (at0+4*j)]
def ext (w:List UInt32):List UInt32:=
 w++[w.getD (w.length-16) 0+w.getD (w.length-7) 0+sig0 (w.getD (w.length-15) 0)+sig1 (w.getD (w.length-2) 0)]
def exts (w:List UInt32):Nat->List UInt32
 | 0=>w
 | j+1=>ext (exts w j)
def sched (l:List UInt8)(at0:Nat):List UInt32:=exts (first l at0 16) 48
def t1 (s:St)(k w:UInt32):UInt32:=s.h+big1 s.e+cho s.e s.f s.g+k+w
def t2 (s:St):UInt32:=big0 s.a+maj s.a s.b s.c
def step (s:St)(k w:UInt32):St:=⟨t1 s k w+t2 s,s.a,s.b,s.c,s.d+t1 s k w,s.e,s.f,s.g⟩
def rounds (w:List UInt32)(s:St):Nat->St
 | 0=>s
 | j+1=>step (rounds w s j) (K.getD j 0) (w.getD j 0)
def plus (v s:St):St:=⟨v.a+s.a,v.b+s.b,v.c+s.c,v.d+s.d,v.e+s.e,v.f+s.f,v.g+s.g,v.h+s.h⟩
def block (l:List UInt8)(at0:Nat)(v:St):St:=plus v (rounds (sched l at0) v 64)
def blocks (l:List UInt8):Nat->St
 | 0=>init
 | j+1=>block l (64*j) (blocks l j)
def zeros (n:Nat):Nat:=(119-n%64)%64
def be8 (n:Nat):List UInt8:=(List.range 8).map λi=>UInt8.ofNat (n/256 ^ (7-i))
def pad (l:List UInt8):List UInt8:=l++[128]++List.replicate (zeros l.length) 0++be8 (8*l.length)
def bytes4 (x:UInt32):List UInt8:=(List.range 4).map λi=>UInt8.ofNat (x.toNat/256 ^ (3-i))
def sum (l:List UInt8):List UInt8:=((blocks (pad l) ((pad l).length/64)).list).flatMap bytes4
def sign (d:Nat):UInt8:=if d<10 then UInt8.ofNat (48+d) else UInt8.ofNat (87+d)
def hex (l:List UInt8):List UInt8:=l.flatMap λb=>[sign (b.toNat/16),sign (b.toNat%16)]
def abc:List UInt8:=[0x62,0x61,0x37,0x38,0x31,0x36,0x62,0x66,0x38,0x66,0x30,0x31,0x63,0x66,0x65,0x61,0x34,0x31,0x34,0x31,0x34,0x30,0x64,0x65,0x35,0x64,0x61,0x65,0x32,0x32,0x32,0x33,
 0x62,0x30,0x30,0x33,0x36,0x31,0x61,0x33,0x39,0x36,0x31,0x37,0x37,0x61,0x39,0x63,0x62,0x34,0x31,0x30,0x66,0x66,0x36,0x31,0x66,0x32,0x30,0x30,0x31,0x35,0x61,0x64]
theorem awake:hex (sum [97,98,99])=abc:=by decide +kernel
theorem shr_toNat (x:UInt32)(n:Nat):(shr x n).toNat=x.toNat/2 ^ n:=by
 have h:=x.toNat_lt;rw[shr,UInt32.toNat_ofNat'];exact Nat.mod_eq_of_lt (Nat.lt_of_le_of_lt (Nat.div_le_self _ _) h)
theorem first_length (l:List UInt8)(a:Nat):∀j,(first l a j).length=j
 | 0=>rfl
 | j+1=>by rw[first,zE,first_length l a j];rfl
theorem Qs3 (w:List UInt32):(ext w).length=w.length+1:=by simp[ext]
theorem exts_length (w:List UInt32):∀j,(exts w j).length=w.length+j
 | 0=>rfl
 | j+1=>by rw[exts,Qs3,exts_length w j];omega
theorem sched_length (l:List UInt8)(a:Nat):(sched l a).length=64:=by rw[sched,exts_length,first_length]
theorem pad_length (l:List UInt8):(pad l).length=l.length+1+zeros l.length+8:=by simp[pad,be8];omega
theorem pad_mod (l:List UInt8):(pad l).length%64=0:=by rw[pad_length,zeros];omega
end Sm
open Go.RowKit
def w32 (x:UInt32):Value:=.int .u32 (x.toNat:Int)
theorem Qwx (a b:Nat)(ha:a<4294967296)(hb:b<4294967296):bits .or .u32 (a:Int) (b:Int)=(((UInt32.ofNat (a ||| b)).toNat:Nat):Int):=by
 rw[u32_or_nat a b ha hb,UInt32.toNat_ofNat']
 congr 1
 exact(Nat.mod_eq_of_lt (Nat.or_lt_two_pow (n:=32) ha hb)).symm
theorem Qcc (x y:UInt32):bits .xor .u32 (x.toNat:Int) (y.toNat:Int)=((x ^^^ y).toNat:Int):=by
 rw[u32_xor_nat _ _ x.toNat_lt y.toNat_lt,UInt32.toNat_xor]
theorem Qil (x y:UInt32):bits .and .u32 (x.toNat:Int) (y.toNat:Int)=((x &&& y).toNat:Int):=by
 rw[u32_and_nat _ _ x.toNat_lt y.toNat_lt,UInt32.toNat_and]
theorem Qb0 (x y:UInt32):((x.toNat:Int)+(y.toNat:Int))%4294967296=((x+y).toNat:Int):=by
 rw[UInt32.toNat_add]
 omega
theorem Qts (x:UInt32)(n:Nat)(m:Int)(hm:m=((2 ^ n:Nat):Int)):(x.toNat:Int)/m=((Sm.shr x n).toNat:Int):=by
 rw[Sm.shr_toNat,hm]
 rfl
theorem Qqg (x:UInt32):(x.toNat:Int)/8=((Sm.shr x 3).toNat:Int):=Qts x 3 8 rfl
theorem Qmj (x:UInt32):(x.toNat:Int)/1024=((Sm.shr x 10).toNat:Int):=Qts x 10 1024 rfl
theorem Qtn (a b c d:Nat)(ha:a<256)(hb:b<256)(hc:c<256)(hd:d<256):
  bits .or .u32 (bits .or .u32 (bits .or .u32 ((a:Int)*16777216) ((b:Int)*65536)) ((c:Int)*256)) (d:Int)=((a*16777216+b*65536+c*256+d:Nat):Int):=by
 have e1:bits .or .u32 ((a:Int)*16777216) ((b:Int)*65536)=((a*16777216+b*65536:Nat):Int):=by
  rw[show(a:Int)*16777216=((a*16777216:Nat):Int) by omega,show(b:Int)*65536=((b*65536:Nat):Int) by omega,u32_or_nat _ _ (by omega) (by omega)]
  rw[nat_join 24 _ _ (by omega) (by omega)]
 rw[e1,show(c:Int)*256=((c*256:Nat):Int) by omega,u32_or_nat _ _ (by omega) (by omega),nat_join 16 _ _ (by omega) (by omega),u32_or_nat _ _ (by omega) (by omega),nat_join 8 _ _ (by omega) (by omega)]
theorem Qey:(Tryz.prog.info? 229).map (·.size)=some 64:=by kernel_rfl
theorem Qip:(Tryz.prog.info? 230).map (·.size)=some 8:=by kernel_rfl
theorem Qv1:(Tryz.prog.info? 5).map (λi=>(i.zero,i.size,i.bytes))=some (some (.int .u8 0),1,1):=by kernel_rfl
theorem Qhp:∃ i,Tryz.prog.info? 5=some i/\i.zero=some (.int .u8 0)/\i.size=1/\i.bytes=1:=by
 have h:=Qv1;rw[Option.map_eq_some_iff] at h;obtain⟨i,h1,h2⟩:=h;simp only[Prod.mk.injEq] at h2;exact⟨i,h1,h2.1,h2.2.1,h2.2.2⟩
def slen:Value->Nat
 | .slice _ n _=>n
 | _=>0
def padTo (l:List UInt8)(j:Nat):List UInt8:=l++[128]++List.replicate j (0:UInt8)
def padLen (l:List UInt8)(i:Nat):List UInt8:=padTo l (Sm.zeros l.length)++(Sm.be8 (8*l.length)).take i
theorem Qry (l:List UInt8):l++[128]=padTo l 0:=by simp[padTo]
theorem Qrz (l:List UInt8)(j:Nat):padTo l j++[0]=padTo l (j+1):=by
 rw[padTo,padTo,List.append_assoc _ _ [0],List.replicate_succ']
theorem Qe7 (l:List UInt8)(j:Nat):(padTo l j).length=l.length+1+j:=by simp[padTo];omega
theorem Qox (l:List UInt8):padTo l (Sm.zeros l.length)=padLen l 0:=by simp[padLen]
theorem Qdg (n:Nat):(Sm.be8 n).length=8:=by simp[Sm.be8]
theorem Qoy (l:List UInt8)(i:Nat)(hi:i<8):padLen l i++[UInt8.ofNat (8*l.length/256 ^ (7-i))]=padLen l (i+1):=by
 have h8:i<(Sm.be8 (8*l.length)).length:=by rw[Qdg];exact hi
 rw[padLen,padLen,List.append_assoc,List.take_succ_eq_append_getElem h8]
 congr 3
 simp[Sm.be8]
theorem Qgh (l:List UInt8)(i:Nat)(hi:i<=8):(padLen l i).length=l.length+1+Sm.zeros l.length+i:=by
 rw[padLen,zE,Qe7,List.length_take,Qdg]
 omega
theorem Qr2 (l:List UInt8):padLen l 8=Sm.pad l:=by
 rw[padLen,List.take_of_length_le (by rw[Qdg];exact zB _),padTo,Sm.pad]
theorem Qx3 (i:Nat)(hi:i<8):2 ^ (56-8*i)=256 ^ (7-i):=by
 rw[show(256:Nat)=2 ^ 8 by decide,<-Nat.pow_mul]
 congr 1
 omega
theorem lenbyte (n j:Nat)(hj:j<8):(n:Int)*8/2 ^ (56-8*j)%256=(((UInt8.ofNat (8*n/256 ^ (7-j))).toNat:Nat):Int):=by
 rw[UInt8.toNat_ofNat',<-Qx3 j hj,Nat.mul_comm 8 n];simp
def wcells (l:List UInt32):List Value:=l.map w32
def wrow (l:List UInt32):List Value:=wcells l++List.replicate (64-l.length) (Value.int .u32 0)
theorem Qad (l:List UInt32):(wcells l).length=l.length:=by simp[wcells]
theorem Qec (l:List UInt32)(h:l.length<=64):(wrow l).length=64:=by rw[wrow,zE,Qad,List.length_replicate];omega
theorem Qcp (l:List UInt32):(wcells l).toArray.all (·.oneCell')=true:=by
 rw[Array.all_eq_true_iff_forall_mem];intro v hv;rw[List.mem_toArray,wcells,List.mem_map] at hv;obtain⟨c,_,rfl⟩:=hv
 rfl
theorem Qbt (l:List UInt32)(i:Nat)(hi:i<l.length):(wcells l)[i]?=some (w32 (l.getD i 0)):=by
 simp[wcells,List.getD_eq_getElem?_getD,hi]
theorem Qev (l:List UInt32)(i:Nat)(hi:i<l.length):(wrow l)[i]?=some (w32 (l.getD i 0)):=by
 rw[wrow,List.getElem?_append_left (by rw[Qad];exact hi),Qbt l i hi]
theorem Qic (l:List UInt32)(x:UInt32)(h:l.length<64):(wrow l).set l.length (w32 x)=wrow (l++[x]):=by
 unfold wrow;have e:64-l.length=(64-(l++[x]).length)+1:=by rw[zE,List.length_singleton];omega
 rw[List.set_append_right _ _ (by rw[Qad];exact zB _),Qad,Nat.sub_self,e,List.replicate_succ,List.set_cons_zero]
 simp[wcells]
theorem Qho : #[Value.int IntKind.u32 1779033703,Value.int IntKind.u32 3144134277,Value.int IntKind.u32 1013904242,Value.int IntKind.u32 2773480762,Value.int IntKind.u32 1359893119,Value.int IntKind.u32 2600822924,Value.int IntKind.u32 528734635,Value.int IntKind.u32 1541459225]=(wcells Sm.init.list).toArray:=rfl
def Qbg:Array Value:=#[Value.int IntKind.u32 0,Value.int IntKind.u32 0,Value.int IntKind.u32 0,Value.int IntKind.u32 0,Value.int IntKind.u32 0,Value.int IntKind.u32 0,Value.int IntKind.u32 0,Value.int IntKind.u32 0,Value.int IntKind.u32 0,Value.int IntKind.u32 0,Value.int IntKind.u32 0,Value.int IntKind.u32 0,Value.int IntKind.u32 0,Value.int IntKind.u32 0,Value.int IntKind.u32 0,Value.int IntKind.u32 0,Value.int IntKind.u32 0,Value.int IntKind.u32 0,Value.int IntKind.u32 0,Value.int IntKind.u32 0,Value.int IntKind.u32 0,Value.int IntKind.u32 0,Value.int IntKind.u32 0,Value.int IntKind.u32 0,Value.int IntKind.u32 0,Value.int IntKind.u32 0,Value.int IntKind.u32 0,Value.int IntKind.u32 0,Value.int IntKind.u32 0,Value.int IntKind.u32 0,Value.int IntKind.u32 0,Value.int IntKind.u32 0,Value.int IntKind.u32 0,Value.int IntKind.u32 0,Value.int IntKind.u32 0,Value.int IntKind.u32 0,Value.int IntKind.u32 0,Value.int IntKind.u32 0,Value.int IntKind.u32 0,Value.int IntKind.u32 0,Value.int IntKind.u32 0,Value.int IntKind.u32 0,Value.int IntKind.u32 0,Value.int IntKind.u32 0,Value.int IntKind.u32 0,Value.int IntKind.u32 0,Value.int IntKind.u32 0,Value.int IntKind.u32 0,Value.int IntKind.u32 0,Value.int IntKind.u32 0,Value.int IntKind.u32 0,Value.int IntKind.u32 0,Value.int IntKind.u32 0,Value.int IntKind.u32 0,Value.int IntKind.u32 0,Value.int IntKind.u32 0,Value.int IntKind.u32 0,Value.int IntKind.u32 0,Value.int IntKind.u32 0,Value.int IntKind.u32 0,Value.int IntKind.u32 0,Value.int IntKind.u32 0,Value.int IntKind.u32 0,Value.int IntKind.u32 0]
theorem Qd2 : #[Value.int IntKind.u32 0,Value.int IntKind.u32 0,Value.int IntKind.u32 0,Value.int IntKind.u32 0,Value.int IntKind.u32 0,Value.int IntKind.u32 0,Value.int IntKind.u32 0,Value.int IntKind.u32 0,Value.int IntKind.u32 0,Value.int IntKind.u32 0,Value.int IntKind.u32 0,Value.int IntKind.u32 0,Value.int IntKind.u32 0,Value.int IntKind.u32 0,Value.int IntKind.u32 0,Value.int IntKind.u32 0,Value.int IntKind.u32 0,Value.int IntKind.u32 0,Value.int IntKind.u32 0,Value.int IntKind.u32 0,Value.int IntKind.u32 0,Value.int IntKind.u32 0,Value.int IntKind.u32 0,Value.int IntKind.u32 0,Value.int IntKind.u32 0,Value.int IntKind.u32 0,Value.int IntKind.u32 0,Value.int IntKind.u32 0,Value.int IntKind.u32 0,Value.int IntKind.u32 0,Value.int IntKind.u32 0,Value.int IntKind.u32 0,Value.int IntKind.u32 0,Value.int IntKind.u32 0,Value.int IntKind.u32 0,Value.int IntKind.u32 0,Value.int IntKind.u32 0,Value.int IntKind.u32 0,Value.int IntKind.u32 0,Value.int IntKind.u32 0,Value.int IntKind.u32 0,Value.int IntKind.u32 0,Value.int IntKind.u32 0,Value.int IntKind.u32 0,Value.int IntKind.u32 0,Value.int IntKind.u32 0,Value.int IntKind.u32 0,Value.int IntKind.u32 0,Value.int IntKind.u32 0,Value.int IntKind.u32 0,Value.int IntKind.u32 0,Value.int IntKind.u32 0,Value.int IntKind.u32 0,Value.int IntKind.u32 0,Value.int IntKind.u32 0,Value.int IntKind.u32 0,Value.int IntKind.u32 0,Value.int IntKind.u32 0,Value.int IntKind.u32 0,Value.int IntKind.u32 0,Value.int IntKind.u32 0,Value.int IntKind.u32 0,Value.int IntKind.u32 0,Value.int IntKind.u32 0]=Qbg:=rfl
def kcells:Array Value:=(Sm.K.map w32).toArray
theorem Qvn:Qbg = (wrow []).toArray:=rfl
theorem Qx5 (x:UInt32):bits .xor .u32 (if IntKind.u32.signed=true then -1 else IntKind.u32.max) (x.toNat:Int)=((~~~x).toNat:Int):=by
 have e1:(if IntKind.u32.signed=true then -1 else IntKind.u32.max)=(((4294967295:UInt32).toNat:Nat):Int):=by decide
 rw[e1,Qcc]
 congr 2
theorem Qwz (A B C D E F G I k w:UInt32):((((I.toNat:Int)+bits .xor .u32 (bits .xor .u32 ((Sm.rotr E 6).toNat:Int) ((Sm.rotr E 11).toNat:Int)) ((Sm.rotr E 25).toNat:Int)+bits .xor .u32 (bits .and .u32 (E.toNat:Int) (F.toNat:Int)) (bits .and .u32 (bits .xor .u32 (if IntKind.u32.signed=true then -1 else IntKind.u32.max) (E.toNat:Int)) (G.toNat:Int))+(k.toNat:Int))%4294967296+(w.toNat:Int))%4294967296)=((Sm.t1 ⟨A,B,C,D,E,F,G,I⟩ k w).toNat:Int):=by
 rw[Qcc,Qcc,Qil,Qx5,Qil,Qcc];unfold Sm.t1 Sm.big1 Sm.cho
 dsimp only
 generalize (Sm.rotr E 6 ^^^ Sm.rotr E 11 ^^^ Sm.rotr E 25)=X;generalize (E &&& F ^^^ ~~~E &&& G)=Y;rw[<-Qb0,<-Qb0,<-Qb0,<-Qb0]
 omega
theorem Qwy (A B C D E F G I:UInt32):((bits .xor .u32 (bits .xor .u32 ((Sm.rotr A 2).toNat:Int) ((Sm.rotr A 13).toNat:Int)) ((Sm.rotr A 22).toNat:Int)+bits .xor .u32 (bits .xor .u32 (bits .and .u32 (A.toNat:Int) (B.toNat:Int)) (bits .and .u32 (A.toNat:Int) (C.toNat:Int))) (bits .and .u32 (B.toNat:Int) (C.toNat:Int)))%4294967296)=((Sm.t2 ⟨A,B,C,D,E,F,G,I⟩).toNat:Int):=by
 rw[Qcc,Qcc,Qil,Qil,Qil,Qcc,Qcc];unfold Sm.t2 Sm.big0 Sm.maj
 dsimp only
 rw[<-Qb0]
def digCells (st:List UInt32)(blk:List UInt8)(fl n:Int):List Value:=wcells st++(wcells Sm.K++(bY blk++[.int .i64 fl,.int .u64 n]))
theorem Qbs:Sm.K.length = 64:=rfl
theorem Qu8 (st:List UInt32)(blk:List UInt8)(fl n:Int)(hs:st.length=8)(i:Nat)(hi:i<8):(digCells st blk fl n)[i]?=some (w32 (st.getD i 0)):=by
 rw[digCells,List.getElem?_append_left (by rw[Qad];omega),Qbt st i (by omega)]
theorem Qye (st:List UInt32)(blk:List UInt8)(fl n:Int)(hs:st.length=8)(i:Nat)(hi:i<64):(digCells st blk fl n)[8+i]?=some (w32 (Sm.K.getD i 0)):=by
 rw[digCells,List.getElem?_append_right (by rw[Qad];omega),Qad,hs,show 8+i-8=i by omega,List.getElem?_append_left (by rw[Qad,Qbs];omega),Qbt Sm.K i (by rw[Qbs];omega)]
theorem Qxp (st:List UInt32)(blk:List UInt8)(fl n:Int)(hs:st.length=8)(hb:blk.length=64)(i:Nat)(hi:i<blk.length):(digCells st blk fl n)[72+i]?=some (.int .u8 (blk[i]).toNat):=by
 rw[digCells,List.getElem?_append_right (by rw[Qad];omega),Qad,hs,List.getElem?_append_right (by rw[Qad,Qbs];omega),Qad,Qbs,show 72+i-8-64=i by omega,List.getElem?_append_left (by rw[bZ];omega),Qbq blk i hi]
theorem Qx1 (st:List UInt32)(blk:List UInt8)(fl n:Int)(hs:st.length=8)(hb:blk.length=64):(digCells st blk fl n)[136]?=some (.int .i64 fl):=by
 rw[digCells,List.getElem?_append_right (by rw[Qad];omega),Qad,hs,List.getElem?_append_right (by rw[Qad,Qbs];omega),Qad,Qbs,List.getElem?_append_right (by rw[bZ];omega),bZ,hb]
 rfl
theorem Qyd (st:List UInt32)(blk:List UInt8)(fl n:Int)(hs:st.length=8)(hb:blk.length=64):(digCells st blk fl n)[137]?=some (.int .u64 n):=by
 rw[digCells,List.getElem?_append_right (by rw[Qad];omega),Qad,hs,List.getElem?_append_right (by rw[Qad,Qbs];omega),Qad,Qbs,List.getElem?_append_right (by rw[bZ];omega),bZ,hb]
 rfl
theorem Qk9 (st:List UInt32)(blk:List UInt8)(fl n:Int)(hs:st.length=8)(hb:blk.length=64):(digCells st blk fl n).length=138:=by
 simp only[digCells,zE,Qad,bZ,Qbs,hs,hb]
 rfl
theorem Ql6 (st:List UInt32)(blk:List UInt8)(fl n:Int)(hs:st.length=8)(i:Nat)(hi:i<8)(x:UInt32):(digCells st blk fl n).set i (w32 x)=digCells (st.set i x) blk fl n:=by
 rw[digCells,List.set_append_left _ _ (by rw[Qad];omega),digCells]
 congr 1
 simp[wcells,List.map_set]
theorem Qs6 (st:List UInt32)(blk:List UInt8)(fl n x:Int)(hs:st.length=8)(hb:blk.length=64):(digCells st blk fl n).set 136 (.int .i64 x)=digCells st blk x n:=by
 rw[digCells,List.set_append_right _ _ (by rw[Qad];omega),Qad,hs,List.set_append_right _ _ (by rw[Qad,Qbs];omega),Qad,Qbs,List.set_append_right _ _ (by rw[bZ];omega),bZ,hb]
 rfl
theorem Qu9 (st:List UInt32)(blk:List UInt8)(fl n x:Int)(hs:st.length=8)(hb:blk.length=64):(digCells st blk fl n).set 137 (.int .u64 x)=digCells st blk fl x:=by
 rw[digCells,List.set_append_right _ _ (by rw[Qad];omega),Qad,hs,List.set_append_right _ _ (by rw[Qad,Qbs];omega),Qad,Qbs,List.set_append_right _ _ (by rw[bZ];omega),bZ,hb]
 rfl
def Dig (w:World)(b:Nat)(st:List UInt32)(blk:List UInt8)(fl n:Int):Prop:=w.heap[b]?=some (.cells (digCells st blk fl n).toArray 236 (0,0))
theorem Dig.lt {w:World}{b:Nat}{st:List UInt32}{blk:List UInt8}{fl n:Int}(h:Dig w b st blk fl n):b<w.heap.size:=zF h
theorem Dig.state {w:World}{b:Nat}{st:List UInt32}{blk:List UInt8}{fl n:Int}(h:Dig w b st blk fl n)(hs:st.length=8)(i:Nat)(hi:i<8):w.cell? ⟨b,i,none⟩=some (w32 (st.getD i 0)):=Qag h (Qu8 st blk fl n hs i hi)
theorem Dig.k {w:World}{b:Nat}{st:List UInt32}{blk:List UInt8}{fl n:Int}(h:Dig w b st blk fl n)(hs:st.length=8)(i:Nat)(hi:i<64):w.cell? ⟨b,8+i,none⟩=some (w32 (Sm.K.getD i 0)):=Qag h (Qye st blk fl n hs i hi)
theorem Dig.blk {w:World}{b:Nat}{st:List UInt32}{blk:List UInt8}{fl n:Int}(h:Dig w b st blk fl n)(hs:st.length=8)(hb:blk.length=64)(i:Nat)(hi:i<blk.length):w.cell? ⟨b,72+i,none⟩=some (.int .u8 (blk[i]).toNat):=Qag h (Qxp st blk fl n hs hb i hi)
theorem Dig.fl {w:World}{b:Nat}{st:List UInt32}{blk:List UInt8}{fl n:Int}(h:Dig w b st blk fl n)(hs:st.length=8)(hb:blk.length=64):w.cell? ⟨b,136,none⟩=some (.int .i64 fl):=Qag h (Qx1 st blk fl n hs hb)
theorem Dig.n {w:World}{b:Nat}{st:List UInt32}{blk:List UInt8}{fl n:Int}(h:Dig w b st blk fl n)(hs:st.length=8)(hb:blk.length=64):w.cell? ⟨b,137,none⟩=some (.int .u64 n):=Qag h (Qyd st blk fl n hs hb)
theorem Dig.free {w:World}{b:Nat}{st:List UInt32}{blk:List UInt8}{fl n:Int}(h:Dig w b st blk fl n)(i:Nat):w.frozen? ⟨b,i,none⟩=false:=Qa0 h i
theorem Dig.set_state {w:World}{b:Nat}{st:List UInt32}{blk:List UInt8}{fl n:Int}(h:Dig w b st blk fl n)(hs:st.length=8)(i:Nat)(hi:i<8)(x:UInt32):Dig (w.setCell ⟨b,i,none⟩ (w32 x)) b (st.set i x) blk fl n:=by
 have:=Qaj h i (w32 x)
 rwa[Ql6 st blk fl n hs i hi x] at this
theorem Dig.set_fl {w:World}{b:Nat}{st:List UInt32}{blk:List UInt8}{fl n:Int}(h:Dig w b st blk fl n)(hs:st.length=8)(hb:blk.length=64)(x:Int):Dig (w.setCell ⟨b,136,none⟩ (.int .i64 x)) b st blk x n:=by
 have:=Qaj h 136 (.int .i64 x)
 rwa[Qs6 st blk fl n x hs hb] at this
theorem Dig.set_n {w:World}{b:Nat}{st:List UInt32}{blk:List UInt8}{fl n:Int}(h:Dig w b st blk fl n)(hs:st.length=8)(hb:blk.length=64)(x:Int):Dig (w.setCell ⟨b,137,none⟩ (.int .u64 x)) b st blk fl x:=by
 have:=Qaj h 137 (.int .u64 x)
 rwa[Qu9 st blk fl n x hs hb] at this
theorem Dig.same {w w':World}{b:Nat}{st:List UInt32}{blk:List UInt8}{fl n:Int}(h:Dig w b st blk fl n)(he:w'.heap[b]?=w.heap[b]?):Dig w' b st blk fl n:=he.trans h
theorem Qc5 {P:Program}(w:World)(t e:TypeId)(n:Nat)(cs:Array Value)(k:IntKind)(i:Nat)(x:Value)(h:P.underlying t=some (.array n e))(hs:(sizeOf e).run P w=.ok 1 w)(ha:(isAgg e).run P w=.ok false w)(hi:i<n)(hx:cs[i]?=some x):
  (Instr.index t (.agg cs) (.int k (i:Int))).run P w=.ok x w:=by
 simp[Instr.index,run_underlying h,asIntOf,hs,ha,hi,go_sem,hx]
def plusTo (v s:List UInt32)(q:Nat):List UInt32:=(List.range 8).map λi=>if i<q then v.getD i 0+s.getD i 0 else v.getD i 0
theorem Qca (v s:List UInt32)(q:Nat):(plusTo v s q).length=8:=by simp[plusTo]
theorem Qi3 (v s:List UInt32)(q i:Nat)(hi:i<8):(plusTo v s q).getD i 0=if i<q then v.getD i 0+s.getD i 0 else v.getD i 0:=by
 simp[plusTo,List.getD_eq_getElem?_getD,hi]
theorem Qi2 (v s:Sm.St):plusTo v.list s.list 0=v.list:=by
 simp[plusTo,Sm.St.list,List.range,List.range.loop]
theorem Qky (v s:Sm.St):plusTo v.list s.list 8=(Sm.plus v s).list:=by
 simp[plusTo,Sm.St.list,Sm.plus,List.range,List.range.loop]
theorem Qkx (v s:List UInt32)(q:Nat)(hq:q<8):(plusTo v s q).set q (v.getD q 0+s.getD q 0)=plusTo v s (q+1):=by
 apply List.ext_getElem?;intro j;rw[List.getElem?_set]
 by_cases hj:q=j
 ·subst hj
  rw[zG rfl,zG (by rw[Qca];exact hq)]
  simp[plusTo,hq]
 ·rw[if_neg hj]
  by_cases h8:j<8
  ·simp only[plusTo,List.getElem?_map,List.getElem?_range h8,Option.map_some]
   congr 1
   by_cases h:j<q
   ·rw[zG h,zG (by omega)]
   ·rw[if_neg h,if_neg (by omega)]
  ·rw[List.getElem?_eq_none (by rw[Qca];omega),List.getElem?_eq_none (by rw[Qca];omega)]
open Go.Lib (hid)
theorem Qbi:(Tryz.prog.info? 23).map (·.size)=some 32:=by kernel_rfl
def brow (l:List UInt8):List Value:=bY l++List.replicate (32-l.length) (Value.int .u8 0)
theorem Qj0 (l:List UInt8)(h:l.length<=32):(brow l).length=32:=by rw[brow,zE,bZ,List.length_replicate];omega
theorem Qgx (l:List UInt8)(x:UInt8)(h:l.length<32):(brow l).set l.length (.int .u8 (x.toNat:Int))=brow (l++[x]):=by
 unfold brow;have e:32-l.length=(32-(l++[x]).length)+1:=by rw[zE,List.length_singleton];omega
 rw[List.set_append_right _ _ (by rw[bZ];exact zB _),bZ,Nat.sub_self,e,List.replicate_succ,List.set_cons_zero]
 simp[bY]
theorem Qq4 (l:List UInt8)(h:l.length=32):brow l=bY l:=by rw[brow,h];simp
def wbytes (l:List UInt32)(q:Nat):List UInt8:=(l.take q).flatMap Sm.bytes4
theorem Qc7 (x:UInt32):(Sm.bytes4 x).length=4:=by simp[Sm.bytes4]
theorem Qva (x:UInt32):Sm.bytes4 x=[UInt8.ofNat (x.toNat/16777216),UInt8.ofNat (x.toNat/65536),UInt8.ofNat (x.toNat/256),UInt8.ofNat x.toNat]:=by
 simp[Sm.bytes4,List.range,List.range.loop]
theorem Qik (l:List UInt32)(q:Nat)(h:q<l.length):wbytes l (q+1)=wbytes l q++Sm.bytes4 (l.getD q 0):=by
 rw[wbytes,wbytes,List.take_succ_eq_append_getElem h,List.flatMap_append]
 congr 1
 simp[List.getD_eq_getElem?_getD,h]
theorem Qb8 (l:List UInt32):∀q,q<=l.length->(wbytes l q).length=4*q
 | 0,_=>by simp[wbytes]
 | q+1,h=>by
  rw[Qik l q (by omega),zE,Qb8 l q (by omega),Qc7]
  omega
theorem Qvd (l:List UInt8)(q:Nat)(a b c d:UInt8)(h:l.length=4*q)(hq:q<8):((((brow l).set (4*q) (.int .u8 (a.toNat:Int))).set (4*q+1) (.int .u8 (b.toNat:Int))).set (4*q+2) (.int .u8 (c.toNat:Int))).set (4*q+3) (.int .u8 (d.toNat:Int))=brow (l++[a,b,c,d]):=by
 have e0:=Qgx l a (by omega)
 have e1:=Qgx (l++[a]) b (by rw[zE,List.length_singleton];omega)
 have e2:=Qgx (l++[a]++[b]) c (by simp only[zE,List.length_singleton];omega)
 have e3:=Qgx (l++[a]++[b]++[c]) d (by simp only[zE,List.length_singleton];omega)
 simp only[zE,List.length_singleton,h] at e0 e1 e2 e3;rw[e0,e1,show 4*q+2=4*q+1+1 from rfl,e2,show 4*q+3=4*q+1+1+1 from rfl,e3];simp only[List.append_assoc,List.cons_append,List.nil_append]
theorem Qci (x:Nat):((x:Int)%256)=(((UInt8.ofNat x).toNat:Nat):Int):=by rw[UInt8.toNat_ofNat'];rfl
theorem Qsr (b:Nat)(v:Sm.St)(P:List UInt8)(fl n:Int)(w:World)(_hP:P.length=64)(h:Dig w b v.list P fl n):
  Calls Tryz.prog 159 #[.pointer (some ⟨b,0,none⟩)] w λe w'=>e=.returned (.agg (bY (v.list.flatMap Sm.bytes4)).toArray)/\Kept w.heap.size w.heap.size w w':=by
 have hb:=h.lt
 go_enter Tryz.func159,Tryz.ntmps159
 go_upto_region 2 with fail
 rw[Qao];have hA:((w.alloc (.cells zY 23)).alloc (.cells zY 23)).heap[w.heap.size]?=some (.cells zY 23 (0,0)):=heap_alloc2_old w _ _
 have hB:((w.alloc (.cells zY 23)).alloc (.cells zY 23)).heap[w.heap.size+1]?=some (.cells (brow []).toArray 23 (0,0)):=Qaq w _ _
 have hK:Kept w.heap.size w.heap.size w ((w.alloc (.cells zY 23)).alloc (.cells zY 23)):=(zI.alloc (zB _) _).alloc (by simp) _
 have s2:((w.alloc (.cells zY 23)).alloc (.cells zY 23)).heap.size=w.heap.size+2:=by simp
 generalize (w.alloc (.cells zY 23)).alloc (.cells zY 23)=w2 at hA hB hK s2 |-
 have hD:=h.same (hK.block b hb (by omega))
 clear h;obtain⟨S,hS⟩:∃S,S=v.list:=⟨_,rfl⟩;have hSl:S.length=8:=by rw[hS];rfl
 rw[<-hS] at hD
 have hr:w2.rangeAt b 0 (wcells S):=λj x hj=>by
  rw[Nat.zero_add]
  have hj8:j<S.length:=by
   have:=(List.getElem?_eq_some_iff.1 hj).1
   rwa[Qad] at this
  rw[Qbt S j hj8] at hj
  cases hj
  exact hD.state hSl j (by omega)
 have hcl:(wcells S).length=8:=by rw[Qad,hSl]
 have HS:=hid hS;clear hS
 go_wp2_with (with_reducible refine wpList_load_mid rfl 230 _ rfl b 0 rfl (wcells S) _ hr Tryz.underlying230 rfl (by rw[Qip,hcl]) ?_)
 obtain⟨wb,hwb⟩:∃wb,wb=w.heap.size+1:=⟨_,rfl⟩;obtain⟨wa,hwa⟩:∃wa,wa=w.heap.size:=⟨_,rfl⟩;have hba:b<wa:=by omega
 have hab:wa<wb:=by omega
 rw[<-hwb] at hB |-;rw[<-hwa] at hA hK |-;have HK:=hid hK;have HWA:=hid hwa;have s3:wb+1<=w2.heap.size:=by omega
 clear hK hwa hwb s2 hr hD hb
 go_wp2_with fail
 go_loopw [4,5,10] (λi4 x5 j w9=>∃q:Nat,q<=8/\j=.int .i64 (q:Int)/\Hid (w9.heap[wb]?=some (.cells (brow (wbytes S q)).toArray 23 (0,0)))/\Kept (wb+1) wb w2 w9/\wb+1<=w9.heap.size) (λ_ _ j _=>8-(RowKit.intOf j).toNat)
 case atStart=>exact⟨0,by omega,rfl,hid hB,Kept.refl _ _ _,s3⟩
 case round=>
  obtain⟨q,hq,rfl,hW,k9,hs9⟩:=hrel
  by_cases hlt:q<8
  ·have hix:(wcells S).toArray[q]?=some (.int .u32 ((S.getD q 0).toNat:Int)):=by
    rw[List.getElem?_toArray];exact Qbt S q (by omega)
   have hrun:=Qc5 wr 230 219 8 (wcells S).toArray .i64 q _ (by kernel_rfl) (Tryz.sizeOf219 wr) (Tryz.isAgg219 wr) hlt hix
   have hmore:=Qik S q (by omega)
   have hlen:=Qb8 S q (by omega)
   rw[Qva] at hmore;generalize S.getD q 0=X at hrun hmore;have Hrun:=hid hrun;have Hmore:=hid hmore;clear hrun hmore hix;obtain⟨R,hR⟩:∃R,R=wbytes S q:=⟨_,rfl⟩;rw[<-hR] at hW hlen;have hbl:=Qj0 R (by omega)
   have c0:wr.cell? ⟨wb,4*q,none⟩=some ((brow R)[4*q]'(by omega)):=Qby hW.out (4*q) (by omega)
   have c1:wr.cell? ⟨wb,4*q+1,none⟩=some ((brow R)[4*q+1]'(by omega)):=Qby hW.out (4*q+1) (by omega)
   have c2:wr.cell? ⟨wb,4*q+2,none⟩=some ((brow R)[4*q+2]'(by omega)):=Qby hW.out (4*q+2) (by omega)
   have c3:wr.cell? ⟨wb,4*q+3,none⟩=some ((brow R)[4*q+3]'(by omega)):=Qby hW.out (4*q+3) (by omega)
   have f0:=Qa0 hW.out (4*q);have f1:=Qa0 hW.out (4*q+1);have f2:=Qa0 hW.out (4*q+2);have f3:=Qa0 hW.out (4*q+3);generalize (brow R)[4*q]'(by omega)=y0 at c0
   generalize (brow R)[4*q+1]'(by omega)=y1 at c1
   generalize (brow R)[4*q+2]'(by omega)=y2 at c2
   generalize (brow R)[4*q+3]'(by omega)=y3 at c3
   have HR:=hid hR;clear hR
   go_wp2_with fail
   rw[Hrun.out]
   go_wp2_with fail
   have v0:(X.toNat:Int)/16777216%256=(((UInt8.ofNat (X.toNat/16777216)).toNat:Nat):Int):=by rw[<-Qci];rfl
   have v1:(X.toNat:Int)/65536%256=(((UInt8.ofNat (X.toNat/65536)).toNat:Nat):Int):=by rw[<-Qci];rfl
   have v2:(X.toNat:Int)/256%256=(((UInt8.ofNat (X.toNat/256)).toNat:Nat):Int):=by rw[<-Qci];rfl
   have v3:(X.toNat:Int)%256=(((UInt8.ofNat X.toNat).toNat:Nat):Int):=Qci _;rw[v0,v1,v2,v3];have hw4:=Qaj (Qaj (Qaj (Qaj hW.out (4*q) (.int .u8 ((UInt8.ofNat (X.toNat/16777216)).toNat:Int))) (4*q+1) (.int .u8 ((UInt8.ofNat (X.toNat/65536)).toNat:Int))) (4*q+2) (.int .u8 ((UInt8.ofNat (X.toNat/256)).toNat:Int))) (4*q+3) (.int .u8 ((UInt8.ofNat X.toNat).toNat:Int));rw[Qvd R q _ _ _ _ hlen hlt,HR.out,<-Hmore.out] at hw4;have k4:=(((k9.set (b':=wb) (.inl rfl) (4*q) (.int .u8 ((UInt8.ofNat (X.toNat/16777216)).toNat:Int))).set (b':=wb) (.inl rfl) (4*q+1) (.int .u8 ((UInt8.ofNat (X.toNat/65536)).toNat:Int))).set (b':=wb) (.inl rfl) (4*q+2) (.int .u8 ((UInt8.ofNat (X.toNat/256)).toNat:Int))).set (b':=wb) (.inl rfl) (4*q+3) (.int .u8 ((UInt8.ofNat X.toNat).toNat:Int));exact⟨⟨q+1,by omega,by rw[Int.natCast_add];rfl,hid hw4,k4,by simpa [World.setCell] using hs9⟩,by simp only[RowKit.intOf];omega⟩
  ·obtain rfl:q=8:=by omega
   have hwl:=Qb8 S 8 (by omega)
   have hall8:wbytes S 8=v.list.flatMap Sm.bytes4:=by rw[wbytes,List.take_of_length_le (by omega),HS.out]
   have hW8:=hW.out;rw[Qq4 _ hwl,hall8] at hW8;rw[hall8] at hwl;have hA5:=(k9.block wa (by omega) (by omega)).trans hA
   have hK5:=HK.out.trans (k9.mono (base':=wa) (b':=wa) (by omega) (λk hk _=>by omega))
   have hsz:(bY (v.list.flatMap Sm.bytes4)).toArray.size=32:=by rw[List.size_toArray,bZ,hwl]
   have hall:=Qae (v.list.flatMap Sm.bytes4);have hz32:=Qah;generalize hcs:(bY (v.list.flatMap Sm.bytes4)).toArray=cs at hW8 hsz hall;have Hcs:=hid hcs.symm;clear hcs;generalize zY=z at hA5 hz32;clear hW hA hall8 hwl
   go_wp2_with (first|(with_reducible refine wpList_load_row rfl 23 _ rfl wb rfl 23 cs (0,0) _ hW8 Tryz.underlying23 rfl (by rw[Qbi,hsz]) ?_)|(with_reducible refine wpList_store_row rfl 23 _ _ rfl wa cs rfl rfl 23 _ hA5 (by rw[Qbi,hsz]) (by rw[hz32,hsz]) hall ?_))
   obtain⟨t1,t2⟩:Kept wa wa w (wr.setRow wa cs)/\(wr.setRow wa cs).heap[wa]?=some (.cells cs 23 (0,0)):=
    ⟨hK5.trans ⟨rfl,rfl,rfl,by simp[World.setRow],λk hk _=>setRow_other wr wa k cs (by omega)⟩,setRow_heap wr wa z cs _ _ hA5⟩
   refine bodyPost_ret (results_cell_row rfl _ _ wa 23 cs (0,0) _ rfl t2 Tryz.underlying23 rfl (by rw[Qbi,hsz])) rfl ?_
   refine⟨?_,?_⟩
   ·rw[Hcs.out]
   ·rw[<-HWA.out]
    exact t1
theorem Qwf (n m:Nat)(h:n+m=32)(h1:1<=n)(h2:1<=m):bits BinOp.and IntKind.u64 (IntKind.u64.wrap (-(n:Int))) 31=(m:Int):=by
 have e1:IntKind.u64.wrap (-(n:Int))=((18446744073709551616-n:Nat):Int):=by rw[IntKind.wrap_u64];omega
 rw[e1,show(31:Int)=((31:Nat):Int) from rfl,u64_and_nat _ _ (by omega) (by omega),show(31:Nat)=2 ^ 5-1 by decide,Nat.and_two_pow_sub_one_eq_mod]
 omega
theorem Qt3 (x:UInt32)(n m:Nat)(h:n+m=32)(h1:1<=n)(h2:1<=m)(w:World):Calls Tryz.prog 184 #[.int .u32 (x.toNat:Int),.int .i64 (-(n:Int))] w λe w'=>e=.returned (.int .u32 ((Sm.rotr x n).toNat:Int))/\w'=w:=by
 have hlt:=x.toNat_lt
 have hq:bits BinOp.or IntKind.u32 ((x.toNat:Int)*2 ^ m%4294967296) ((x.toNat:Int)/2 ^ n)=((Sm.rotr x n).toNat:Int):=by
  have:=Qwx (x.toNat*2 ^ (32-n)%4294967296) (x.toNat/2 ^ n) (Nat.mod_lt _ (by decide)) (Nat.lt_of_le_of_lt (Nat.div_le_self _ _) hlt)
  rw[Nat.or_comm] at this;rw[Sm.rotr,<-this,show 32-n=m by omega]
  simp
 have Hq:=hid hq;have hb:=Qwf n m h h1 h2;have hb2:(32:Int)-(m:Int)=(n:Int):=by omega
 have hm:m<64:=by omega
 have hn:n<64:=by omega
 clear hq
 go_enter Tryz.func184,Tryz.ntmps184
 go_wp2;rw[Hq.out];go_ret;exact⟨rfl,rfl⟩
theorem Qbe (x:UInt32)(n m:Nat)(h:n+m=32)(h1:1<=n)(h2:1<=m)(w:World):Calls Tryz.prog 173 #[.int .u32 (x.toNat:Int),.int .i64 (n:Int)] w λe w'=>e=.returned (.int .u32 ((Sm.rotr x n).toNat:Int))/\w'=w:=by
 have hn:n<64:=by omega
 have hr:=Qt3 x n m h h1 h2 w
 go_enter Tryz.func173,Tryz.ntmps173
 go_wp2_with fail
 refine hr.mono ?_;rintro e w' ⟨rfl,rfl⟩;go_wp2;go_ret;exact⟨rfl,rfl⟩
theorem Qxy (x:UInt32)(w:World):Calls Tryz.prog 173 #[.int .u32 (x.toNat:Int),.int .i64 2] w λe w'=>e=.returned (.int .u32 ((Sm.rotr x 2).toNat:Int))/\w'=w:=Qbe x 2 30 rfl (by decide) (by decide) w
theorem Qxx (x:UInt32)(w:World):Calls Tryz.prog 173 #[.int .u32 (x.toNat:Int),.int .i64 6] w λe w'=>e=.returned (.int .u32 ((Sm.rotr x 6).toNat:Int))/\w'=w:=Qbe x 6 26 rfl (by decide) (by decide) w
theorem Qxw (x:UInt32)(w:World):Calls Tryz.prog 173 #[.int .u32 (x.toNat:Int),.int .i64 7] w λe w'=>e=.returned (.int .u32 ((Sm.rotr x 7).toNat:Int))/\w'=w:=Qbe x 7 25 rfl (by decide) (by decide) w
theorem Qxe (x:UInt32)(w:World):Calls Tryz.prog 173 #[.int .u32 (x.toNat:Int),.int .i64 11] w λe w'=>e=.returned (.int .u32 ((Sm.rotr x 11).toNat:Int))/\w'=w:=Qbe x 11 21 rfl (by decide) (by decide) w
theorem Qxd (x:UInt32)(w:World):Calls Tryz.prog 173 #[.int .u32 (x.toNat:Int),.int .i64 13] w λe w'=>e=.returned (.int .u32 ((Sm.rotr x 13).toNat:Int))/\w'=w:=Qbe x 13 19 rfl (by decide) (by decide) w
theorem Qxc (x:UInt32)(w:World):Calls Tryz.prog 173 #[.int .u32 (x.toNat:Int),.int .i64 17] w λe w'=>e=.returned (.int .u32 ((Sm.rotr x 17).toNat:Int))/\w'=w:=Qbe x 17 15 rfl (by decide) (by decide) w
theorem Qxb (x:UInt32)(w:World):Calls Tryz.prog 173 #[.int .u32 (x.toNat:Int),.int .i64 18] w λe w'=>e=.returned (.int .u32 ((Sm.rotr x 18).toNat:Int))/\w'=w:=Qbe x 18 14 rfl (by decide) (by decide) w
theorem Qxa (x:UInt32)(w:World):Calls Tryz.prog 173 #[.int .u32 (x.toNat:Int),.int .i64 19] w λe w'=>e=.returned (.int .u32 ((Sm.rotr x 19).toNat:Int))/\w'=w:=Qbe x 19 13 rfl (by decide) (by decide) w
theorem Qw9 (x:UInt32)(w:World):Calls Tryz.prog 173 #[.int .u32 (x.toNat:Int),.int .i64 22] w λe w'=>e=.returned (.int .u32 ((Sm.rotr x 22).toNat:Int))/\w'=w:=Qbe x 22 10 rfl (by decide) (by decide) w
theorem Qw8 (x:UInt32)(w:World):Calls Tryz.prog 173 #[.int .u32 (x.toNat:Int),.int .i64 25] w λe w'=>e=.returned (.int .u32 ((Sm.rotr x 25).toNat:Int))/\w'=w:=Qbe x 25 7 rfl (by decide) (by decide) w
theorem Qto (l:List UInt8)(i:Nat)(hi:i+4<=l.length):bits .or .u32 (bits .or .u32 (bits .or .u32 (((l[i]'(by omega)).toNat:Int)*16777216) (((l[i+1]'(by omega)).toNat:Int)*65536)) (((l[i+2]'(by omega)).toNat:Int)*256)) ((l[i+3]'(by omega)).toNat:Int)=((Sm.word l i).toNat:Int):=by
 have b0:=(l[i]'(by omega)).toNat_lt
 have b1:=(l[i+1]'(by omega)).toNat_lt
 have b2:=(l[i+2]'(by omega)).toNat_lt
 have b3:=(l[i+3]'(by omega)).toNat_lt
 rw[Qtn _ _ _ _ b0 b1 b2 b3,Sm.word,UInt32.toNat_ofNat',Nat.mod_eq_of_lt]
 ·simp only[List.getD_eq_getElem?_getD,List.getElem?_eq_getElem (show i<l.length by omega),List.getElem?_eq_getElem (show i+1<l.length by omega),List.getElem?_eq_getElem (show i+2<l.length by omega),List.getElem?_eq_getElem (show i+3<l.length by omega),Option.getD_some]
 ·simp only[List.getD_eq_getElem?_getD,List.getElem?_eq_getElem (show i<l.length by omega),List.getElem?_eq_getElem (show i+1<l.length by omega),List.getElem?_eq_getElem (show i+2<l.length by omega),List.getElem?_eq_getElem (show i+3<l.length by omega),Option.getD_some]
  omega
theorem Qom (w:World)(b q:Nat)(hq:q<16):(Instr.sliceAt 210 (.pointer (some ⟨b,72,none⟩)) (some (.int .i64 (4*(q:Int)))) (some (.int .i64 (4*(q:Int)+4))) none).run Tryz.prog w=.ok (.slice (some ⟨b,72+4*q,none⟩) 4 (64-4*q)) w:=by
 have hA:Tryz.prog.arrayLen 210=64:=by kernel_rfl
 have hE:Tryz.prog.elem 210=5:=by kernel_rfl
 have hu:Tryz.prog.underlying 210=some (.array (Tryz.prog.arrayLen 210) (Tryz.prog.elem 210)):=by kernel_rfl
 have hsz:(sizeOf 5).run Tryz.prog w=.ok 1 w:=by
  obtain⟨i,h1,_,h2,_⟩:=Qhp;simp[sizeOf,typeInfo,h1,h2]
 rw[run_sliceAt_array_lh w 210 _ hu .i64 .i64 _ _ (by omega) (by omega) (by rw[hA];omega),hE,hsz,hA]
 simp only[Result.andThen_ok,slicedAt];rw[if_neg (by omega),Addr.add_lit]
 have e1:(4*(q:Int)).toNat=4*q:=by omega
 have e2:(4*(q:Int)+4).toNat-4*q=4:=by omega
 rw[e1,e2,Nat.mul_one]
theorem Qmt (b:Nat)(P:List UInt8)(w:World)(hP:P.length=64)(hb:b<w.heap.size)(hcell:∀j (hj:j<P.length),w.cell? ⟨b,72+j,none⟩=some (.int .u8 (P[j]).toNat)):
  Calls Tryz.prog 172 #[.pointer (some ⟨b,0,none⟩)] w λe w'=>e=.returned (.agg (wcells (Sm.sched P 0)).toArray)/\Kept w.heap.size w.heap.size w w':=by
 have HC:=hid hcell;clear hcell
 go_enter Tryz.func172,Tryz.ntmps172
 go_wp2_with fail
 rw[Qd2];have hA:((w.alloc (.cells Qbg 229)).alloc (.cells Qbg 229)).heap[w.heap.size]?=some (.cells Qbg 229 (0,0)):=heap_alloc2_old w _ _
 have hB:((w.alloc (.cells Qbg 229)).alloc (.cells Qbg 229)).heap[w.heap.size+1]?=some (.cells (wrow []).toArray 229 (0,0)):=Qaq w _ _
 have hK:Kept w.heap.size w.heap.size w ((w.alloc (.cells Qbg 229)).alloc (.cells Qbg 229)):=(zI.alloc (zB _) _).alloc (by simp) _
 have s2:((w.alloc (.cells Qbg 229)).alloc (.cells Qbg 229)).heap.size=w.heap.size+2:=by simp
 generalize (w.alloc (.cells Qbg 229)).alloc (.cells Qbg 229)=w2 at hA hB hK s2 |-
 obtain⟨wb,hwb⟩:∃wb,wb=w.heap.size+1:=⟨_,rfl⟩;obtain⟨wa,hwa⟩:∃wa,wa=w.heap.size:=⟨_,rfl⟩;have hba:b<wa:=by omega
 have hab:wa<wb:=by omega
 have hC2:∀j (hj:j<P.length),w2.cell? ⟨b,72+j,none⟩=some (.int .u8 (P[j]).toNat):=λj hj=>(hK.cell (p:=⟨b,72+j,none⟩) (by show b<_;omega) (by show b≠_;omega)).trans (HC.out j hj)
 rw[<-hwb] at hB |-;rw[<-hwa] at hA hb hK |-;have HC2:=hid hC2;have HK:=hid hK;have s3:wb+1<=w2.heap.size:=by omega
 have HWA:=hid hwa;clear hC2 HC hK s2 hwb hwa
 go_loopw [4,5,11] (λu4 u5 i w9=>∃q:Nat,q<=16/\i=.int .i64 (q:Int)/\Hid (w9.heap[wb]?=some (.cells (wrow (Sm.first P 0 q)).toArray 229 (0,0)))/\Kept (wb+1) wb w2 w9/\wb+1<=w9.heap.size) (λ_ _ i _=>16-(RowKit.intOf i).toNat)
 case atStart=>exact⟨0,by omega,rfl,hid hB,Kept.refl _ _ _,s3⟩
 case round=>
  obtain⟨q,hq,rfl,hW,k20,hs20⟩:=hrel
  by_cases hlt2:q<16
  ·go_wp2_with fail
   rw[Qom wr b q hlt2]
   go_wp2_with fail
   have c0:wr.cell? ⟨b,72+4*q,none⟩=some (.int .u8 ((P[4*q]'(by omega)).toNat:Int)):=(k20.cell (p:=⟨b,72+4*q,none⟩) (by show b<_;omega) (by show b≠_;omega)).trans (HC2.out (4*q) (by omega))
   have c1:wr.cell? ⟨b,72+4*q+1,none⟩=some (.int .u8 ((P[4*q+1]'(by omega)).toNat:Int)):=(k20.cell (p:=⟨b,72+(4*q+1),none⟩) (by show b<_;omega) (by show b≠_;omega)).trans (HC2.out (4*q+1) (by omega))
   have c2:wr.cell? ⟨b,72+4*q+2,none⟩=some (.int .u8 ((P[4*q+2]'(by omega)).toNat:Int)):=(k20.cell (p:=⟨b,72+(4*q+2),none⟩) (by show b<_;omega) (by show b≠_;omega)).trans (HC2.out (4*q+2) (by omega))
   have c3:wr.cell? ⟨b,72+4*q+3,none⟩=some (.int .u8 ((P[4*q+3]'(by omega)).toNat:Int)):=(k20.cell (p:=⟨b,72+(4*q+3),none⟩) (by show b<_;omega) (by show b≠_;omega)).trans (HC2.out (4*q+3) (by omega))
   have hj:=Qto P (4*q) (by omega)
   generalize P[4*q]'(by omega)=B0 at c0 hj
   generalize P[4*q+1]'(by omega)=B1 at c1 hj
   generalize P[4*q+2]'(by omega)=B2 at c2 hj
   generalize P[4*q+3]'(by omega)=B3 at c3 hj
   have b0:=B0.toNat_lt;have b1:=B1.toNat_lt;have b2:=B2.toNat_lt;have b3:=B3.toNat_lt;have v0:IntKind.u32.wrap (B0.toNat:Int)=(B0.toNat:Int):=by rw[IntKind.wrap_u32];omega
   have v1:IntKind.u32.wrap (B1.toNat:Int)=(B1.toNat:Int):=by rw[IntKind.wrap_u32];omega
   have v2:IntKind.u32.wrap (B2.toNat:Int)=(B2.toNat:Int):=by rw[IntKind.wrap_u32];omega
   have v3:IntKind.u32.wrap (B3.toNat:Int)=(B3.toNat:Int):=by rw[IntKind.wrap_u32];omega
   have u0:IntKind.u32.wrap ((B0.toNat:Int)*16777216)=(B0.toNat:Int)*16777216:=by rw[IntKind.wrap_u32];omega
   have u1:IntKind.u32.wrap ((B1.toNat:Int)*65536)=(B1.toNat:Int)*65536:=by rw[IntKind.wrap_u32];omega
   have u2:IntKind.u32.wrap ((B2.toNat:Int)*256)=(B2.toNat:Int)*256:=by rw[IntKind.wrap_u32];omega
   have q1:(q:Int)<64:=by omega
   have Hj:=hid hj;clear hj;refine wp_region_still_tail 24 (by kernel_rfl) (by kernel_rfl) ?_
   simp only[List.take_succ_cons,List.take_zero,List.drop_succ_cons,List.drop_zero];generalize hw9:({ heap:=wr.heap,tape:=wr.tape,drawn:=wr.drawn+1,os:=wr.os,output:=wr.output }:World)=wd
   have d0:wd.cell? ⟨b,72+4*q,none⟩=some (.int .u8 (B0.toNat:Int)):=by rw[<-hw9];exact c0
   have d1:wd.cell? ⟨b,72+4*q+1,none⟩=some (.int .u8 (B1.toNat:Int)):=by rw[<-hw9];exact c1
   have d2:wd.cell? ⟨b,72+4*q+2,none⟩=some (.int .u8 (B2.toNat:Int)):=by rw[<-hw9];exact c2
   have d3:wd.cell? ⟨b,72+4*q+3,none⟩=some (.int .u8 (B3.toNat:Int)):=by rw[<-hw9];exact c3
   clear c0 c1 c2 c3;have hW':wd.heap[wb]?=some (.cells (wrow (Sm.first P 0 q)).toArray 229 (0,0)):=by rw[<-hw9];exact hW.out
   have k21:Kept (wb+1) wb w2 wd:=by rw[<-hw9];exact k20.drew
   have hsd:wb+1<=wd.heap.size:=by rw[<-hw9];exact hs20
   clear hw9 hW k20 hs20;have hfl:=Sm.first_length P 0 q;have hwl:=Qec (Sm.first P 0 q) (by omega)
   have cq:=Qby hW' q (by omega)
   have fq:=Qa0 hW' q;have hset:=Qaj hW' q (w32 (Sm.word P (4*q)));have e1:=Qic (Sm.first P 0 q) (Sm.word P (4*q)) (by omega)
   have e2:Sm.first P 0 q++[Sm.word P (4*q)]=Sm.first P 0 (q+1):=by rw[Sm.first,Nat.zero_add]
   rw[hfl,e2] at e1;rw[e1] at hset;have Hset:=hid hset;have k22:=k21.set (b':=wb) (.inl rfl) q (w32 (Sm.word P (4*q)));unfold w32 at k22 Hset;clear hset e1 e2 hW' k21;generalize hu:(wrow (Sm.first P 0 q))[q]=u at cq;clear hu
   repeat still_step
   refine wpStill_nil ?_;rw[Hj.out];go_wp2
   go_roundw
   case rel=>exact⟨q+1,by omega,by go_num,hid Hset.out,k22,by simp[World.setCell];omega⟩
   case measure=>simp[RowKit.intOf];omega
  ·obtain rfl:q=16:=by omega
   clear hlt2 hq hB
   go_wp2_with fail
   rw[show((16:Nat):Int)=16 from rfl]
   go_loopw [6,7,8,9,10] (λi x y n f w9=>∃q:Nat,q<=48/\i=.int .i64 (16+(q:Int))/\Hid (w9.heap[wb]?=some (.cells (wrow (Sm.exts (Sm.first P 0 16) q)).toArray 229 (0,0)))/\Kept (wb+1) wb w2 w9/\wb+1<=w9.heap.size) (λi _ _ _ _ _=>64-(RowKit.intOf i).toNat)
   case atStart=>exact⟨0,by omega,rfl,hW,k20,hs20⟩
   case round=>
    obtain⟨q,hq,rfl,hW5,k25,hs25⟩:=hrel
    by_cases hlt3:q<48
    ·have hfl:(Sm.exts (Sm.first P 0 16) q).length=16+q:=by rw[Sm.exts_length,Sm.first_length]
     obtain⟨L,hL⟩:∃L,L=Sm.exts (Sm.first P 0 16) q:=⟨_,rfl⟩;rw[<-hL] at hfl hW5;have hx:wr.cell? ⟨wb,16+q-15,none⟩=_:=Qag hW5.out (Qev L (16+q-15) (by omega))
     have hy:wr.cell? ⟨wb,16+q-2,none⟩=_:=Qag hW5.out (Qev L (16+q-2) (by omega))
     have h0:=Qag hW5.out (Qev L q (by omega))
     have h7:wr.cell? ⟨wb,16+q-7,none⟩=_:=Qag hW5.out (Qev L (16+q-7) (by omega))
     have hex:Sm.ext L=L++[L.getD q 0+L.getD (16+q-7) 0+Sm.sig0 (L.getD (16+q-15) 0)+Sm.sig1 (L.getD (16+q-2) 0)]:=by
      rw[Sm.ext,hfl,show 16+q-16=q by omega]
     unfold Sm.sig0 Sm.sig1 at hex;rw[show 16+q-7=q+9 by omega] at h7 hex
     have hwl:=Qec L (by omega)
     have cq:=Qby hW5.out (16+q) (by omega)
     have fq:=Qa0 hW5.out (16+q);generalize L.getD (16+q-15) 0=X at hx hex;generalize L.getD (16+q-2) 0=Y at hy hex;generalize L.getD q 0=U at h0 hex;generalize L.getD (q+9) 0=V at h7 hex;obtain⟨Z1,hZ1⟩:∃Z,Z=Sm.rotr X 7 ^^^ Sm.rotr X 18:=⟨_,rfl⟩;obtain⟨N,hN⟩:∃Z,Z=Z1 ^^^ Sm.shr X 3:=⟨_,rfl⟩;obtain⟨Z2,hZ2⟩:∃Z,Z=Sm.rotr Y 17 ^^^ Sm.rotr Y 19:=⟨_,rfl⟩;obtain⟨F,hF⟩:∃Z,Z=Z2 ^^^ Sm.shr Y 10:=⟨_,rfl⟩;obtain⟨UV,hUV⟩:∃Z,Z=U+V:=⟨_,rfl⟩;obtain⟨UN,hUN⟩:∃Z,Z=UV+N:=⟨_,rfl⟩;obtain⟨R,hR⟩:∃Z,Z=UN+F:=⟨_,rfl⟩;rw[<-hZ1,<-hN,<-hZ2,<-hF,<-hUV,<-hUN,<-hR] at hex;have x1:bits .xor .u32 ((Sm.rotr X 7).toNat:Int) ((Sm.rotr X 18).toNat:Int)=(Z1.toNat:Int):=by rw[hZ1];exact Qcc _ _
     have x2:(X.toNat:Int)/8=((Sm.shr X 3).toNat:Int):=Qqg X;have x3:bits .xor .u32 (Z1.toNat:Int) ((Sm.shr X 3).toNat:Int)=(N.toNat:Int):=by rw[hN];exact Qcc _ _
     have y1:bits .xor .u32 ((Sm.rotr Y 17).toNat:Int) ((Sm.rotr Y 19).toNat:Int)=(Z2.toNat:Int):=by rw[hZ2];exact Qcc _ _
     have y2:(Y.toNat:Int)/1024=((Sm.shr Y 10).toNat:Int):=Qmj Y;have y3:bits .xor .u32 (Z2.toNat:Int) ((Sm.shr Y 10).toNat:Int)=(F.toNat:Int):=by rw[hF];exact Qcc _ _
     have a1:IntKind.u32.wrap ((U.toNat:Int)+(V.toNat:Int))=(UV.toNat:Int):=by rw[IntKind.wrap_u32,hUV];exact Qb0 _ _
     have a2:IntKind.u32.wrap ((UV.toNat:Int)+(N.toNat:Int))=(UN.toNat:Int):=by rw[IntKind.wrap_u32,hUN];exact Qb0 _ _
     have a3:IntKind.u32.wrap ((UN.toNat:Int)+(F.toNat:Int))=(R.toNat:Int):=by rw[IntKind.wrap_u32,hR];exact Qb0 _ _
     clear hZ1 hN hZ2 hF hUV hUN hR;have e1:=Qic L R (by omega)
     rw[hfl,<-hex,hL,<-Sm.exts] at e1;rw[<-hL] at e1;have He:=hid e1;unfold w32 at hx hy h0 h7 He;clear hL hex e1 cq fq
     go_wp2_with fail
     go_quiet (fail)
     go_wp2_with fail
     refine(Qxw X _).mono ?_;rintro e w' ⟨rfl,rfl⟩
     go_wp2_with fail
     refine(Qxb X _).mono ?_;rintro e w' ⟨rfl,rfl⟩
     go_wp2_with fail
     refine(Qxc Y _).mono ?_;rintro e w' ⟨rfl,rfl⟩
     go_wp2_with fail
     refine(Qxa Y _).mono ?_;rintro e w' ⟨rfl,rfl⟩
     go_wp2_with fail
     have e16:IntKind.i64.wrap (16+(q:Int)-16)=(q:Int):=by rw[IntKind.wrap_i64];omega
     have e7:IntKind.i64.wrap (16+(q:Int)-7)=(q:Int)+9:=by rw[IntKind.wrap_i64];omega
     have q1:(q:Int)<64:=by omega
     have q2:(0:Int)<=(q:Int)+9:=by omega
     have q3:(q:Int)+9<64:=by omega
     have q4:((q:Int)+9).toNat=q+9:=by omega
     have q5:(16:Int)+(q:Int)<64:=by omega
     have q6:(0:Int)<=16+(q:Int):=by omega
     have q7:((16:Int)+(q:Int)).toNat=16+q:=by omega
     refine wp_region_still_tail 15 (by kernel_rfl) (by kernel_rfl) ?_
     simp only[List.take_succ_cons,List.take_zero,List.drop_succ_cons,List.drop_zero];generalize hw9:({ heap:=(wr.drewN nq).heap,tape:=(wr.drewN nq).tape,drawn:=(wr.drewN nq).drawn+1,os:=(wr.drewN nq).os,output:=(wr.drewN nq).output }:World)=wd
     have h0d:wd.cell? ⟨wb,q,none⟩=some (.int .u32 (U.toNat:Int)):=by rw[<-hw9];exact h0
     have h7d:wd.cell? ⟨wb,q+9,none⟩=some (.int .u32 (V.toNat:Int)):=by rw[<-hw9];exact h7
     have hWd:wd.heap[wb]?=some (.cells (wrow L).toArray 229 (0,0)):=by rw[<-hw9];exact hW5.out
     have kd:Kept (wb+1) wb w2 wd:=by rw[<-hw9];exact(k25.drewN nq).drew
     have hsd:wb+1<=wd.heap.size:=by rw[<-hw9];exact hs25
     clear hw9 h0 h7 hx hy;have cq:=Qby hWd (16+q) (by omega)
     have fq:=Qa0 hWd (16+q);have hset:=Qaj hWd (16+q) (.int .u32 (R.toNat:Int));rw[He.out] at hset;have Hset:=hid hset;have kset:=kd.set (b':=wb) (.inl rfl) (16+q) (.int .u32 (R.toNat:Int));generalize hu:(wrow L)[16+q]=u at cq;clear hu hset hWd
     repeat still_step
     refine wpStill_nil ?_;go_wp2
     go_roundw
     case rel=>exact⟨q+1,by omega,by go_num,hid Hset.out,kset,by simp[World.setCell];omega⟩
     case measure=>simp[RowKit.intOf];omega
    ·obtain rfl:q=48:=by omega
     have hr:Sm.exts (Sm.first P 0 16) 48=Sm.sched P 0:=rfl;rw[hr] at hW5;have hsl:wrow (Sm.sched P 0)=wcells (Sm.sched P 0):=by rw[wrow,Sm.sched_length];simp
     rw[hsl] at hW5;have hB5:=hW5.out;have hA5:=(k25.block wa (by omega) (by omega)).trans hA
     have hK5:=HK.out.trans (k25.mono (base':=wa) (b':=wa) (by omega) (λk hk _=>by omega))
     have hsz:(wcells (Sm.sched P 0)).toArray.size=64:=by simp[Qad,Sm.sched_length]
     have hall:(wcells (Sm.sched P 0)).toArray.all (·.oneCell')=true:=Qcp _
     have hz64:Qbg.size=64:=rfl;generalize hcs:(wcells (Sm.sched P 0)).toArray=cs at hB5 hsz hall;have Hcs:=hid hcs.symm;clear hcs;generalize Qbg=z at hA5 hz64 |-;clear hW5 hA hr hsl
     go_wp2_with (first|(with_reducible refine wpList_load_row rfl 229 _ rfl wb rfl 229 cs (0,0) _ hB5 Tryz.underlying229 rfl (by rw[Qey,hsz]) ?_)|(with_reducible refine wpList_store_row rfl 229 _ _ rfl wa cs rfl rfl 229 _ hA5 (by rw[Qey,hsz]) (by rw[hz64,hsz]) hall ?_))
     obtain⟨t1,t2⟩:Kept wa wa w (wr.setRow wa cs)/\(wr.setRow wa cs).heap[wa]?=some (.cells cs 229 (0,0)):=
      ⟨hK5.trans ⟨rfl,rfl,rfl,by simp[World.setRow],λk hk _=>setRow_other wr wa k cs (by omega)⟩,setRow_heap wr wa z cs _ _ hA5⟩
     refine bodyPost_ret (results_cell_row rfl _ _ wa 229 cs (0,0) _ rfl t2 Tryz.underlying229 rfl (by rw[Qey,hsz])) rfl ?_
     refine⟨?_,?_⟩
     ·rw[Hcs.out]
     ·rw[<-HWA.out]
      exact t1
theorem Qa7 (s:Sm.St):s.list.length=8:=rfl
theorem Qul (b:Nat)(v:Sm.St)(P:List UInt8)(fl n:Int)(w:World)(hP:P.length=64)(h:Dig w b v.list P fl n):
  Calls Tryz.prog 168 #[.pointer (some ⟨b,0,none⟩)] w λe w'=>e=.returned (.tuple #[])/\Dig w' b (Sm.block P 0 v).list P fl n/\Kept w.heap.size b w w':=by
 have hb:=h.lt;have hsp:=Qmt b P w hP hb (λj hj=>h.blk (Qa7 v) hP j hj)
 have H:=hid h;clear h
 go_enter Tryz.func168,Tryz.ntmps168
 go_wp2_with fail
 refine hsp.mono ?_;rintro e w1 ⟨rfl,k1⟩;clear hsp;have hD:=H.out.same (k1.block b hb (by omega))
 have hsz:(wcells (Sm.sched P 0)).toArray.size=64:=by simp[Qad,Sm.sched_length]
 have hall:(wcells (Sm.sched P 0)).toArray.all (·.oneCell')=true:=Qcp _
 have hst:=Qce (P:=Tryz.prog) w1 229 Qbg (wcells (Sm.sched P 0)).toArray (by rw[hsz];rfl) hall
 generalize hW:(wcells (Sm.sched P 0)).toArray=cs at hsz hall hst |-;have HW:=hid hW.symm;have Hst:=hid hst;clear hst hW
 go_wp2_with fail
 rw[Qd2,Hst.out];have hB:(w1.alloc (.cells cs 229)).heap[w1.heap.size]?=some (.cells cs 229 (0,0)):=Qaa _ _
 have k2:Kept (b+1) w.heap.size w (w1.alloc (.cells cs 229)):=(k1.alloc k1.size (.cells cs 229)).mono (by omega) (λk hk _=>by omega)
 have hD2:=hD.same (Below.heap_alloc w1 (.cells cs 229) b (by have:=k1.size;omega))
 have hs2:(w1.alloc (.cells cs 229)).heap.size=w1.heap.size+1:=by simp
 have hs1:=k1.size;have k3:Kept w.heap.size w.heap.size w (w1.alloc (.cells cs 229)):=k1.alloc k1.size (.cells cs 229)
 generalize w1.alloc (.cells cs 229)=w2 at hB hD2 k3 hs2 |-
 obtain⟨wb,hwb⟩:∃wb,wb=w1.heap.size:=⟨_,rfl⟩;rw[<-hwb] at hB hs1 hs2 |-;have c0:w2.cell? ⟨b,0,none⟩=some (.int .u32 (v.a.toNat:Int)):=hD2.state (Qa7 v) 0 (by decide)
 have c1:w2.cell? ⟨b,1,none⟩=some (.int .u32 (v.b.toNat:Int)):=hD2.state (Qa7 v) 1 (by decide)
 have c2:w2.cell? ⟨b,2,none⟩=some (.int .u32 (v.c.toNat:Int)):=hD2.state (Qa7 v) 2 (by decide)
 have c3:w2.cell? ⟨b,3,none⟩=some (.int .u32 (v.d.toNat:Int)):=hD2.state (Qa7 v) 3 (by decide)
 have c4:w2.cell? ⟨b,4,none⟩=some (.int .u32 (v.e.toNat:Int)):=hD2.state (Qa7 v) 4 (by decide)
 have c5:w2.cell? ⟨b,5,none⟩=some (.int .u32 (v.f.toNat:Int)):=hD2.state (Qa7 v) 5 (by decide)
 have c6:w2.cell? ⟨b,6,none⟩=some (.int .u32 (v.g.toNat:Int)):=hD2.state (Qa7 v) 6 (by decide)
 have c7:w2.cell? ⟨b,7,none⟩=some (.int .u32 (v.h.toNat:Int)):=hD2.state (Qa7 v) 7 (by decide)
 have HD:=hid hD2;have K3:=hid k3;clear hD hD2 hwb Hst k1 k2 k3 hsz hall
 go_wp2_with fail
 go_quiet (fail)
 generalize nq=n1
 go_wp2_with fail
 go_quiet (fail)
 go_wp2_with fail
 clear c0 c1 c2 c3 c4 c5 c6 c7;have hD3:Dig ((w2.drewN n1).drewN nq) b v.list P fl n:=HD.out;have hB3:((w2.drewN n1).drewN nq).heap[wb]?=some (.cells cs 229 (0,0)):=hB
 have k3:Kept w.heap.size w.heap.size w ((w2.drewN n1).drewN nq):=(K3.out.drewN _).drewN _;have hs3:((w2.drewN n1).drewN nq).heap.size=wb+1:=hs2;generalize (w2.drewN n1).drewN nq=w3 at hD3 hB3 k3 hs3 |-;rw[HW.out] at hB3;have HD3:=hid hD3;have HB3:=hid hB3;have K4:=hid k3;have HS3:=hid hs3;clear hD3 hB3 k3 hs3 HD K3 hB
 go_loopw [3,4,5,6,7,8,9,10,11,12,13,58] (λa1 b1 c1 d1 e1 f1 g1 h1 i1 t1 t2 j w9=>∃q:Nat,q<=64/\j=.int .i64 (q:Int)/\∃A B C D E F G I:UInt32,Hid (Sm.rounds (Sm.sched P 0) v q=⟨A,B,C,D,E,F,G,I⟩)/\a1=.int .u32 (A.toNat:Int)/\b1=.int .u32 (B.toNat:Int)/\c1=.int .u32 (C.toNat:Int)/\d1=.int .u32 (D.toNat:Int)/\e1=.int .u32 (E.toNat:Int)/\f1=.int .u32 (F.toNat:Int)/\g1=.int .u32 (G.toNat:Int)/\h1=.int .u32 (I.toNat:Int)/\Hid (∃m,w9=w3.drewN m)) (λ_ _ _ _ _ _ _ _ _ _ _ j _=>64-(RowKit.intOf j).toNat)
 case atStart=>exact⟨0,by omega,rfl,v.a,v.b,v.c,v.d,v.e,v.f,v.g,v.h,hid rfl,rfl,rfl,rfl,rfl,rfl,rfl,rfl,rfl,hid ⟨0,rfl⟩⟩
 case round=>
  obtain⟨q,hq,rfl,A,B,C,D,E,F,G,I,hR,rfl,rfl,rfl,rfl,rfl,rfl,rfl,rfl,hw⟩:=hrel
  by_cases hlt:q<64
  ·have ck:wr.cell? ⟨b,8+q,none⟩=some (.int .u32 ((Sm.K.getD q 0).toNat:Int)):=by
    obtain⟨m,rfl⟩:=hw.out;exact HD3.out.k (Qa7 v) q hlt
   have cw:wr.cell? ⟨wb,q,none⟩=some (.int .u32 (((Sm.sched P 0).getD q 0).toNat:Int)):=by
    obtain⟨m,rfl⟩:=hw.out;exact Qag HB3.out (Qbt (Sm.sched P 0) q (by rw[Sm.sched_length];exact hlt))
   have hstep:Sm.rounds (Sm.sched P 0) v (q+1)=Sm.step ⟨A,B,C,D,E,F,G,I⟩ (Sm.K.getD q 0) ((Sm.sched P 0).getD q 0):=by rw[Sm.rounds,hR.out]
   have q1:(q:Int)<64:=by omega
   have q8:q<64:=hlt;generalize Sm.K.getD q 0=kq at ck hstep;generalize (Sm.sched P 0).getD q 0=wq at cw hstep;have HST:=hid hstep;clear hstep
   go_wp2_with fail
   go_quiet (first
    | (go_at_call 173;with_reducible exact Calls.quiet_of_same (Qxx E _))
    | (go_at_call 173;with_reducible exact Calls.quiet_of_same (Qxe E _))
    | (go_at_call 173;with_reducible exact Calls.quiet_of_same (Qw8 E _)))
   rw[Qwz A B C D E F G I kq wq];generalize hT1:Sm.t1 ⟨A,B,C,D,E,F,G,I⟩ kq wq=T1;have ht2:=Qwy A B C D E F G I;generalize hT2:Sm.t2 ⟨A,B,C,D,E,F,G,I⟩=T2 at ht2;obtain⟨DT,hDT⟩:∃Z,Z=D+T1:=⟨_,rfl⟩;obtain⟨TT,hTT⟩:∃Z,Z=T1+T2:=⟨_,rfl⟩;have a1:((D.toNat:Int)+(T1.toNat:Int))%4294967296=(DT.toNat:Int):=by rw[hDT];exact Qb0 _ _
   have a2:((T1.toNat:Int)+(T2.toNat:Int))%4294967296=(TT.toNat:Int):=by rw[hTT];exact Qb0 _ _
   have hnext:Sm.rounds (Sm.sched P 0) v (q+1)=⟨TT,A,B,C,DT,E,F,G⟩:=by
    rw[HST.out,Sm.step,hT1,hT2,hDT,hTT]
   have Hnext:=hid hnext;clear hnext hT1 hT2 hDT hTT ck cw
   go_wp2_with (first
    | (go_at_call 173;with_reducible refine(Qxy A _).mono ?_;rintro e w' ⟨rfl,rfl⟩)
    | (go_at_call 173;with_reducible refine(Qxd A _).mono ?_;rintro e w' ⟨rfl,rfl⟩)
    | (go_at_call 173;with_reducible refine(Qw9 A _).mono ?_;rintro e w' ⟨rfl,rfl⟩))
   go_roundw
   case rel=>exact⟨q+1,by omega,by go_num,TT,A,B,C,DT,E,F,G,hid Hnext.out,by first|rfl|simp only[a2],rfl,rfl,rfl,by first|rfl|simp only[a1],rfl,rfl,rfl,by obtain⟨m,rfl⟩:=hw.out;exact hid ⟨m+nq,by simp[World.drewN,Nat.add_assoc]⟩⟩
   case measure=>simp[RowKit.intOf];omega
  ·obtain rfl:q=64:=by omega
   have hblk:Sm.block P 0 v=Sm.plus v ⟨A,B,C,D,E,F,G,I⟩:=by rw[Sm.block,hR.out]
   have hD4:Dig wr b (plusTo v.list [A,B,C,D,E,F,G,I] 0) P fl n:=by
    obtain⟨m,rfl⟩:=hw.out;rw[show [A,B,C,D,E,F,G,I]=(⟨A,B,C,D,E,F,G,I⟩:Sm.St).list from rfl,Qi2];exact HD3.out
   have k4:Kept w.heap.size w.heap.size w wr:=by
    obtain⟨m,rfl⟩:=hw.out;exact K4.out.drewN m
   have hs4:wr.heap.size=wb+1:=by
    obtain⟨m,rfl⟩:=hw.out;exact HS3.out
   have Hblk:=hid hblk;clear hblk hw
   go_wp2_with fail
   rw[show #[Value.int IntKind.u32 (A.toNat:Int),Value.int IntKind.u32 (B.toNat:Int),Value.int IntKind.u32 (C.toNat:Int),Value.int IntKind.u32 (D.toNat:Int),Value.int IntKind.u32 (E.toNat:Int),Value.int IntKind.u32 (F.toNat:Int),Value.int IntKind.u32 (G.toNat:Int),Value.int IntKind.u32 (I.toNat:Int)]=(wcells [A,B,C,D,E,F,G,I]).toArray from rfl];obtain⟨S,hS⟩:∃S,S=[A,B,C,D,E,F,G,I]:=⟨_,rfl⟩;have hSl:S.length=8:=by rw[hS];rfl
   rw[<-hS] at hD4 |-;have HS:=hid hS;clear hS;have Hk4:=hid k4;have Hs4:=hid hs4;have HD4:=hid hD4;clear k4 hs4 hD4;obtain⟨V,hV⟩:∃V,V=v.list:=⟨_,rfl⟩;have hVl:V.length=8:=by rw[hV];rfl
   rw[<-hV] at HD4;have HV:=hid hV;clear hV;generalize hwrr:wr=wrr at HD4 Hk4 Hs4 |-;clear hwrr;rw[show((64:Nat):Int)=64 from rfl]
   go_loopw [14,15,133] (λi1 x1 j w9=>∃q:Nat,q<=8/\j=.int .i64 (q:Int)/\Hid (Dig w9 b (plusTo V S q) P fl n)/\Hid (Kept w.heap.size b wrr w9)) (λ_ _ j _=>8-(RowKit.intOf j).toNat)
   case atStart=>exact⟨0,by omega,rfl,HD4,hid zI⟩
   case round=>
    obtain⟨q,hq,rfl,hD,hk⟩:=hrel
    by_cases hlt:q<8
    ·have c1:=hD.out.state (Qca _ _ _) q hlt
     have f1:=hD.out.free q;rw[Qi3 _ _ _ _ hlt,if_neg (Nat.lt_irrefl q)] at c1;have q1:(q:Int)<8:=by omega
     have hix:(wcells S).toArray[q]?=some (.int .u32 ((S.getD q 0).toNat:Int)):=by
      rw[List.getElem?_toArray];exact Qbt S q (by omega)
     have hrun:=λw=>Qc5 w 230 219 8 (wcells S).toArray .i64 q _ (by kernel_rfl) (Tryz.sizeOf219 w) (Tryz.isAgg219 w) hlt hix
     obtain⟨Z,hZ⟩:∃Z,Z=V.getD q 0+S.getD q 0:=⟨_,rfl⟩;have a1:IntKind.u32.wrap (((V.getD q 0).toNat:Int)+((S.getD q 0).toNat:Int))=(Z.toNat:Int):=by rw[IntKind.wrap_u32,hZ];exact Qb0 _ _
     have e1:=Qkx V S q hlt;rw[<-hZ] at e1;have HE:=hid e1;have Hrun:=hid hrun;clear hrun hix hZ e1;generalize V.getD q 0=X at c1 a1;generalize S.getD q 0=Y at Hrun a1;unfold w32 at c1
     go_wp2_with fail
     rw[Hrun.out]
     go_wp2_with fail
     refine wp_region_still_tail 11 (by kernel_rfl) (by kernel_rfl) ?_
     simp only[List.take_succ_cons,List.take_zero,List.drop_succ_cons,List.drop_zero];generalize hw9:({ heap:=wr.heap,tape:=wr.tape,drawn:=wr.drawn+1,os:=wr.os,output:=wr.output }:World)=wd
     have c1d:wd.cell? ⟨b,q,none⟩=some (.int .u32 (X.toNat:Int)):=by rw[<-hw9];exact c1
     have f1d:wd.frozen? ⟨b,q,none⟩=false:=by rw[<-hw9];exact f1
     have hDd:Dig wd b (plusTo V S q) P fl n:=by rw[<-hw9];exact hD.out
     have kd:Kept w.heap.size b wrr wd:=by rw[<-hw9];exact hk.out.drew
     clear hw9 c1 f1;have hset:=hDd.set_state (Qca _ _ _) q hlt Z;rw[HE.out] at hset;unfold w32 at hset;have Hset:=hid hset;have Kset:=hid (kd.set (b':=b) (.inl rfl) q (.int .u32 (Z.toNat:Int)));clear hset hDd kd
     repeat still_step
     refine wpStill_nil ?_;go_wp2
     go_roundw
     case rel=>exact⟨q+1,by omega,by go_num,hid Hset.out,hid Kset.out⟩
     case measure=>simp[RowKit.intOf];omega
    ·obtain rfl:q=8:=by omega
     go_wp2_with fail
     go_end0
     refine⟨rfl,?_,?_⟩
     ·rw[Hblk.out,<-Qky,<-HV.out]
      rw[show(⟨A,B,C,D,E,F,G,I⟩:Sm.St).list=S from HS.out.symm];exact hD.out
     ·exact(Hk4.out.mono (b':=b) (zB _) (λk hk hkb=>by omega)).trans hk.out
theorem Qq8 (l m:List UInt8)(a c:Nat)(h:∀i,i<4->l.getD (a+i) 0=m.getD (c+i) 0):Sm.word l a=Sm.word m c:=by
 unfold Sm.word;rw[h 1 (by decide),h 2 (by decide),h 3 (by decide)]
 have:=h 0 (by decide)
 rw[Nat.add_zero,Nat.add_zero] at this;rw[this]
theorem Qjq (l m:List UInt8)(a c:Nat):∀j,(∀i,i<4*j->l.getD (a+i) 0=m.getD (c+i) 0)->Sm.first l a j=Sm.first m c j
 | 0,_=>rfl
 | j+1,h=>by
  rw[Sm.first,Sm.first,Qjq l m a c j (λi hi=>h i (by omega)),Qq8 l m (a+4*j) (c+4*j) (λi hi=>by rw[Nat.add_assoc,Nat.add_assoc];exact h _ (by omega))]
theorem Qj2 (l m:List UInt8)(a c:Nat)(v:Sm.St)(h:∀i,i<64->l.getD (a+i) 0=m.getD (c+i) 0):Sm.block l a v=Sm.block m c v:=by
 unfold Sm.block Sm.sched;rw[Qjq l m a c 16 (λi hi=>h i (by omega))]
theorem Qes (l m:List UInt8):∀j,64*j<=l.length->Sm.blocks (l++m) j=Sm.blocks l j
 | 0,_=>rfl
 | j+1,h=>by
  rw[Sm.blocks,Sm.blocks,Qes l m j (by omega)]
  refine Qj2 _ _ _ _ _ λi hi=>?_
  rw[List.getD_eq_getElem?_getD,List.getD_eq_getElem?_getD,List.getElem?_append_left (by omega)]
theorem Qp7 (l blk:List UInt8)(d:Nat)(_hd:64*(d+1)<=l.length)(hb:∀i,i<64->l.getD (64*d+i) 0=blk.getD i 0):Sm.blocks l (d+1)=Sm.block blk 0 (Sm.blocks l d):=by
 rw[Sm.blocks];refine Qj2 _ _ _ _ _ λi hi=>?_
 rw[Nat.zero_add];exact hb i hi
def laid (blk:List UInt8)(o:Nat)(x:List UInt8):List UInt8:=blk.take o++x++blk.drop (o+x.length)
theorem Qpe (blk:List UInt8)(o:Nat)(x:List UInt8)(h:o+x.length<=blk.length):(laid blk o x).length=blk.length:=by
 simp only[laid,zE,List.length_take,List.length_drop]
 omega
theorem Qwu (st:List UInt32)(blk:List UInt8)(fl n:Int)(hs:st.length=8)(o:Nat)(x:List UInt8)(h:o+x.length<=blk.length):
  (digCells st blk fl n).take (72+o)++bY x++(digCells st blk fl n).drop (72+o+x.length)=digCells st (laid blk o x) fl n:=by
 have e1:(wcells st).length=8:=by rw[Qad,hs]
 have e2:(wcells Sm.K).length=64:=by rw[Qad,Qbs]
 have e3:(bY blk).length=blk.length:=bZ blk
 have t1:(digCells st blk fl n).take (72+o)=wcells st++(wcells Sm.K++bY (blk.take o)):=by
  rw[digCells,List.take_append,e1,List.take_of_length_le (by omega),List.take_append,e2,List.take_of_length_le (by omega),List.take_append_of_le_length (by omega),show 72+o-8-64=o by omega]
  simp[bY,List.map_take]
 have t2:(digCells st blk fl n).drop (72+o+x.length)=bY (blk.drop (o+x.length))++[.int .i64 fl,.int .u64 n]:=by
  rw[digCells,List.drop_append,e1,List.drop_of_length_le (by omega),List.nil_append,List.drop_append,e2,List.drop_of_length_le (by omega),List.nil_append,List.drop_append_of_le_length (by omega),show 72+o+x.length-8-64=o+x.length by omega]
  simp[bY,List.map_drop]
 rw[t1,t2,digCells,laid,Qax,Qax];simp only[List.append_assoc]
def Taken (w:World)(b:Nat)(l:List UInt8)(n:Int):Prop:=
 ∃blk,blk.length=64/\blk.take (l.length%64)=l.drop (64*(l.length/64))/\Dig w b (Sm.blocks l (l.length/64)).list blk ((l.length%64:Nat):Int) n
theorem Taken.same {w w':World}{b:Nat}{l:List UInt8}{n:Int}(h:Taken w b l n)(he:w'.heap[b]?=w.heap[b]?):Taken w' b l n:=by
 obtain⟨blk,h1,h2,h3⟩:=h;exact⟨blk,h1,h2,h3.same he⟩
theorem Qre (l x blk:List UInt8)(hb:blk.length=64)(ht:blk.take (l.length%64)=l.drop (64*(l.length/64)))(hx:l.length%64+x.length<64):
  (l++x).length/64=l.length/64/\(l++x).length%64=l.length%64+x.length/\(laid blk (l.length%64) x).take ((l++x).length%64)=(l++x).drop (64*((l++x).length/64))/\Sm.blocks (l++x) ((l++x).length/64)=Sm.blocks l (l.length/64):=by
 have e1:(l++x).length/64=l.length/64:=by rw[zE];omega
 have e2:(l++x).length%64=l.length%64+x.length:=by rw[zE];omega
 refine⟨e1,e2,?_,?_⟩
 ·rw[e1,e2,laid,List.drop_append_of_le_length (by omega),<-ht,List.take_append_of_le_length (by simp only[zE,List.length_take];omega)]
  rw[List.take_of_length_le (by simp only[zE,List.length_take];omega)]
 ·rw[e1,Qes l x _ (by omega)]
theorem Qrf (l x blk:List UInt8)(hb:blk.length=64)(ht:blk.take (l.length%64)=l.drop (64*(l.length/64)))(hx:l.length%64+x.length=64):
  (l++x).length/64=l.length/64+1/\(l++x).length%64=0/\(l++x).drop (64*((l++x).length/64))=[]/\Sm.blocks (l++x) ((l++x).length/64)=Sm.block (laid blk (l.length%64) x) 0 (Sm.blocks l (l.length/64)):=by
 have e1:(l++x).length/64=l.length/64+1:=by rw[zE];omega
 have e2:(l++x).length%64=0:=by rw[zE];omega
 refine⟨e1,e2,List.drop_of_length_le (by omega),?_⟩
 rw[e1,Qp7 (l++x) (laid blk (l.length%64) x) (l.length/64) (by rw[zE];omega),Qes l x _ (by omega)]
 intro i hi;have hd:blk.drop (l.length%64+x.length)=[]:=List.drop_of_length_le (by omega)
 have e3:laid blk (l.length%64) x=(l++x).drop (64*(l.length/64)):=by
  rw[laid,hd,List.append_nil,ht,List.drop_append_of_le_length (by omega)]
 rw[e3,List.getD_eq_getElem?_getD,List.getD_eq_getElem?_getD,List.getElem?_drop]
theorem Qe0 {P:Program}(w:World)(dT sT ty elem:TypeId)(g o dLen dCap:Nat)(s:ByteArray)(cur:Array Value)(t:TypeId)(n:Nat)(hn:n=Nat.min s.size dLen)
  (hu:P.underlying dT=some (.slice elem)) (hs:(P.info? elem).map (·.size)=some 1) (hg:w.heap[g]?=some (.cells cur t (0,0))) (hfit:o+n<=cur.size) :
  (Builtin.copy_ #[dT,sT] ty #[.slice (some ⟨g,o,none⟩) dLen dCap,.string s]).run P w=.ok (goInt n) (w.setRow g (cur.toList.take o++bY (s.data.toList.take n)++cur.toList.drop (o+n)).toArray):=by
 have hle:n<=s.size:=by rw[hn];exact Nat.min_le_left _ _
 have hlen:(bY (s.data.toList.take n)).length=n:=by
  rw[bZ,List.length_take];have:s.data.toList.length=s.size:=by simp
  omega
 have hst:=run_storeCells_at P g o t (bY (s.data.toList.take n)) 0 cur w hg (by rw[hlen];simpa using hfit) (Qan _)
 have htk:List.take n (List.map (λb:UInt8=>Value.int IntKind.u8 (b.toNat:Int)) s.data.toList)=bY (s.data.toList.take n):=by
  rw[bY,List.map_take]
 rw[hlen] at hst;simp only[Nat.add_zero] at hst
 cases hq:P.info? elem with
 | none=>simp[hq] at hs
 | some i=>
  simp[Builtin.copy_,run_underlying hu,Builtin.lenOf,Builtin.firstCells,sizeOf,typeInfo,hq,<-hn];rw[htk,hst];simp[Result.andThen]
theorem Qmw:(Tryz.prog.info? 5).map (·.size)=some 1:=by kernel_rfl
def strLen:Value->Nat
 | .string s=>s.size
 | _=>0
theorem Qrl (w:World)(b fl:Nat)(hf:fl<64):(Instr.sliceAt 210 (.pointer (some ⟨b,72,none⟩)) (some (.int .i64 (fl:Int))) none none).run Tryz.prog w=.ok (.slice (some ⟨b,72+fl,none⟩) (64-fl) (64-fl)) w:=by
 have hA:Tryz.prog.arrayLen 210=64:=by kernel_rfl
 have hE:Tryz.prog.elem 210=5:=by kernel_rfl
 have hu:Tryz.prog.underlying 210=some (.array (Tryz.prog.arrayLen 210) (Tryz.prog.elem 210)):=by kernel_rfl
 rw[run_sliceAt_array_l w 210 _ hu .i64 _ (by omega) (by rw[hA];omega),hE,Tryz.sizeOf5,hA]
 simp only[Result.andThen_ok,slicedAt];rw[if_neg (by omega),Addr.add_lit]
 have e1:((fl:Int)).toNat=fl:=by omega
 rw[e1,Nat.mul_one]
theorem Qkp (b:Nat)(l:List UInt8)(N:Nat)(s:ByteArray)(w:World)(h:Taken w b l (N:Int))(hN:Hid (N+s.size<9223372036854775808)):
  Calls Tryz.prog 157 #[.pointer (some ⟨b,0,none⟩),.string s] w λe w'=>e=.returned (.tuple #[])/\Taken w' b (l++s.data.toList) ((N+s.size:Nat):Int)/\Kept w.heap.size b w w':=by
 obtain⟨blk,hb64,hbt,hD⟩:=h;have c1:=hD.n (Qa7 _) hb64;have f1:=hD.free 137
 have hN':IntKind.u64.wrap ((N:Int)+IntKind.u64.wrap (s.size:Int))=((N+s.size:Nat):Int):=by
  have:=hN.out;rw[IntKind.wrap_u64,IntKind.wrap_u64];omega
 have hN2:((N:Int)+(s.size:Int))%18446744073709551616=((N+s.size:Nat):Int):=by
  have:=hN.out
  omega
 obtain⟨M,hM⟩:∃M,M=N+s.size:=⟨_,rfl⟩;rw[<-hM] at hN' hN2 |-;have hset:=hD.set_n (Qa7 _) hb64 (M:Int);have Hset:Hid (Taken (w.setCell ⟨b,137,none⟩ (.int .u64 (M:Int))) b (l++s.data.toList.take 0) (M:Int)):=hid (by rw[List.take_zero,List.append_nil];exact⟨blk,hb64,hbt,hset⟩)
 have Kset:Hid (Kept w.heap.size b w (w.setCell ⟨b,137,none⟩ (.int .u64 (M:Int)))):=hid (zI.set (.inl rfl) _ _);have hlt:=hD.lt;clear hset hD hb64 hbt hM hN
 go_enter Tryz.func157,Tryz.ntmps157
 go_wp2_with fail
 generalize w.setCell ⟨b,137,none⟩ (.int .u64 (M:Int))=w1 at Hset Kset |-;clear c1 f1
 go_loopw [1,4] (λtx n9 w9=>∃k:Nat,∃S:ByteArray,tx=.string S/\Hid (S.data.toList=s.data.toList.drop k)/\Hid (Taken w9 b (l++s.data.toList.take k) (M:Int))/\Hid (Kept w.heap.size b w w9)) (λtx _ _=>strLen tx)
 case atStart=>exact⟨0,s,rfl,hid rfl,Hset,Kset⟩
 case round=>
  obtain⟨k,S,rfl,hS,hT,hK⟩:=hrel;have hSl:S.data.toList.length=S.size:=by simp
  by_cases h0:0<S.size
  ·obtain⟨blk,hb64,hbt,hD⟩:=hT.out
   have htk:S.size=s.data.toList.length-k:=by rw[<-hSl,hS.out,List.length_drop]
   obtain⟨L,hL⟩:∃L,L=l++s.data.toList.take k:=⟨_,rfl⟩;rw[<-hL] at hbt hD;obtain⟨fl,hfl⟩:∃fl,fl=L.length%64:=⟨_,rfl⟩;have hf64:fl<64:=by omega
   obtain⟨n,hn⟩:∃n,n=Nat.min S.size (64-fl):=⟨_,rfl⟩;have hn1:n<=S.size:=by rw[hn];exact Nat.min_le_left _ _
   have hn2:n<=64-fl:=by rw[hn];exact Nat.min_le_right _ _
   have hn3:0<n:=by rw[hn];exact Nat.lt_min.2 ⟨h0,by omega⟩
   rw[<-hfl] at hbt hD;have c1:=hD.fl (Qa7 _) hb64;have HD:=hid hD;have Hn:=hid hn;have Hfl:=hid hfl;have HL:=hid hL;have Hbt:=hid hbt;have Htk:=hid htk;clear hD hn hfl hL hbt htk hT
   go_wp2_with fail
   refine wp_region_still_tail 9 (by kernel_rfl) (by kernel_rfl) ?_
   simp only[List.take_succ_cons,List.take_zero,List.drop_succ_cons,List.drop_zero];generalize hw9:({ heap:=wr.heap,tape:=wr.tape,drawn:=wr.drawn+1,os:=wr.os,output:=wr.output }:World)=wd
   have c1d:wd.cell? ⟨b,136,none⟩=some (.int .i64 (fl:Int)):=by rw[<-hw9];exact c1
   have hDd:Dig wd b (Sm.blocks L (L.length/64)).list blk (fl:Int) (M:Int):=by rw[<-hw9];exact HD.out
   have kd:Kept w.heap.size b w wd:=by rw[<-hw9];exact hK.out.drew
   clear hw9 c1 HD hK;have hsl:=Qrl wd b fl hf64;have hxl:(S.data.toList.take n).length=n:=by rw[List.length_take,hSl];omega
   have hlaid:=Qwu (Sm.blocks L (L.length/64)).list blk (fl:Int) (M:Int) (Qa7 _) fl (S.data.toList.take n) (by rw[hxl];omega)
   have hlaidl:(laid blk fl (S.data.toList.take n)).length=64:=by rw[Qpe _ _ _ (by rw[hxl];omega)];exact hb64
   have hdl:=Qk9 (Sm.blocks L (L.length/64)).list blk (fl:Int) (M:Int) (Qa7 _) hb64;rw[hxl] at hlaid;have Hlaid:=hid hlaid;clear hlaid
   repeat still_step
   refine wpStill_nil ?_;unfold Dig at hDd;have hfit:72+fl+n<=(digCells (Sm.blocks L (L.length/64)).list blk (fl:Int) (M:Int)).toArray.size:=by rw[List.size_toArray,hdl];omega
   have hcp:=Qe0 (P:=Tryz.prog) wd 106 9 3 5 b (72+fl) (64-fl) (64-fl) S _ 236 n Hn.out Tryz.underlying106 Qmw hDd hfit
   rw[List.toList_toArray,Hlaid.out] at hcp;have hDs:Dig (wd.setRow b (digCells (Sm.blocks L (L.length/64)).list (laid blk fl (S.data.toList.take n)) (fl:Int) (M:Int)).toArray) b (Sm.blocks L (L.length/64)).list (laid blk fl (S.data.toList.take n)) (fl:Int) (M:Int):=setRow_heap wd b _ _ _ _ hDd
   have ks:Kept w.heap.size b w (wd.setRow b (digCells (Sm.blocks L (L.length/64)).list (laid blk fl (S.data.toList.take n)) (fl:Int) (M:Int)).toArray):=
    kd.trans ⟨rfl,rfl,rfl,by simp[World.setRow],λk _ hk=>setRow_other wd b k _ hk⟩
   generalize wd.setRow b (digCells (Sm.blocks L (L.length/64)).list (laid blk fl (S.data.toList.take n)) (fl:Int) (M:Int)).toArray=w5 at hcp hDs ks;have Hcp:=hid hcp;clear hcp hdl hfit
   go_wp2_with fail
   rw[Hcp.out];have c5:=hDs.fl (Qa7 _) hlaidl;have f5:=hDs.free 136;have hset:=hDs.set_fl (Qa7 _) hlaidl ((fl+n:Nat):Int);have kset:=ks.set (b':=b) (.inl rfl) 136 (.int .i64 ((fl+n:Nat):Int));have hw:IntKind.i64.wrap ((fl:Int)+(n:Int))=((fl+n:Nat):Int):=by rw[IntKind.wrap_i64];omega
   have Hset5:=hid hset;have Kset5:=hid kset;clear hset kset hDs ks hDd kd c1d;have hLx:l++s.data.toList.take (k+n)=L++S.data.toList.take n:=by rw[HL.out,hS.out,List.take_add,List.append_assoc]
   have hext:(S.extract n S.size).data.toList=s.data.toList.drop (k+n):=by
    rw[ByteArray.data_extract,Array.toList_extract,hS.out];simp only[List.extract_eq_take_drop];rw[List.drop_drop,List.take_of_length_le];rw[List.length_drop];have:=Htk.out
    omega
   have hexs:(S.extract n S.size).size<S.size:=by rw[ByteArray.size_extract];omega
   have HLx:=hid hLx;have Hext:=hid hext;have Hexs:=hid hexs;clear hLx hext hexs
   by_cases hfull:fl+n=64
   ·have hset64:Dig (w5.setCell ⟨b,136,none⟩ (.int .i64 64)) b (Sm.blocks L (L.length/64)).list (laid blk fl (S.data.toList.take n)) 64 (M:Int):=by
     have h:=Hset5.out;rw[hfull] at h;exact h
    have kset64:Kept w.heap.size b w (w5.setCell ⟨b,136,none⟩ (.int .i64 64)):=by
     have h:=Kset5.out;rw[hfull] at h;exact h
    have HSet64:=hid hset64;have HK64:=hid kset64;clear hset64 kset64
    go_wp2_with fail
    refine(Qul b (Sm.blocks L (L.length/64)) (laid blk fl (S.data.toList.take n)) 64 (M:Int) _ hlaidl HSet64.out).mono ?_;rintro e w6 ⟨rfl,hD6,k6⟩;have c6:=hD6.fl (Qa7 _) hlaidl;have f6:=hD6.free 136;have hset7:=hD6.set_fl (Qa7 _) hlaidl 0;have k7:=(HK64.out.trans (k6.mono HK64.out.size (λ_ _ h=>h))).set (b':=b) (.inl rfl) 136 (.int .i64 0)
    have hT7:Taken (w6.setCell ⟨b,136,none⟩ (.int .i64 0)) b (l++s.data.toList.take (k+n)) (M:Int):=by
     have hbt:=Hbt.out;have hfl:=Hfl.out;rw[hfl] at hbt;obtain⟨t1,t2,t3,t4⟩:=Qrf L (S.data.toList.take n) blk hb64 hbt (by rw[hxl,<-hfl];exact hfull)
     rw[HLx.out];refine⟨laid blk fl (S.data.toList.take n),hlaidl,?_,?_⟩
     ·rw[t2,t3,List.take_zero]
     ·rw[t2,t4,<-hfl]
      exact hset7
    have HT7:=hid hT7;have HK7:=hid k7;clear hset7 hD6 k6 hT7 k7
    go_wp2_with fail
    go_roundw
    case rel=>exact⟨k+n,S.extract n S.size,rfl,hid Hext.out,hid HT7.out,hid HK7.out⟩
    case measure=>exact Hexs.out
   ·have hT7:Taken (w5.setCell ⟨b,136,none⟩ (.int .i64 ((fl+n:Nat):Int))) b (l++s.data.toList.take (k+n)) (M:Int):=by
     have hbt:=Hbt.out;have hfl:=Hfl.out;rw[hfl] at hbt;obtain⟨t1,t2,t3,t4⟩:=Qre L (S.data.toList.take n) blk hb64 hbt (by rw[hxl,<-hfl];omega)
     rw[HLx.out];refine⟨laid blk fl (S.data.toList.take n),hlaidl,?_,?_⟩
     ·rw[<-t3,hfl]
     ·rw[t2,t4,hxl,<-hfl]
      exact Hset5.out
    have HT7:=hid hT7;rw[Int.natCast_add] at HT7 Kset5;clear hT7
    go_wp2_with fail
    refine⟨⟨k+n,S.extract n S.size,rfl,hid Hext.out,hid HT7.out,hid Kset5.out⟩,Hexs.out⟩
  ·go_wp2_with fail
   go_end0
   have htk:s.data.toList.take k=s.data.toList:=by
    have h1:S.data.toList.length=s.data.toList.length-k:=by rw[hS.out,List.length_drop]
    exact List.take_of_length_le (by omega)
   have hT':=hT.out;rw[htk] at hT';exact⟨rfl,hT',hK.out⟩
theorem Qib (w:World):Calls Tryz.prog 155 #[] w λe w'=>e=.returned (.agg (wcells Sm.init.list).toArray)/\Kept w.heap.size w.heap.size w w':=by
 go_enter Tryz.func155,Tryz.ntmps155
 go_wp2_with fail
 rw[Qho];have hV:(w.alloc (.cells (wcells Sm.init.list).toArray 230)).heap[w.heap.size]?=some (.cells (wcells Sm.init.list).toArray 230 (0,0)):=Qaa _ _
 refine bodyPost_ret (results_cell_row rfl _ _ w.heap.size 230 _ (0,0) _ rfl hV Tryz.underlying230 rfl (by rw[Qip];rfl)) rfl ?_
 exact⟨rfl,zI.alloc (zB _) _⟩
theorem Qh7 (w:World):Calls Tryz.prog 156 #[] w λe w'=>e=.returned (.agg (wcells Sm.K).toArray)/\Kept w.heap.size w.heap.size w w':=by
 go_enter Tryz.func156,Tryz.ntmps156
 go_upto_region 1 with fail
 rw[Qd2];have hA:(w.alloc (.cells Qbg 229)).heap[w.heap.size]?=some (.cells Qbg 229 (0,0)):=Qaa _ _
 have k1:Kept w.heap.size w.heap.size w (w.alloc (.cells Qbg 229)):=zI.alloc (zB _) _
 generalize w.alloc (.cells Qbg 229)=w1 at hA k1 |-
 refine zA ?_;refine wpList_build rfl _ _ rfl (by kernel_rfl) ?_
 generalize hk:Option.getD (Program.built _ _ _) _=kc;have hkc:kc=(wcells Sm.K).toArray:=hk.symm.trans (by kernel_rfl)
 clear hk;have hksz:kc.size=64:=by rw[hkc];rfl
 have hkall:kc.all (·.oneCell')=true:=by rw[hkc];exact Qcp _
 have Hkc:=hid hkc;have hz64:Qbg.size=64:=rfl;clear hkc
 go_wp2_with (with_reducible refine wpList_store_row rfl 229 _ _ rfl w.heap.size kc rfl rfl 229 _ hA (by rw[Qey,hksz]) (hz64.trans hksz.symm) hkall ?_)
 have t2:(w1.setRow w.heap.size kc).heap[w.heap.size]?=some (.cells kc 229 (0,0)):=setRow_heap w1 w.heap.size _ kc _ _ hA
 refine bodyPost_ret (results_cell_row rfl _ _ w.heap.size 229 kc (0,0) _ rfl t2 Tryz.underlying229 rfl (by rw[Qey,hksz])) rfl ?_
 refine⟨by rw[Hkc.out],k1.trans ⟨rfl,rfl,rfl,by simp[World.setRow],λk hk _=>setRow_other w1 w.heap.size k kc (by omega)⟩⟩
open Go.RowKit Go.Lib
open List renaming setIfInBounds_toArray -> sA, set_cons_zero -> sB, set_cons_succ -> sC
open BigFrame renaming wpList_want -> wQ
theorem Ql9:∀ a b:List UInt8,compareBytes a b=- compareBytes b a
 | [],[]=>rfl
 | [],_::_=>rfl
 | _::_,[]=>rfl
 | x::a,y::b=>by
  unfold compareBytes
  by_cases h1:x<y
  ·have h2:¬y<x:=λh=>UInt8.lt_irrefl _ (UInt8.lt_trans h1 h)
   rw[zG h1,if_neg h2,zG h1]
  ·by_cases h2:y<x
   ·rw[if_neg h1,zG h2,zG h2]
    rfl
   ·rw[if_neg h1,if_neg h2,if_neg h2,if_neg h1]
    exact Ql9 a b
theorem Ql8:∀ a b:List UInt8,compareBytes a b=0↔a=b
 | [],[]=>by simp[compareBytes]
 | [],_::_=>by simp[compareBytes]
 | _::_,[]=>by simp[compareBytes]
 | x::a,y::b=>by
  unfold compareBytes
  by_cases h1:x<y
  ·rw[zG h1]
   constructor
   ·intro h;cases h
   ·intro h;cases h;exact absurd h1 (UInt8.lt_irrefl _)
  ·by_cases h2:y<x
   ·rw[if_neg h1,zG h2]
    constructor
    ·intro h;cases h
    ·intro h;cases h;exact absurd h2 (UInt8.lt_irrefl _)
   ·rw[if_neg h1,if_neg h2,Ql8 a b]
    have e:x=y:=UInt8.le_antisymm (UInt8.not_lt.1 h2) (UInt8.not_lt.1 h1);subst e;simp
theorem Qq3:∀ a b c:List UInt8,compareBytes a b<=0->compareBytes b c<=0->compareBytes a c<=0
 | [],_,[],_,_=>by simp[compareBytes]
 | [],_,_::_,_,_=>by simp[compareBytes]
 | _::_,[],_,h,_=>by simp[compareBytes] at h
 | _::_,_::_,[],_,h=>by simp[compareBytes] at h
 | x::a,y::b,z::c,h1,h2=>by
  unfold compareBytes at h1 h2 |-
  by_cases xy:x<y
  ·by_cases yz:y<z
   ·rw[zG (UInt8.lt_trans xy yz)];decide
   ·by_cases zy:z<y
    ·rw[if_neg yz,zG zy] at h2
     exact absurd h2 (by decide)
    ·have e:y=z:=UInt8.le_antisymm (UInt8.not_lt.1 zy) (UInt8.not_lt.1 yz)
     subst e;rw[zG xy];decide
  ·by_cases yx:y<x
   ·rw[if_neg xy,zG yx] at h1
    exact absurd h1 (by decide)
   ·have e:x=y:=UInt8.le_antisymm (UInt8.not_lt.1 yx) (UInt8.not_lt.1 xy)
    subst e;rw[if_neg xy,if_neg xy] at h1
    by_cases yz:x<z
    ·rw[zG yz];decide
    ·by_cases zy:z<x
     ·rw[if_neg yz,zG zy] at h2
      exact absurd h2 (by decide)
     ·rw[if_neg yz,if_neg zy] at h2 |-
      exact Qq3 a b c h1 h2
end Go.Proofs.YtnlbgggnpoeleaaGreatDoor
