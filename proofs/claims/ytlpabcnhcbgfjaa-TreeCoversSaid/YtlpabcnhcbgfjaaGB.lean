/-
 ShaCmp; ShaCmpF; ShaMath; ShaWords; ShaCells; ShaDig; ShaHash; ShaRight; ShaSpread; ShaMix; ShaTaken; ShaTake; ShaStart: several texts in one.
-/
import Derived.Test.YtlpabcnhcbgfjaaProg
import Derived.Test.YtlpabcnhcbgfjaaGA
import Derived.Lib.Hide
import Derived.Deep.MidRow
import Derived.Deep.Cut
import Derived.Lib.Bytealg
import Derived.Lib.Walk
import Derived.Deep.QuietTactic
import Derived.BigQuiet
import Derived.Laws.IdiomStrings
import Derived.Laws.BitsAllLaws
import Derived.Laws.PanicsMore
import Derived.Deep.RegionHeld3
import Derived.StillTailTactics
import Derived.Laws.CopyRow
import Derived.Laws.CopyOwn
import Derived.Laws.Tables
set_option maxRecDepth 100000
namespace Go.Proofs.Ytlpabcnhcbgfjaa
open Go.RowKit Go.Lib
open List renaming setIfInBounds_toArray → sA, set_cons_zero → sB, set_cons_succ → sC
open BigFrame renaming wpList_want → wQ
theorem cb_anti:∀ a b:List UInt8,compareBytes a b = - compareBytes b a
 | [],[]=>rfl
 | [],_ :: _=>rfl
 | _ :: _,[]=>rfl
 | x :: a,y :: b=>by
  unfold compareBytes
  by_cases h1:x < y
  ·have h2:¬ y < x:=fun h=>UInt8.lt_irrefl _ (UInt8.lt_trans h1 h)
   rw [if_pos h1,if_neg h2,if_pos h1]
  ·by_cases h2:y < x
   ·rw [if_neg h1,if_pos h2,if_pos h2]
    rfl
   ·rw [if_neg h1,if_neg h2,if_neg h2,if_neg h1]
    exact cb_anti a b
theorem cb_zero:∀ a b:List UInt8,compareBytes a b = 0↔a = b
 | [],[]=>by simp [compareBytes]
 | [],_ :: _=>by simp [compareBytes]
 | _ :: _,[]=>by simp [compareBytes]
 | x :: a,y :: b=>by
  unfold compareBytes
  by_cases h1:x < y
  ·rw [if_pos h1]
   constructor
   ·intro h; cases h
   ·intro h; cases h; exact absurd h1 (UInt8.lt_irrefl _)
  ·by_cases h2:y < x
   ·rw [if_neg h1,if_pos h2]
    constructor
    ·intro h; cases h
    ·intro h; cases h; exact absurd h2 (UInt8.lt_irrefl _)
   ·rw [if_neg h1,if_neg h2,cb_zero a b]
    have e:x = y:=UInt8.le_antisymm (UInt8.not_lt.1 h2) (UInt8.not_lt.1 h1);subst e;simp
theorem cb_trans:∀ a b c:List UInt8,compareBytes a b≤0→compareBytes b c≤0→compareBytes a c≤0
 | [],_,[],_,_=>by simp [compareBytes]
 | [],_,_ :: _,_,_=>by simp [compareBytes]
 | _ :: _,[],_,h,_=>by simp [compareBytes] at h
 | _ :: _,_ :: _,[],_,h=>by simp [compareBytes] at h
 | x :: a,y :: b,z :: c,h1,h2=>by
  unfold compareBytes at h1 h2 ⊢
  by_cases xy:x < y
  ·by_cases yz:y < z
   ·rw [if_pos (UInt8.lt_trans xy yz)]; decide
   ·by_cases zy:z < y
    ·rw [if_neg yz,if_pos zy] at h2
     exact absurd h2 (by decide)
    ·have e:y = z:=UInt8.le_antisymm (UInt8.not_lt.1 zy) (UInt8.not_lt.1 yz)
     subst e;rw [if_pos xy]; decide
  ·by_cases yx:y < x
   ·rw [if_neg xy,if_pos yx] at h1
    exact absurd h1 (by decide)
   ·have e:x = y:=UInt8.le_antisymm (UInt8.not_lt.1 yx) (UInt8.not_lt.1 xy)
    subst e;rw [if_neg xy,if_neg xy] at h1
    by_cases yz:x < z
    ·rw [if_pos yz]; decide
    ·by_cases zy:z < x
     ·rw [if_neg yz,if_pos zy] at h2
      exact absurd h2 (by decide)
     ·rw [if_neg yz,if_neg zy] at h2 ⊢
      exact cb_trans a b c h1 h2
end Go.Proofs.Ytlpabcnhcbgfjaa
namespace Go.Proofs.Ytlpabcnhcbgfjaa
namespace Sm
def rotr (x:UInt32)(n:Nat):UInt32:=UInt32.ofNat (x.toNat / 2 ^ n ||| x.toNat * 2 ^ (32 - n) % 4294967296)
def shr (x:UInt32)(n:Nat):UInt32:=UInt32.ofNat (x.toNat / 2 ^ n)
def sig0 (x:UInt32):UInt32:=rotr x 7 ^^^ rotr x 18 ^^^ shr x 3
def sig1 (x:UInt32):UInt32:=rotr x 17 ^^^ rotr x 19 ^^^ shr x 10
def big0 (a:UInt32):UInt32:=rotr a 2 ^^^ rotr a 13 ^^^ rotr a 22
def big1 (e:UInt32):UInt32:=rotr e 6 ^^^ rotr e 11 ^^^ rotr e 25
def cho (e f g:UInt32):UInt32:=(e &&& f) ^^^ (~~~e &&& g)
def maj (a b c:UInt32):UInt32:=(a &&& b) ^^^ (a &&& c) ^^^ (b &&& c)
def K:List UInt32:=[
 0x428a2f98,0x71374491,0xb5c0fbcf,0xe9b5dba5,0x3956c25b,0x59f111f1,0x923f82a4,0xab1c5ed5,
 0xd807aa98,0x12835b01,0x243185be,0x550c7dc3,0x72be5d74,0x80deb1fe,0x9bdc06a7,0xc19bf174,
 0xe49b69c1,0xefbe4786,0x0fc19dc6,0x240ca1cc,0x2de92c6f,0x4a7484aa,0x5cb0a9dc,0x76f988da,
 0x983e5152,0xa831c66d,0xb00327c8,0xbf597fc7,0xc6e00bf3,0xd5a79147,0x06ca6351,0x14292967,
 0x27b70a85,0x2e1b2138,0x4d2c6dfc,0x53380d13,0x650a7354,0x766a0abb,0x81c2c92e,0x92722c85,
 0xa2bfe8a1,0xa81a664b,0xc24b8b70,0xc76c51a3,0xd192e819,0xd6990624,0xf40e3585,0x106aa070,
 0x19a4c116,0x1e376c08,0x2748774c,0x34b0bcb5,0x391c0cb3,0x4ed8aa4a,0x5b9cca4f,0x682e6ff3,
 0x748f82ee,0x78a5636f,0x84c87814,0x8cc70208,0x90befffa,0xa4506ceb,0xbef9a3f7,0xc67178f2]
structure St where
 a:UInt32
 b:UInt32
 c:UInt32
 d:UInt32
 e:UInt32
 f:UInt32
 g:UInt32
 h:UInt32
def St.list (s:St):List UInt32:=[s.a,s.b,s.c,s.d,s.e,s.f,s.g,s.h]
def init:St:=⟨0x6a09e667,0xbb67ae85,0x3c6ef372,0xa54ff53a,0x510e527f,0x9b05688c,0x1f83d9ab,0x5be0cd19⟩
def word (l:List UInt8)(i:Nat):UInt32:=
 UInt32.ofNat ((l.getD i 0).toNat * 16777216 + (l.getD (i + 1) 0).toNat * 65536 + (l.getD (i + 2) 0).toNat * 256 + (l.getD (i + 3) 0).toNat)
def first (l:List UInt8)(at0:Nat):Nat→List UInt32
 | 0=>[]
 | j + 1=>first l at0 j ++ [word l (at0 + 4 * j)]
def ext (w:List UInt32):List UInt32:=
 w ++ [w.getD (w.length - 16) 0 + w.getD (w.length - 7) 0 + sig0 (w.getD (w.length - 15) 0) + sig1 (w.getD (w.length - 2) 0)]
def exts (w:List UInt32):Nat→List UInt32
 | 0=>w
 | j + 1=>ext (exts w j)
def sched (l:List UInt8)(at0:Nat):List UInt32:=exts (first l at0 16) 48
def t1 (s:St)(k w:UInt32):UInt32:=s.h + big1 s.e + cho s.e s.f s.g + k + w
def t2 (s:St):UInt32:=big0 s.a + maj s.a s.b s.c
def step (s:St)(k w:UInt32):St:=⟨t1 s k w + t2 s,s.a,s.b,s.c,s.d + t1 s k w,s.e,s.f,s.g⟩
def rounds (w:List UInt32)(s:St):Nat→St
 | 0=>s
 | j + 1=>step (rounds w s j) (K.getD j 0) (w.getD j 0)
def plus (v s:St):St:=⟨v.a + s.a,v.b + s.b,v.c + s.c,v.d + s.d,v.e + s.e,v.f + s.f,v.g + s.g,v.h + s.h⟩
def block (l:List UInt8)(at0:Nat)(v:St):St:=plus v (rounds (sched l at0) v 64)
def blocks (l:List UInt8):Nat→St
 | 0=>init
 | j + 1=>block l (64 * j) (blocks l j)
def zeros (n:Nat):Nat:=(119 - n % 64) % 64
def be8 (n:Nat):List UInt8:=(List.range 8).map fun i=>UInt8.ofNat (n / 256 ^ (7 - i))
def pad (l:List UInt8):List UInt8:=l ++ [128] ++ List.replicate (zeros l.length) 0 ++ be8 (8 * l.length)
def bytes4 (x:UInt32):List UInt8:=(List.range 4).map fun i=>UInt8.ofNat (x.toNat / 256 ^ (3 - i))
def sum (l:List UInt8):List UInt8:=((blocks (pad l) ((pad l).length / 64)).list).flatMap bytes4
def sign (d:Nat):UInt8:=if d < 10 then UInt8.ofNat (48 + d) else UInt8.ofNat (87 + d)
def hex (l:List UInt8):List UInt8:=l.flatMap fun b=>[sign (b.toNat / 16),sign (b.toNat % 16)]
def abc:List UInt8:=[0x62,0x61,0x37,0x38,0x31,0x36,0x62,0x66,0x38,0x66,0x30,0x31,0x63,0x66,0x65,0x61,0x34,0x31,0x34,0x31,0x34,0x30,0x64,0x65,0x35,0x64,0x61,0x65,0x32,0x32,0x32,0x33,
 0x62,0x30,0x30,0x33,0x36,0x31,0x61,0x33,0x39,0x36,0x31,0x37,0x37,0x61,0x39,0x63,0x62,0x34,0x31,0x30,0x66,0x66,0x36,0x31,0x66,0x32,0x30,0x30,0x31,0x35,0x61,0x64]
theorem awake:hex (sum [97,98,99]) = abc:=by decide +kernel
theorem shr_toNat (x:UInt32)(n:Nat):(shr x n).toNat = x.toNat / 2 ^ n:=by
 have h:=x.toNat_lt;rw [shr,UInt32.toNat_ofNat'];exact Nat.mod_eq_of_lt (Nat.lt_of_le_of_lt (Nat.div_le_self _ _) h)
theorem first_length (l:List UInt8)(a:Nat):∀ j,(first l a j).length = j
 | 0=>rfl
 | j + 1=>by rw [first,List.length_append,first_length l a j]; rfl
theorem ext_length (w:List UInt32):(ext w).length = w.length + 1:=by simp [ext]
theorem exts_length (w:List UInt32):∀ j,(exts w j).length = w.length + j
 | 0=>rfl
 | j + 1=>by rw [exts,ext_length,exts_length w j]; omega
theorem sched_length (l:List UInt8)(a:Nat):(sched l a).length = 64:=by rw [sched,exts_length,first_length]
theorem pad_length (l:List UInt8):(pad l).length = l.length + 1 + zeros l.length + 8:=by simp [pad,be8]; omega
theorem pad_mod (l:List UInt8):(pad l).length % 64 = 0:=by rw [pad_length,zeros]; omega
end Sm
end Go.Proofs.Ytlpabcnhcbgfjaa
namespace Go.Proofs.Ytlpabcnhcbgfjaa
open Go.RowKit
def w32 (x:UInt32):Value:=.int .u32 (x.toNat:Int)
theorem w32_or (a b:Nat)(ha:a < 4294967296)(hb:b < 4294967296):bits .or .u32 (a:Int) (b:Int) = (((UInt32.ofNat (a ||| b)).toNat:Nat):Int):=by
 rw [u32_or_nat a b ha hb,UInt32.toNat_ofNat']
 congr 1
 exact(Nat.mod_eq_of_lt (Nat.or_lt_two_pow (n:=32) ha hb)).symm
theorem w32_xor (x y:UInt32):bits .xor .u32 (x.toNat:Int) (y.toNat:Int) = ((x ^^^ y).toNat:Int):=by
 rw [u32_xor_nat _ _ x.toNat_lt y.toNat_lt,UInt32.toNat_xor]
theorem w32_and (x y:UInt32):bits .and .u32 (x.toNat:Int) (y.toNat:Int) = ((x &&& y).toNat:Int):=by
 rw [u32_and_nat _ _ x.toNat_lt y.toNat_lt,UInt32.toNat_and]
theorem w32_add (x y:UInt32):((x.toNat:Int) + (y.toNat:Int)) % 4294967296 = ((x + y).toNat:Int):=by
 rw [UInt32.toNat_add]
 omega
theorem w32_shr (x:UInt32)(n:Nat)(m:Int)(hm:m = ((2 ^ n:Nat):Int)):(x.toNat:Int) / m = ((Sm.shr x n).toNat:Int):=by
 rw [Sm.shr_toNat,hm]
 rfl
theorem w32_shr3 (x:UInt32):(x.toNat:Int) / 8 = ((Sm.shr x 3).toNat:Int):=w32_shr x 3 8 rfl
theorem w32_shr10 (x:UInt32):(x.toNat:Int) / 1024 = ((Sm.shr x 10).toNat:Int):=w32_shr x 10 1024 rfl
theorem word_or (a b c d:Nat)(ha:a < 256)(hb:b < 256)(hc:c < 256)(hd:d < 256):
  bits .or .u32 (bits .or .u32 (bits .or .u32 ((a:Int) * 16777216) ((b:Int) * 65536)) ((c:Int) * 256)) (d:Int) = ((a * 16777216 + b * 65536 + c * 256 + d:Nat):Int):=by
 have e1:bits .or .u32 ((a:Int) * 16777216) ((b:Int) * 65536) = ((a * 16777216 + b * 65536:Nat):Int):=by
  rw [show(a:Int) * 16777216 = ((a * 16777216:Nat):Int) by omega,show(b:Int) * 65536 = ((b * 65536:Nat):Int) by omega,u32_or_nat _ _ (by omega) (by omega)]
  rw [nat_join 24 _ _ (by omega) (by omega)]
 rw [e1,show(c:Int) * 256 = ((c * 256:Nat):Int) by omega,u32_or_nat _ _ (by omega) (by omega),nat_join 16 _ _ (by omega) (by omega),u32_or_nat _ _ (by omega) (by omega),nat_join 8 _ _ (by omega) (by omega)]
theorem shaInfo44:(Try.prog.info? 108).map (·.size) = some 8:=by kernel_rfl
theorem shaInfo5:(Try.prog.info? 5).map (fun i=>(i.zero,i.size,i.bytes)) = some (some (.int .u8 0),1,1):=by kernel_rfl
theorem sha_u8:∃ i,Try.prog.info? 5 = some i∧i.zero = some (.int .u8 0)∧i.size = 1∧i.bytes = 1:=by
 have h:=shaInfo5;rw [Option.map_eq_some_iff] at h;obtain⟨i,h1,h2⟩:=h;simp only [Prod.mk.injEq] at h2;exact⟨i,h1,h2.1,h2.2.1,h2.2.2⟩
def slen:Value→Nat
 | .slice _ n _=>n
 | _=>0
def padTo (l:List UInt8)(j:Nat):List UInt8:=l ++ [128] ++ List.replicate j (0:UInt8)
def padLen (l:List UInt8)(i:Nat):List UInt8:=padTo l (Sm.zeros l.length) ++ (Sm.be8 (8 * l.length)).take i
theorem padTo_zero (l:List UInt8):l ++ [128] = padTo l 0:=by simp [padTo]
theorem padTo_more (l:List UInt8)(j:Nat):padTo l j ++ [0] = padTo l (j + 1):=by
 rw [padTo,padTo,List.append_assoc _ _ [0],List.replicate_succ']
theorem padTo_length (l:List UInt8)(j:Nat):(padTo l j).length = l.length + 1 + j:=by simp [padTo]; omega
theorem padLen_zero (l:List UInt8):padTo l (Sm.zeros l.length) = padLen l 0:=by simp [padLen]
theorem be8_length (n:Nat):(Sm.be8 n).length = 8:=by simp [Sm.be8]
theorem padLen_more (l:List UInt8)(i:Nat)(hi:i < 8):padLen l i ++ [UInt8.ofNat (8 * l.length / 256 ^ (7 - i))] = padLen l (i + 1):=by
 have h8:i < (Sm.be8 (8 * l.length)).length:=by rw [be8_length]; exact hi
 rw [padLen,padLen,List.append_assoc,List.take_succ_eq_append_getElem h8]
 congr 3
 simp [Sm.be8]
theorem padLen_length (l:List UInt8)(i:Nat)(hi:i≤8):(padLen l i).length = l.length + 1 + Sm.zeros l.length + i:=by
 rw [padLen,List.length_append,padTo_length,List.length_take,be8_length]
 omega
theorem padLen_all (l:List UInt8):padLen l 8 = Sm.pad l:=by
 rw [padLen,List.take_of_length_le (by rw [be8_length]; exact Nat.le_refl _),padTo,Sm.pad]
theorem two56 (i:Nat)(hi:i < 8):2 ^ (56 - 8 * i) = 256 ^ (7 - i):=by
 rw [show(256:Nat) = 2 ^ 8 by decide,← Nat.pow_mul]
 congr 1
 omega
theorem lenbyte (n j:Nat)(hj:j < 8):(n:Int) * 8 / 2 ^ (56 - 8 * j) % 256 = (((UInt8.ofNat (8 * n / 256 ^ (7 - j))).toNat:Nat):Int):=by
 rw [UInt8.toNat_ofNat',← two56 j hj,Nat.mul_comm 8 n];simp
def wcells (l:List UInt32):List Value:=l.map w32
def wrow (l:List UInt32):List Value:=wcells l ++ List.replicate (64 - l.length) (Value.int .u32 0)
theorem wcells_length (l:List UInt32):(wcells l).length = l.length:=by simp [wcells]
theorem wrow_length (l:List UInt32)(h:l.length≤64):(wrow l).length = 64:=by rw [wrow,List.length_append,wcells_length,List.length_replicate]; omega
theorem wcells_all (l:List UInt32):(wcells l).toArray.all (·.oneCell') = true:=by
 rw [Array.all_eq_true_iff_forall_mem];intro v hv;rw [List.mem_toArray,wcells,List.mem_map] at hv;obtain⟨c,_,rfl⟩:=hv
 rfl
theorem wcells_at (l:List UInt32)(i:Nat)(hi:i < l.length):(wcells l)[i]? = some (w32 (l.getD i 0)):=by
 simp [wcells,List.getD_eq_getElem?_getD,hi]
theorem wrow_at (l:List UInt32)(i:Nat)(hi:i < l.length):(wrow l)[i]? = some (w32 (l.getD i 0)):=by
 rw [wrow,List.getElem?_append_left (by rw [wcells_length]; exact hi),wcells_at l i hi]
theorem wrow_set (l:List UInt32)(x:UInt32)(h:l.length < 64):(wrow l).set l.length (w32 x) = wrow (l ++ [x]):=by
 unfold wrow;have e:64 - l.length = (64 - (l ++ [x]).length) + 1:=by rw [List.length_append,List.length_singleton]; omega
 rw [List.set_append_right _ _ (by rw [wcells_length]; exact Nat.le_refl _),wcells_length,Nat.sub_self,e,List.replicate_succ,List.set_cons_zero]
 simp [wcells]
theorem stcells_init : #[Value.int IntKind.u32 1779033703,Value.int IntKind.u32 3144134277,Value.int IntKind.u32 1013904242,Value.int IntKind.u32 2773480762,Value.int IntKind.u32 1359893119,Value.int IntKind.u32 2600822924,Value.int IntKind.u32 528734635,Value.int IntKind.u32 1541459225] = (wcells Sm.init.list).toArray:=rfl
def zeros64:Array Value:=#[Value.int IntKind.u32 0,Value.int IntKind.u32 0,Value.int IntKind.u32 0,Value.int IntKind.u32 0,Value.int IntKind.u32 0,Value.int IntKind.u32 0,Value.int IntKind.u32 0,Value.int IntKind.u32 0,Value.int IntKind.u32 0,Value.int IntKind.u32 0,Value.int IntKind.u32 0,Value.int IntKind.u32 0,Value.int IntKind.u32 0,Value.int IntKind.u32 0,Value.int IntKind.u32 0,Value.int IntKind.u32 0,Value.int IntKind.u32 0,Value.int IntKind.u32 0,Value.int IntKind.u32 0,Value.int IntKind.u32 0,Value.int IntKind.u32 0,Value.int IntKind.u32 0,Value.int IntKind.u32 0,Value.int IntKind.u32 0,Value.int IntKind.u32 0,Value.int IntKind.u32 0,Value.int IntKind.u32 0,Value.int IntKind.u32 0,Value.int IntKind.u32 0,Value.int IntKind.u32 0,Value.int IntKind.u32 0,Value.int IntKind.u32 0,Value.int IntKind.u32 0,Value.int IntKind.u32 0,Value.int IntKind.u32 0,Value.int IntKind.u32 0,Value.int IntKind.u32 0,Value.int IntKind.u32 0,Value.int IntKind.u32 0,Value.int IntKind.u32 0,Value.int IntKind.u32 0,Value.int IntKind.u32 0,Value.int IntKind.u32 0,Value.int IntKind.u32 0,Value.int IntKind.u32 0,Value.int IntKind.u32 0,Value.int IntKind.u32 0,Value.int IntKind.u32 0,Value.int IntKind.u32 0,Value.int IntKind.u32 0,Value.int IntKind.u32 0,Value.int IntKind.u32 0,Value.int IntKind.u32 0,Value.int IntKind.u32 0,Value.int IntKind.u32 0,Value.int IntKind.u32 0,Value.int IntKind.u32 0,Value.int IntKind.u32 0,Value.int IntKind.u32 0,Value.int IntKind.u32 0,Value.int IntKind.u32 0,Value.int IntKind.u32 0,Value.int IntKind.u32 0,Value.int IntKind.u32 0]
theorem zeros64_eq : #[Value.int IntKind.u32 0,Value.int IntKind.u32 0,Value.int IntKind.u32 0,Value.int IntKind.u32 0,Value.int IntKind.u32 0,Value.int IntKind.u32 0,Value.int IntKind.u32 0,Value.int IntKind.u32 0,Value.int IntKind.u32 0,Value.int IntKind.u32 0,Value.int IntKind.u32 0,Value.int IntKind.u32 0,Value.int IntKind.u32 0,Value.int IntKind.u32 0,Value.int IntKind.u32 0,Value.int IntKind.u32 0,Value.int IntKind.u32 0,Value.int IntKind.u32 0,Value.int IntKind.u32 0,Value.int IntKind.u32 0,Value.int IntKind.u32 0,Value.int IntKind.u32 0,Value.int IntKind.u32 0,Value.int IntKind.u32 0,Value.int IntKind.u32 0,Value.int IntKind.u32 0,Value.int IntKind.u32 0,Value.int IntKind.u32 0,Value.int IntKind.u32 0,Value.int IntKind.u32 0,Value.int IntKind.u32 0,Value.int IntKind.u32 0,Value.int IntKind.u32 0,Value.int IntKind.u32 0,Value.int IntKind.u32 0,Value.int IntKind.u32 0,Value.int IntKind.u32 0,Value.int IntKind.u32 0,Value.int IntKind.u32 0,Value.int IntKind.u32 0,Value.int IntKind.u32 0,Value.int IntKind.u32 0,Value.int IntKind.u32 0,Value.int IntKind.u32 0,Value.int IntKind.u32 0,Value.int IntKind.u32 0,Value.int IntKind.u32 0,Value.int IntKind.u32 0,Value.int IntKind.u32 0,Value.int IntKind.u32 0,Value.int IntKind.u32 0,Value.int IntKind.u32 0,Value.int IntKind.u32 0,Value.int IntKind.u32 0,Value.int IntKind.u32 0,Value.int IntKind.u32 0,Value.int IntKind.u32 0,Value.int IntKind.u32 0,Value.int IntKind.u32 0,Value.int IntKind.u32 0,Value.int IntKind.u32 0,Value.int IntKind.u32 0,Value.int IntKind.u32 0,Value.int IntKind.u32 0] = zeros64:=rfl
def kcells:Array Value:=(Sm.K.map w32).toArray
theorem wrow_nil:zeros64 = (wrow []).toArray:=rfl
theorem not32 (x:UInt32):bits .xor .u32 (if IntKind.u32.signed = true then -1 else IntKind.u32.max) (x.toNat:Int) = ((~~~x).toNat:Int):=by
 have e1:(if IntKind.u32.signed = true then -1 else IntKind.u32.max) = (((4294967295:UInt32).toNat:Nat):Int):=by decide
 rw [e1,w32_xor]
 congr 2
theorem t1_val (A B C D E F G I k w:UInt32):((((I.toNat:Int) + bits .xor .u32 (bits .xor .u32 ((Sm.rotr E 6).toNat:Int) ((Sm.rotr E 11).toNat:Int)) ((Sm.rotr E 25).toNat:Int) + bits .xor .u32 (bits .and .u32 (E.toNat:Int) (F.toNat:Int)) (bits .and .u32 (bits .xor .u32 (if IntKind.u32.signed = true then -1 else IntKind.u32.max) (E.toNat:Int)) (G.toNat:Int)) + (k.toNat:Int)) % 4294967296 + (w.toNat:Int)) % 4294967296) = ((Sm.t1 ⟨A,B,C,D,E,F,G,I⟩ k w).toNat:Int):=by
 rw [w32_xor,w32_xor,w32_and,not32,w32_and,w32_xor];unfold Sm.t1 Sm.big1 Sm.cho
 dsimp only
 generalize (Sm.rotr E 6 ^^^ Sm.rotr E 11 ^^^ Sm.rotr E 25) = X;generalize (E &&& F ^^^ ~~~E &&& G) = Y;rw [← w32_add,← w32_add,← w32_add,← w32_add]
 omega
theorem t2_val (A B C D E F G I:UInt32):((bits .xor .u32 (bits .xor .u32 ((Sm.rotr A 2).toNat:Int) ((Sm.rotr A 13).toNat:Int)) ((Sm.rotr A 22).toNat:Int) + bits .xor .u32 (bits .xor .u32 (bits .and .u32 (A.toNat:Int) (B.toNat:Int)) (bits .and .u32 (A.toNat:Int) (C.toNat:Int))) (bits .and .u32 (B.toNat:Int) (C.toNat:Int))) % 4294967296) = ((Sm.t2 ⟨A,B,C,D,E,F,G,I⟩).toNat:Int):=by
 rw [w32_xor,w32_xor,w32_and,w32_and,w32_and,w32_xor,w32_xor];unfold Sm.t2 Sm.big0 Sm.maj
 dsimp only
 rw [← w32_add]
def digCells (st:List UInt32)(blk:List UInt8)(fl n:Int):List Value:=wcells st ++ (wcells Sm.K ++ (bcells blk ++ [.int .i64 fl,.int .u64 n]))
theorem K_length:Sm.K.length = 64:=rfl
def plusTo (v s:List UInt32)(q:Nat):List UInt32:=(List.range 8).map fun i=>if i < q then v.getD i 0 + s.getD i 0 else v.getD i 0
theorem plusTo_length (v s:List UInt32)(q:Nat):(plusTo v s q).length = 8:=by simp [plusTo]
theorem plusTo_getD (v s:List UInt32)(q i:Nat)(hi:i < 8):(plusTo v s q).getD i 0 = if i < q then v.getD i 0 + s.getD i 0 else v.getD i 0:=by
 simp [plusTo,List.getD_eq_getElem?_getD,hi]
theorem plusTo_zero (v s:Sm.St):plusTo v.list s.list 0 = v.list:=by
 simp [plusTo,Sm.St.list,List.range,List.range.loop]
theorem plusTo_all (v s:Sm.St):plusTo v.list s.list 8 = (Sm.plus v s).list:=by
 simp [plusTo,Sm.St.list,Sm.plus,List.range,List.range.loop]
theorem plusTo_set (v s:List UInt32)(q:Nat)(hq:q < 8):(plusTo v s q).set q (v.getD q 0 + s.getD q 0) = plusTo v s (q + 1):=by
 apply List.ext_getElem?;intro j;rw [List.getElem?_set]
 by_cases hj:q = j
 ·subst hj
  rw [if_pos rfl,if_pos (by rw [plusTo_length]; exact hq)]
  simp [plusTo,hq]
 ·rw [if_neg hj]
  by_cases h8:j < 8
  ·simp only [plusTo,List.getElem?_map,List.getElem?_range h8,Option.map_some]
   congr 1
   by_cases h:j < q
   ·rw [if_pos h,if_pos (by omega)]
   ·rw [if_neg h,if_neg (by omega)]
  ·rw [List.getElem?_eq_none (by rw [plusTo_length]; omega),List.getElem?_eq_none (by rw [plusTo_length]; omega)]
def brow (l:List UInt8):List Value:=bcells l ++ List.replicate (32 - l.length) (Value.int .u8 0)
theorem brow_length (l:List UInt8)(h:l.length≤32):(brow l).length = 32:=by rw [brow,List.length_append,bcells_length,List.length_replicate]; omega
theorem brow_set (l:List UInt8)(x:UInt8)(h:l.length < 32):(brow l).set l.length (.int .u8 (x.toNat:Int)) = brow (l ++ [x]):=by
 unfold brow;have e:32 - l.length = (32 - (l ++ [x]).length) + 1:=by rw [List.length_append,List.length_singleton]; omega
 rw [List.set_append_right _ _ (by rw [bcells_length]; exact Nat.le_refl _),bcells_length,Nat.sub_self,e,List.replicate_succ,List.set_cons_zero]
 simp [bcells]
theorem brow_all (l:List UInt8)(h:l.length = 32):brow l = bcells l:=by rw [brow,h]; simp
def wbytes (l:List UInt32)(q:Nat):List UInt8:=(l.take q).flatMap Sm.bytes4
theorem bytes4_length (x:UInt32):(Sm.bytes4 x).length = 4:=by simp [Sm.bytes4]
theorem wbytes_more (l:List UInt32)(q:Nat)(h:q < l.length):wbytes l (q + 1) = wbytes l q ++ Sm.bytes4 (l.getD q 0):=by
 rw [wbytes,wbytes,List.take_succ_eq_append_getElem h,List.flatMap_append]
 congr 1
 simp [List.getD_eq_getElem?_getD,h]
theorem wbytes_length (l:List UInt32):∀ q,q≤l.length→(wbytes l q).length = 4 * q
 | 0,_=>by simp [wbytes]
 | q + 1,h=>by
  rw [wbytes_more l q (by omega),List.length_append,wbytes_length l q (by omega),bytes4_length]
  omega
theorem ofNat_byte (x:Nat):((x:Int) % 256) = (((UInt8.ofNat x).toNat:Nat):Int):=by rw [UInt8.toNat_ofNat']; rfl
def laid (blk:List UInt8)(o:Nat)(x:List UInt8):List UInt8:=blk.take o ++ x ++ blk.drop (o + x.length)
def strLen:Value→Nat
 | .string s=>s.size
 | _=>0
end Go.Proofs.Ytlpabcnhcbgfjaa
