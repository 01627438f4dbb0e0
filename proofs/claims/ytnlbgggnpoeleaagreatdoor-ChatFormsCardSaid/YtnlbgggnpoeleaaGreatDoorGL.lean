/-
 PrimMath; PrimOne: several texts in one.
-/
import Derived.Test.YtnlbgggnpoeleaaGreatDoorGK
namespace Go.Proofs.YtnlbgggnpoeleaaGreatDoor
namespace Pm
def wPub:List UInt8:=[112,117,98]
def wMark:List UInt8:=[109,97,114,107]
def wVer:List UInt8:=[118,101,114]
def wKem:List UInt8:=[107,101,109]
def wSign:List UInt8:=[115,105,103,110]
def wStream:List UInt8:=[115,116,114,101,97,109]
def wTag:List UInt8:=[116,97,103]
def pub (k:List UInt8):List UInt8:=Sm.sum (wPub++k)
def mark (p:List UInt8):List UInt8:=Sm.sum (wMark++p)
def ver (k:List UInt8):List UInt8:=Sm.sum (wVer++k)
def kem (p o:List UInt8):List UInt8:=Sm.sum (wKem++p++o)
def sign (v t:List UInt8):List UInt8:=Mc.code v (wSign++t)
def both (a b:List UInt8):List UInt8:=List.zipWith (λx y=>x ^^^ y) a b
def under (k:List UInt8):List UInt8:=Mc.derive k wStream []
def cross (k s:List UInt8):List UInt8:=both s (Mc.stream (under k) s.length)
def tagKey (k:List UInt8):List UInt8:=Mc.derive k wTag []
def tag (k about c:List UInt8):List UInt8:=(Mc.derive (tagKey k) about c).take 16
def sealed (k about s:List UInt8):List UInt8:=cross k s++tag k about (cross k s)
def body (s:List UInt8):List UInt8:=s.take (s.length-16)
def rest (s:List UInt8):List UInt8:=s.drop (s.length-16)
def opened (k about s:List UInt8):List UInt8 × Nat:=
 if s.length<16 then([],2) else if 65552<s.length then([],5) else if tag k about (body s)=rest s then(cross k (body s),0) else([],6)
def wrapped (p o about s:List UInt8):List UInt8:=o++sealed (kem p o) about s
def unwrapped (k about s:List UInt8):List UInt8 × Nat:=
 if s.length<48 then([],2) else opened (kem (pub k) (s.take 32)) about (s.drop 32)
theorem under_length (k:List UInt8):(under k).length=32:=Mc.derive_length _ _ _
theorem tagKey_length (k:List UInt8):(tagKey k).length=32:=Mc.derive_length _ _ _
theorem both_length (a b:List UInt8)(h:a.length=b.length):(both a b).length=a.length:=by
 rw[both,List.length_zipWith,h,Nat.min_self]
theorem Qn4:∀ a b:List UInt8,a.length=b.length->both (both a b) b=a
 | [],[],_=>rfl
 | x::a,y::b,h=>by
  have ih:=Qn4 a b (by simpa using h)
  show(x ^^^ y ^^^ y)::both (both a b) b=x::a;rw[ih,UInt8.xor_assoc,UInt8.xor_self,UInt8.xor_zero]
theorem cross_length (k s:List UInt8):(cross k s).length=s.length:=both_length _ _ (Mc.stream_length _ _).symm
theorem Qpw (k s:List UInt8):cross k (cross k s)=s:=by
 have h:(cross k s).length=s.length:=cross_length k s;rw[cross,h];exact Qn4 _ _ (Mc.stream_length _ _).symm
theorem tag_length (k about c:List UInt8):(tag k about c).length=16:=by
 rw[tag,List.length_take,Mc.derive_length]
 rfl
theorem sealed_length (k about s:List UInt8):(sealed k about s).length=s.length+16:=by
 rw[sealed,zE,cross_length,tag_length]
theorem Qve (s:List UInt8):body s++rest s=s:=List.take_append_drop _ _
theorem Qj1 (k about s:List UInt8):body (sealed k about s)=cross k s:=by
 rw[body,sealed_length,Nat.add_sub_cancel,sealed,List.take_append_of_le_length (by rw[cross_length];exact zB _)]
 exact List.take_of_length_le (by rw[cross_length];exact zB _)
theorem Qor (k about s:List UInt8):rest (sealed k about s)=tag k about (cross k s):=by
 have h:=Qve (sealed k about s);rw[Qj1,sealed] at h;exact List.append_cancel_left h
theorem opened_sealed (k about s:List UInt8)(h:s.length<=65536):opened k about (sealed k about s)=(s,0):=by
 have hl:=sealed_length k about s;rw[opened,if_neg (by omega),if_neg (by omega),Qj1,Qor,zG rfl,Qpw]
end Pm
open Go.RowKit
open Go.Lib (hid)
theorem Qoi (a b:ByteArray)(w:World)(ha:a.size<268435456)(hb:b.size<268435456):Calls Tryz.prog 134 #[.slice (some ⟨w.heap.size,0,none⟩) 2 2] (w.alloc (.cells #[.string a,.string b] 9)) λe w'=>e=.returned (.agg (bY (Sm.sum (a.data.toList++b.data.toList))).toArray)/\Kept (w.heap.size+1) (w.heap.size+1) (w.alloc (.cells #[.string a,.string b] 9)) w':=by
 have hj:joined [a,b] [a,b].length=a.data.toList++b.data.toList:=by simp[joined]
 have ea:a.data.toList.length=a.size:=by simp
 have eb:b.data.toList.length=b.size:=by simp
 have:=Qgc [a,b] (some ⟨w.heap.size,0,none⟩) 2 w.heap.size 0 (w.alloc (.cells #[.string a,.string b] 9)) (hid (by show 2<_;decide)) (hid (by rw[hj,zE,ea,eb];omega)) (λj hj=>by
  refine⟨rfl,by simp,?_⟩
  have hj':j=0\/j=1:=by simp at hj;omega
  rcases hj' with rfl|rfl
  ·exact World.cell?_alloc_new w _ _ 0
  ·exact World.cell?_alloc_new w _ _ 1)
 rw[hj] at this;have hsz:(w.alloc (.cells #[.string a,.string b] 9)).heap.size=w.heap.size+1:=by simp
 rw[hsz] at this;exact this
end Go.Proofs.YtnlbgggnpoeleaaGreatDoor
