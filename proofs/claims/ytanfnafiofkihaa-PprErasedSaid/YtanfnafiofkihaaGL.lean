/-
 PrimMath; PrimOne: several texts in one.
-/
import Derived.Test.YtanfnafiofkihaaGI
import Derived.Test.YtanfnafiofkihaaGK
import Derived.Test.YtanfnafiofkihaaGA
namespace Go.Proofs.Ytanfnafiofkihaa
namespace Pm
def wPub:List UInt8:=[112,117,98]
def wMark:List UInt8:=[109,97,114,107]
def wVer:List UInt8:=[118,101,114]
def wKem:List UInt8:=[107,101,109]
def wSign:List UInt8:=[115,105,103,110]
def wStream:List UInt8:=[115,116,114,101,97,109]
def wTag:List UInt8:=[116,97,103]
def pub (k:List UInt8):List UInt8:=Sm.sum (wPub ++ k)
def mark (p:List UInt8):List UInt8:=Sm.sum (wMark ++ p)
def ver (k:List UInt8):List UInt8:=Sm.sum (wVer ++ k)
def kem (p o:List UInt8):List UInt8:=Sm.sum (wKem ++ p ++ o)
def sign (v t:List UInt8):List UInt8:=Mc.code v (wSign ++ t)
def both (a b:List UInt8):List UInt8:=List.zipWith (λx y=>x ^^^ y) a b
def under (k:List UInt8):List UInt8:=Mc.derive k wStream []
def cross (k s:List UInt8):List UInt8:=both s (Mc.stream (under k) s.length)
def tagKey (k:List UInt8):List UInt8:=Mc.derive k wTag []
def tag (k about c:List UInt8):List UInt8:=(Mc.derive (tagKey k) about c).take 16
def sealed (k about s:List UInt8):List UInt8:=cross k s ++ tag k about (cross k s)
def body (s:List UInt8):List UInt8:=s.take (s.length - 16)
def rest (s:List UInt8):List UInt8:=s.drop (s.length - 16)
def opened (k about s:List UInt8):List UInt8 × Nat:=
 if s.length < 16 then ([],2) else if 65552 < s.length then ([],5) else if tag k about (body s) = rest s then (cross k (body s),0) else ([],6)
def wrapped (p o about s:List UInt8):List UInt8:=o ++ sealed (kem p o) about s
def unwrapped (k about s:List UInt8):List UInt8 × Nat:=
 if s.length < 48 then ([],2) else opened (kem (pub k) (s.take 32)) about (s.drop 32)
end Pm
end Go.Proofs.Ytanfnafiofkihaa
namespace Go.Proofs.Ytanfnafiofkihaa
open Go.RowKit
open Go.Lib (hid)
theorem sum_two (a b:ByteArray)(w:World)(ha:a.size < 268435456)(hb:b.size < 268435456):Calls Try.prog 43 #[.slice (some ⟨w.heap.size,0,none⟩) 2 2] (w.alloc (.cells #[.string a,.string b] 9)) λe w'=>e = .returned (.agg (bcells (Sm.sum (a.data.toList ++ b.data.toList))).toArray)/\Kept (w.heap.size + 1) (w.heap.size + 1) (w.alloc (.cells #[.string a,.string b] 9)) w':=by
 have hj:joined [a,b] [a,b].length = a.data.toList ++ b.data.toList:=by simp [joined]
 have ea:a.data.toList.length = a.size:=by simp
 have eb:b.data.toList.length = b.size:=by simp
 have:=sum_calls [a,b] (some ⟨w.heap.size,0,none⟩) 2 w.heap.size 0 (w.alloc (.cells #[.string a,.string b] 9)) (hid (by show 2 < _; decide)) (hid (by rw [hj,List.length_append,ea,eb]; omega)) (λj hj=>by
  refine⟨rfl,by simp,?_⟩
  have hj':j = 0\/j = 1:=by simp at hj; omega
  rcases hj' with rfl | rfl
  ·exact World.cell?_alloc_new w _ _ 0
  ·exact World.cell?_alloc_new w _ _ 1)
 rw [hj] at this;have hsz:(w.alloc (.cells #[.string a,.string b] 9)).heap.size = w.heap.size + 1:=by simp
 rw [hsz] at this;exact this
end Go.Proofs.Ytanfnafiofkihaa
