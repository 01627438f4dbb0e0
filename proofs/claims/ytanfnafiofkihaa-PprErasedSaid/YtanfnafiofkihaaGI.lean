/-
 MacMath; MacFour; MacPad; MacUnder; MacCode; MacDerive; MacStream: several texts in one.
-/
import Derived.Test.YtanfnafiofkihaaGC
import Derived.Laws.IdiomStrings
import Derived.Deep.MidRow
import Derived.Deep.Cut
import Derived.Deep.DeepCutAuto
import Derived.Laws.BitsAllLaws
import Derived.Test.YtanfnafiofkihaaGA
import Derived.Laws.MakeOwn
import Derived.Laws.OwnMore
import Derived.StillTailTactics
import Derived.Deep.RegionHeld3
set_option maxRecDepth 100000
namespace Go.Proofs.Ytanfnafiofkihaa
namespace Mc
def short (key:List UInt8):List UInt8:=if 64 < key.length then Sm.sum key else key
def filled (key:List UInt8):List UInt8:=short key ++ List.replicate (64 - (short key).length) 0
def put (x:UInt8)(l:List UInt8):List UInt8:=l.map λb=>b ^^^ x
def under (f text:List UInt8):List UInt8:=Sm.sum (put 92 f ++ Sm.sum (put 54 f ++ text))
def code (key text:List UInt8):List UInt8:=under (filled key) text
def four (n:Nat):List UInt8:=[UInt8.ofNat (n / 16777216),UInt8.ofNat (n / 65536),UInt8.ofNat (n / 256),UInt8.ofNat n]
def derive (key label context:List UInt8):List UInt8:=code key (four label.length ++ label ++ context)
def row (key:List UInt8):Nat->List UInt8
 | 0=>[]
 | k + 1=>row key k ++ code key (four k)
def stream (key:List UInt8)(n:Nat):List UInt8:=(row key ((n + 31) / 32)).take n
theorem put_length (x:UInt8)(l:List UInt8):(put x l).length = l.length:=by simp [put]
def jefe:List UInt8:=[74,101,102,101]
def nothing:List UInt8:=[119,104,97,116,32,100,111,32,121,97,32,119,97,110,116,32] ++ [102,111,114,32,110,111,116,104,105,110,103,63]
def said:List UInt8:=[53,98,100,99,99,49,52,54,98,102,54,48,55,53,52,101,54,97,48,52,50,52,50,54,48,56,57,53,55,53,99,55,53,97,48,48,51,102,48,56,57,100,50,55,51,57,56,51,57,100,101,99,53,56,98,57,54,52,101,99,51,56,52,51]
theorem awake:Sm.hex (code jefe nothing) = said:=by decide +kernel
end Mc
end Go.Proofs.Ytanfnafiofkihaa
namespace Go.Proofs.Ytanfnafiofkihaa
open Go.RowKit
theorem conv_at (w:World)(b o cap:Nat)(l:List UInt8)(h:∀ j (hj:j < l.length),w.cell? ⟨b,o + j,none⟩ = some (.int .u8 ((l[j]).toNat:Int))):
  (convert 45 9 (.slice (some ⟨b,o,none⟩) l.length cap)).run Try.prog w = .ok (.string (str l)) w:=
 run_convert_bytes_back (P:=Try.prog) w 45 9 5 ⟨b,o,none⟩ cap l Try.underlying45 Try.underlying5 Try.underlying9 (λj hj=>by rw [Addr.add_lit]; exact h j hj)
theorem conv_row (w:World)(b:Nat)(m:List UInt8)(t:TypeId)(fr:Nat × Nat)(hb:w.heap[b]? = some (.cells (bcells m).toArray t fr))(o cap:Nat)(l:List UInt8)(h:l = (m.drop o).take l.length):
  (convert 45 9 (.slice (some ⟨b,o,none⟩) l.length cap)).run Try.prog w = .ok (.string (str l)) w:=by
 refine conv_at w b o cap l λj hj=>?_
 have hm:m[o + j]? = some l[j]:=by
  have h1:l[j]? = some l[j]:=List.getElem?_eq_getElem hj;have h2:l[j]? = ((m.drop o).take l.length)[j]?:=congrArg (λx:List UInt8=>x[j]?) h
  rw [List.getElem?_take,if_pos hj,List.getElem?_drop] at h2;rw [<- h2,h1]
 have hlt:o + j < m.length:=by
  rcases Nat.lt_or_ge (o + j) m.length with h1 | h1
  ·exact h1
  ·rw [List.getElem?_eq_none h1] at hm; cases hm
 have hv:m[o + j] = l[j]:=by
  rw [List.getElem?_eq_getElem hlt] at hm;exact Option.some.inj hm
 simp [World.cell?,hb,bcells,hlt,hv]
def padRow (f:List UInt8)(i:Nat):List UInt8:=Mc.put 54 (f.take i) ++ f.drop i ++ (Mc.put 92 (f.take i) ++ f.drop i)
def padOf (f:List UInt8):List UInt8:=Mc.put 54 f ++ Mc.put 92 f
def over (m:List UInt8)(o:Nat):List UInt8->List UInt8
 | []=>m
 | c :: y=>over (m.set o c) (o + 1) y
def padNil:Array Value:=(bcells (List.replicate 128 0)).toArray
theorem conv_hash {w:World}{b:Nat}{l:List UInt8}(hl:l.length = 32){t:TypeId}{fr:Nat × Nat}(h:w.heap[b]? = some (.cells (bcells l).toArray t fr)):(convert 45 9 (.slice (some ⟨b,0,none⟩) 32 32)).run Try.prog w = .ok (.string (str l)) w:=by
 have:=conv_row w b l t fr h 0 32 l (by rw [List.drop_zero,List.take_length])
 rwa [hl] at this
end Go.Proofs.Ytanfnafiofkihaa
