/-
 WireMath; WireMem; WireWriter; WireNum; WireText; WireTake; WireRNum; WireRText; WireRHash; WireRef: several texts in one.
-/
import Derived.Test.YtanfnafiofkihaaGA
import Derived.Test.YtanfnafiofkihaaProg
import Derived.WalkSpells
import Derived.Outline
import Derived.Laws.BytesArg
import Derived.Lib.Hide
import Derived.Laws.CopyOwn
namespace Go.Proofs.Ytanfnafiofkihaa.Wm
def be (m:Nat):Nat->List UInt8
 | 0=>[]
 | k + 1=>UInt8.ofNat (m / 256 ^ k) :: be m k
def enc (n:Nat):List UInt8:=
 if n < 64 then be n 1 else if n < 16384 then be (16384 + n) 2 else if n < 1073741824 then be (2147483648 + n) 4 else be (13835058055282163712 + n) 8
def valOf (acc:Nat)(l:List UInt8):Nat:=l.foldl (λn b=>n * 256 + b.toNat) acc
def bnd:Nat->Nat
 | 0=>63
 | 1=>16383
 | 2=>1073741823
 | _=>4611686018427387903
def more (f:UInt8):Nat:=2 ^ (f.toNat / 64) - 1
def nval (f:UInt8)(t:List UInt8):Nat:=valOf (f.toNat % 64) (t.take (more f))
def least (f:UInt8)(t:List UInt8):Bool:=decide (f.toNat / 64 = 0\/bnd (f.toNat / 64 - 1) < nval f t)
structure Got (α:Type) where
 val:α
 left:List UInt8
 err:Int
def rNum (l:List UInt8)(most:Int):Got Int:=
 match l with
 | []=>⟨0,[],2⟩
 | f :: t=>if t.length < more f then ⟨0,[],2⟩ else if least f t = false then ⟨0,[],3⟩ else if most < nval f t then ⟨0,[],5⟩ else ⟨nval f t,t.drop (more f),0⟩
def rRaw (l:List UInt8)(n:Nat):Got (List UInt8):=if l.length < n then ⟨[],[],2⟩ else ⟨l.take n,l.drop n,0⟩
def rText (l:List UInt8)(most:Int):Got (List UInt8):=
 if (rNum l (min most 65536)).err = 0 then rRaw (rNum l (min most 65536)).left (rNum l (min most 65536)).val.toNat else ⟨[],[],(rNum l (min most 65536)).err⟩
def rFlag (l:List UInt8):Got Bool:=
 match l with
 | []=>⟨false,[],2⟩
 | f :: t=>if 1 < f.toNat then ⟨false,[],3⟩ else ⟨f.toNat == 1,t,0⟩
end Go.Proofs.Ytanfnafiofkihaa.Wm
namespace Go.Proofs.Ytanfnafiofkihaa
open Go.RowKit
structure Tab (w:World):Prop where
 c0:w.cell? ⟨0,0,none⟩ = some (.int .i64 63)
 c1:w.cell? ⟨0,1,none⟩ = some (.int .i64 16383)
 c2:w.cell? ⟨0,2,none⟩ = some (.int .i64 1073741823)
 c3:w.cell? ⟨0,3,none⟩ = some (.int .i64 4611686018427387903)
theorem Tab.lt {w:World}(h:Tab w):0 < w.heap.size:=World.block_lt_of_cell? _ _ h.c0
theorem Tab.same {w w':World}(h:Tab w)(e:w'.heap[0]? = w.heap[0]?):Tab w':=
 ⟨(World.cell?_of_block (w:=w) e).trans h.c0,(World.cell?_of_block (w:=w) e).trans h.c1,(World.cell?_of_block (w:=w) e).trans h.c2,(World.cell?_of_block (w:=w) e).trans h.c3⟩
theorem Tab.kept {base b:Nat}{w w':World}(h:Tab w)(k:Kept base b w w')(h1:0 < base)(h2:0 < b):Tab w':=h.same (k.block 0 h1 (by omega))
theorem Tab.at {w:World}(h:Tab w)(k:Nat)(hk:k < 4):w.cell? ⟨0,k,none⟩ = some (.int .i64 (Wm.bnd k)):=by
 match k,hk with
 | 0,_=>exact h.c0
 | 1,_=>exact h.c1
 | 2,_=>exact h.c2
 | 3,_=>exact h.c3
def pNum (st:Option (List UInt8))(n:Int):Option (List UInt8):=if 0<=n/\n<=4611686018427387903 then st.map (· ++ Wm.enc n.toNat) else none
def pText (st:Option (List UInt8))(s:List UInt8):Option (List UInt8):=if s.length<=65536 then st.map (· ++ (Wm.enc s.length ++ s)) else none
def pRaw (st:Option (List UInt8))(s:List UInt8):Option (List UInt8):=st.map (· ++ s)
def Short (st:Option (List UInt8))(n:Nat):Prop:=∀ l,st = some l->l.length<=n
theorem Tab.drew {w:World}(h:Tab w):Tab w.drew:=h.same rfl
def Shows (w:World)(b:Nat)(ao:Option Addr)(l:List UInt8):Prop:=0 < l.length->∃ g o,ao = some ⟨g,o,none⟩/\g≠b/\g < w.heap.size/\∀ j (hj:j < l.length),w.cell? ⟨g,o + j,none⟩ = some (.int .u8 (l[j]).toNat)
end Go.Proofs.Ytanfnafiofkihaa
namespace Go.Proofs.Ytanfnafiofkihaa
open Go.RowKit
end Go.Proofs.Ytanfnafiofkihaa
namespace Go.Proofs.Ytanfnafiofkihaa
open Go.RowKit
end Go.Proofs.Ytanfnafiofkihaa
namespace Go.Proofs.Ytanfnafiofkihaa
open Go.RowKit
end Go.Proofs.Ytanfnafiofkihaa
namespace Go.Proofs.Ytanfnafiofkihaa
open Go.RowKit
def Failed (w:World)(p:Value)(e:Int):Prop:=e≠0/\((p = .pointer none/\e = 1)\/∃ b,p = .pointer (some ⟨b,0,none⟩)/\w.cell? ⟨b,1,none⟩ = some (.int .i64 e))
def TakeRaw (w:World)(b:Nat)(ao:Option Addr)(len c n:Nat)(e:Ending)(w':World):Prop:=
 e = .returned (.tuple #[.slice ao n c,.bool true])/\∃ a',(n < c->a' = ao.map (·.add n))/\w.setCell ⟨b,0,none⟩ (.slice a' (len - n) (c - n)) = w'
end Go.Proofs.Ytanfnafiofkihaa
namespace Go.Proofs.Ytanfnafiofkihaa
open Go.RowKit
theorem Kept.step {b:Nat}{w w1 w2:World}(h:Kept w.heap.size b w w1)(k:Kept w1.heap.size b w1 w2):Kept w.heap.size b w w2:=h.trans (k.mono h.size (λ_ _ h=>h))
end Go.Proofs.Ytanfnafiofkihaa
namespace Go.Proofs.Ytanfnafiofkihaa
open Go.RowKit
end Go.Proofs.Ytanfnafiofkihaa
namespace Go.Proofs.Ytanfnafiofkihaa
open Go.RowKit
end Go.Proofs.Ytanfnafiofkihaa
namespace Go.Proofs.Ytanfnafiofkihaa
open Go.RowKit
end Go.Proofs.Ytanfnafiofkihaa
