/-
 PrimBook; PrimSealB; PrimWrapB; PrimActs; PrimLearnMath: several texts in one.
-/
import Derived.Test.YtanfnafiofkihaaGM
import Derived.Test.YtanfnafiofkihaaGH
import Derived.Test.YtanfnafiofkihaaGN
import Derived.Test.YtanfnafiofkihaaGD
namespace Go.Proofs.Ytanfnafiofkihaa
open Go.RowKit Go.Lib
open List renaming setIfInBounds_toArray -> sA, set_cons_zero -> sB, set_cons_succ -> sC
open BigFrame renaming wpList_want -> wQ
abbrev Facts:=List (List (List UInt8) × List (List UInt8))
def InBk (w:World)(base bb:Nat)(fs:Facts)(n:Nat)(X:Nat->Prop):Prop:=∃ n',n'<=n/\∃ S,S.X = X/\Bok w base bb fs n' (λ_=>none) S
def InBook (w:World)(base bb:Nat)(fs:Facts)(n:Nat):Prop:=∃ n',n'<=n/\∃ S,Bok w base bb fs n' (λ_=>none) S
theorem InBk.kept {w w':World}{base bb n:Nat}{fs:Facts}{X:Nat->Prop}(h:InBk w base bb fs n X)(k:Kept w.heap.size w.heap.size w w'):InBk w' base bb fs n X:=by
 obtain⟨n',h1,S,h2,h3⟩:=h;exact⟨n',h1,S,h2,h3.kept k⟩
theorem InBook.kept {w w':World}{base bb n:Nat}{fs:Facts}(h:InBook w base bb fs n)(k:Kept w.heap.size w.heap.size w w'):InBook w' base bb fs n:=by
 obtain⟨n',h1,S,h3⟩:=h;exact⟨n',h1,S,h3.kept k⟩
theorem InBook.more {w:World}{base bb n m:Nat}{fs:Facts}(h:InBook w base bb fs n)(hm:n<=m):InBook w base bb fs m:=by
 obtain⟨n',h1,h3⟩:=h;exact⟨n',Nat.le_trans h1 hm,h3⟩
theorem InBook.apart {w:World}{base bb n:Nat}{fs:Facts}(h:InBook w base bb fs n)(X:Nat->Prop)(hX:∀ k,X k->w.heap.size<=k):InBk w base bb fs n X:=by
 obtain⟨n',h1,S,h3⟩:=h;exact⟨n',h1,_,rfl,h3.fresh X hX⟩
theorem InBk.book {w:World}{base bb n:Nat}{fs:Facts}{X:Nat->Prop}(h:InBk w base bb fs n X):InBook w base bb fs n:=by
 obtain⟨n',h1,S,_,h3⟩:=h;exact⟨n',h1,S,h3⟩
theorem InBk.put {w:World}{base bb n:Nat}{fs:Facts}{X:Nat->Prop}(h:InBk w base bb fs n X)(g:Nat)(hg:X g)(old cs:Array Value)(fr:Nat × Nat)(hold:w.heap[g]? = some (.cells old 26 fr)):InBk (w.setRow g cs) base bb fs n X:=by
 obtain⟨n',h1,S,h2,h3⟩:=h;exact⟨n',h1,S,h2,h3.put g (by rw [h2]; exact hg) old cs fr hold⟩
theorem BkFr.row {base:Nat}{w w':World}(h:BkFr base w w'){g:Nat}{cs:Array Value}{fr:Nat × Nat}(r:w.heap[g]? = some (.cells cs 26 fr)):w'.heap[g]? = some (.cells cs 26 fr):=h.oth _ _ _ _ r (by decide) (by decide) (by decide)
theorem BkFr.put {base:Nat}{w w':World}(h:BkFr base w w')(hb:base<=w.heap.size)(g:Nat)(hg:w.heap.size<=g)(cs:Array Value):BkFr base w (w'.setRow g cs):=
 ⟨Kept.ofBelow (below_setRow (h.kept.below (Nat.le_refl _) (Nat.le_refl _)) (Nat.le_trans hb hg) cs) (Nat.le_refl _),λk xs t fr r h1 h2 h3=>by
  rw [setRow_other w' g k cs (λe=>by have:=lt_of_block r; omega)]
  exact h.oth k xs t fr r h1 h2 h3⟩
def Mild (fs:Facts)(n:Nat):Prop:=n < 1000000/\fs.length < 1000000/\∀ f∈fs,f.1.length < 1000000/\f.2.length < 1000000
def MildK (c:Nat)(fs:Facts)(n:Nat):Prop:=n + c < 1000000/\fs.length + c < 1000000/\∀ f∈fs,f.1.length < 1000000/\f.2.length < 1000000
theorem MildK.mild {c:Nat}{fs:Facts}{n:Nat}(h:MildK c fs n):Mild fs n:=⟨by have:=h.1; omega,by have:=h.2.1; omega,h.2.2⟩
theorem MildK.more {c:Nat}{fs:Facts}{n:Nat}(h:MildK (c + 3) fs n)(f:List (List UInt8) × List (List UInt8))(h1:f.1.length < 1000000)(h2:f.2.length < 1000000):MildK c (Bk.note fs f) (n + 3):=
 ⟨by have:=h.1; omega,by have:=h.2.1; have:=bknote_length fs f; omega,λg hg=>by
  rcases bknote_mem fs f g hg with h3 | rfl
  ·exact h.2.2 g h3
  ·exact⟨h1,h2⟩⟩
theorem BkFr.base {base:Nat}{w w':World}(h:BkFr base w w')(hb:base<=w.heap.size):base<=w'.heap.size:=Nat.le_trans hb h.kept.size
def WrapRows (w:World)(wa wm:Nat)(ac kc cu:Array Value):Prop:=w.heap[wa]? = some (.cells ac 26 (0,0))/\w.heap[wa + 1]? = some (.cells kc 26 (0,0))/\w.heap[wm]? = some (.cells cu 26 (0,0))
theorem WrapRows.fr {base:Nat}{w w':World}{wa wm:Nat}{ac kc cu:Array Value}(h:WrapRows w wa wm ac kc cu)(f:BkFr base w w'):WrapRows w' wa wm ac kc cu:=⟨f.row h.1,f.row h.2.1,f.row h.2.2⟩
theorem WrapRows.kept {w w':World}{wa wm:Nat}{ac kc cu:Array Value}(h:WrapRows w wa wm ac kc cu)(k:Kept w.heap.size w.heap.size w w'):WrapRows w' wa wm ac kc cu:=h.fr (BkFr.ofKept (Nat.le_refl _) k)
end Go.Proofs.Ytanfnafiofkihaa
namespace Go.Proofs.Ytanfnafiofkihaa
open Go.ChangeShapes Go.WideShapes Go.ChangeAt Go.RowKit Go.Deep
structure Ac where
 kind:Int
 a:List UInt8
 b:List UInt8
 text:ByteArray
 secs:List (List UInt8)
instance:Inhabited Ac:=⟨⟨0,[],[],⟨#[]⟩,[]⟩⟩
def As (w:World)(v:Value)(L:List Ac):Prop:=
 (∀ x∈L,x.a.length = 32/\x.b.length = 32/\x.text.size<=maxLen)/\∃ ad g o c,v = .slice ad L.length c/\∀ i (hi:i < L.length),ad = some ⟨g,o,none⟩/\g < w.heap.size/\w.cell? ⟨g,o + i * 67,none⟩ = some (.int .u8 L[i].kind)/\w.rangeAt g (o + i * 67 + 1) (bcells L[i].a)/\w.rangeAt g (o + i * 67 + 33) (bcells L[i].b)/\w.cell? ⟨g,o + i * 67 + 65,none⟩ = some (.string L[i].text)/\∃ sv,w.cell? ⟨g,o + i * 67 + 66,none⟩ = some sv/\Hs w sv L[i].secs/\Whole sv
theorem As.kept {w w':World}{v:Value}{L:List Ac}(h:As w v L)(k:Kept w.heap.size w.heap.size w w'):As w' v L:=by
 obtain⟨h0,ad,g,o,c,rfl,h1⟩:=h;refine⟨h0,ad,g,o,c,rfl,λi hi=>?_⟩
 obtain⟨e,hg,h2,h3,h4,h5,sv,h6,h7,h8⟩:=h1 i hi;have hne:=Nat.ne_of_lt hg;exact⟨e,Nat.lt_of_lt_of_le hg k.size,(k.cell (p:=⟨g,o + i * 67,none⟩) hg hne).trans h2,rangeAt_kept k h3 hg hne,rangeAt_kept k h4 hg hne,(k.cell (p:=⟨g,o + i * 67 + 65,none⟩) hg hne).trans h5,sv,(k.cell (p:=⟨g,o + i * 67 + 66,none⟩) hg hne).trans h6,h7.kept k,h8⟩
section
variable {H:Type} {enc:TypeId × Value->H} {P:Program} {w:World} {base:Nat} {spare:Nat->Bool} {held:Bool}
end
end Go.Proofs.Ytanfnafiofkihaa
namespace Go.Proofs.Ytanfnafiofkihaa
namespace Pm
def wnote (p:List UInt8)(fs:Facts)(x:Ac):Facts:=Bk.note (Bk.note (Bk.note fs ([mark p],[kem p x.b])) ([x.b],[kem p x.b])) ([kem p x.b],x.secs)
def wnotes (p:List UInt8)(fs:Facts)(L:List Ac):Facts:=L.foldl (wnote p) fs
end Pm
end Go.Proofs.Ytanfnafiofkihaa
