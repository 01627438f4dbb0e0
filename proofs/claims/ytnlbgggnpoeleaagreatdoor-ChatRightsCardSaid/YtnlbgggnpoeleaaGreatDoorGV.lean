/-
 WireMath; WireMem; WireWriter; WireNum; WireText; WireTake; WireRNum; WireRText; WireRHash; WireRef: several texts in one.
-/
import Derived.Test.YtnlbgggnpoeleaaGreatDoorGA
import Derived.Test.YtnlbgggnpoeleaaGreatDoorProg
import Derived.WalkSpells
import Derived.Outline
import Derived.Laws.BytesArg
import Derived.Lib.Hide
import Derived.Laws.CopyOwn
set_option maxRecDepth 100000
namespace Go.Proofs.YtnlbgggnpoeleaaGreatDoor.Wm
def be (m:Nat):Nat->List UInt8
 | 0=>[]
 | k + 1=>UInt8.ofNat (m / 256 ^ k) :: be m k
theorem be_length (m:Nat):∀ k,(be m k).length = k
 | 0=>rfl
 | k + 1=>by rw [be,List.length_cons,be_length m k]
def enc (n:Nat):List UInt8:=
 if n < 64 then be n 1 else if n < 16384 then be (16384 + n) 2 else if n < 1073741824 then be (2147483648 + n) 4 else be (13835058055282163712 + n) 8
theorem enc_length_le (n:Nat):(enc n).length<=8:=by
 unfold enc
 split
 ·rw [be_length]; omega
 ·split
  ·rw [be_length]; omega
  ·split
   ·rw [be_length]; omega
   ·rw [be_length]; omega
def valOf (acc:Nat)(l:List UInt8):Nat:=l.foldl (λn b=>n * 256 + b.toNat) acc
def bnd:Nat->Nat
 | 0=>63
 | 1=>16383
 | 2=>1073741823
 | _=>4611686018427387903
def more (f:UInt8):Nat:=2 ^ (f.toNat / 64) - 1
def nval (f:UInt8)(t:List UInt8):Nat:=valOf (f.toNat % 64) (t.take (more f))
def least (f:UInt8)(t:List UInt8):Bool:=decide (f.toNat / 64 = 0\/bnd (f.toNat / 64 - 1) < nval f t)
structure Got (α:Type) where
 val:α
 left:List UInt8
 err:Int
def rNum (l:List UInt8)(most:Int):Got Int:=
 match l with
 | []=>⟨0,[],2⟩
 | f :: t=>if t.length < more f then ⟨0,[],2⟩ else if least f t = false then ⟨0,[],3⟩ else if most < nval f t then ⟨0,[],5⟩ else ⟨nval f t,t.drop (more f),0⟩
def rRaw (l:List UInt8)(n:Nat):Got (List UInt8):=if l.length < n then ⟨[],[],2⟩ else ⟨l.take n,l.drop n,0⟩
def rText (l:List UInt8)(most:Int):Got (List UInt8):=
 if (rNum l (min most 65536)).err = 0 then rRaw (rNum l (min most 65536)).left (rNum l (min most 65536)).val.toNat else ⟨[],[],(rNum l (min most 65536)).err⟩
def rFlag (l:List UInt8):Got Bool:=
 match l with
 | []=>⟨false,[],2⟩
 | f :: t=>if 1 < f.toNat then ⟨false,[],3⟩ else ⟨f.toNat == 1,t,0⟩
end Go.Proofs.YtnlbgggnpoeleaaGreatDoor.Wm
namespace Go.Proofs.YtnlbgggnpoeleaaGreatDoor
open Go.RowKit
structure Tab (w:World):Prop where
 c0:w.cell? ⟨0,0,none⟩ = some (.int .i64 63)
 c1:w.cell? ⟨0,1,none⟩ = some (.int .i64 16383)
 c2:w.cell? ⟨0,2,none⟩ = some (.int .i64 1073741823)
 c3:w.cell? ⟨0,3,none⟩ = some (.int .i64 4611686018427387903)
theorem Tab.lt {w:World}(h:Tab w):0 < w.heap.size:=World.block_lt_of_cell? _ _ h.c0
theorem Tab.same {w w':World}(h:Tab w)(e:w'.heap[0]? = w.heap[0]?):Tab w':=
 ⟨(World.cell?_of_block (w:=w) e).trans h.c0,(World.cell?_of_block (w:=w) e).trans h.c1,(World.cell?_of_block (w:=w) e).trans h.c2,(World.cell?_of_block (w:=w) e).trans h.c3⟩
theorem Tab.kept {base b:Nat}{w w':World}(h:Tab w)(k:Kept base b w w')(h1:0 < base)(h2:0 < b):Tab w':=h.same (k.block 0 h1 (by omega))
theorem Tab.at {w:World}(h:Tab w)(k:Nat)(hk:k < 4):w.cell? ⟨0,k,none⟩ = some (.int .i64 (Wm.bnd k)):=by
 match k,hk with
 | 0,_=>exact h.c0
 | 1,_=>exact h.c1
 | 2,_=>exact h.c2
 | 3,_=>exact h.c3
structure WrOk (w:World) (base b:Nat) (l:List UInt8):Prop where
 lt:b < base
 le:base<=w.heap.size
 ex:∃ a n c,w.heap[b]? = some (.cells #[.slice a n c,.bool false] 115 (0,0))/\w.ownsRow base 5 1 (.slice a n c) l.length (bcells l)
structure WrBad (w:World) (base b:Nat):Prop where
 lt:b < base
 le:base<=w.heap.size
 ex:∃ a n c,w.heap[b]? = some (.cells #[.slice a n c,.bool true] 115 (0,0))
def Wr (w:World)(base b:Nat):Option (List UInt8)->Prop
 | some l=>WrOk w base b l
 | none=>WrBad w base b
theorem Wr.lt {w:World}{base b:Nat}{st:Option (List UInt8)}(h:Wr w base b st):b < base:=by
 cases st
 ·exact WrBad.lt h
 ·exact WrOk.lt h
theorem Wr.le {w:World}{base b:Nat}{st:Option (List UInt8)}(h:Wr w base b st):base<=w.heap.size:=by
 cases st
 ·exact WrBad.le h
 ·exact WrOk.le h
theorem Wr.same {w w':World}{base b:Nat}{st:Option (List UInt8)}(h:Wr w base b st)(hs:w.heap.size<=w'.heap.size)(hb:w'.heap[b]? = w.heap[b]?)(hr:∀ k,base<=k->k < w.heap.size->w'.heap[k]? = w.heap[k]?):Wr w' base b st:=by
 cases st with
 | none=>
  obtain⟨a,n,c,h1⟩:=WrBad.ex h;exact(⟨WrBad.lt h,Nat.le_trans (WrBad.le h) hs,a,n,c,hb.trans h1⟩:WrBad w' base b)
 | some l=>
  obtain⟨a,n,c,h1,h2⟩:=WrOk.ex h;refine(⟨WrOk.lt h,Nat.le_trans (WrOk.le h) hs,a,n,c,hb.trans h1,h2.1,?_⟩:WrOk w' base b l)
  rcases h2.2 with h3 | ⟨g,cap,cur,hv,hg,hh,rest⟩
  ·exact .inl h3
  ·exact .inr ⟨g,cap,cur,hv,hg,(hr g hg (lt_of_block hh)).trans hh,rest⟩
theorem Wr.kept {w w':World}{base b B r:Nat}{st:Option (List UInt8)}(h:Wr w base b st)(k:Kept B r w w')(hB:w.heap.size<=B)(hr:r < base)(hb:r≠b):Wr w' base b st:=
 h.same k.size (k.block b (by have:=h.lt; have:=h.le; omega) (λe=>hb e.symm)) (λi h1 h2=>k.block i (by omega) (by omega))
theorem Wr.drew {w:World}{base b:Nat}{st:Option (List UInt8)}(h:Wr w base b st):Wr w.drew base b st:=h.same (Nat.le_refl _) rfl (λ_ _ _=>rfl)
theorem Wr.alloc {w:World}{base b:Nat}{st:Option (List UInt8)}(h:Wr w base b st)(o:Obj):Wr (w.alloc o) base b st:=
 h.same (by simp) (Below.heap_alloc _ _ _ (by have:=h.lt; have:=h.le; omega)) (λk _ hk=>Below.heap_alloc _ _ _ hk)
def WrV (w:World)(base b:Nat)(p:Value)(st:Option (List UInt8)):Prop:=
 (p = .pointer none/\b = base/\base<=w.heap.size/\st = none)\/(p = .pointer (some ⟨b,0,none⟩)/\Wr w base b st)
theorem WrV.le {w:World}{base b:Nat}{p:Value}{st:Option (List UInt8)}(h:WrV w base b p st):base<=w.heap.size:=by
 rcases h with ⟨_,_,h,_⟩ | ⟨_,h⟩
 ·exact h
 ·exact h.le
theorem WrV.alloc {w:World}{base b:Nat}{p:Value}{st:Option (List UInt8)}(h:WrV w base b p st)(o:Obj):WrV (w.alloc o) base b p st:=by
 rcases h with ⟨h1,h2,h3,h4⟩ | ⟨h1,h⟩
 ·exact .inl ⟨h1,h2,by simp; omega,h4⟩
 ·exact .inr ⟨h1,h.alloc o⟩
theorem WrV.drew {w:World}{base b:Nat}{p:Value}{st:Option (List UInt8)}(h:WrV w base b p st):WrV w.drew base b p st:=by
 rcases h with ⟨h1,h2,h3,h4⟩ | ⟨h1,h⟩
 ·exact .inl ⟨h1,h2,h3,h4⟩
 ·exact .inr ⟨h1,h.drew⟩
def pNum (st:Option (List UInt8))(n:Int):Option (List UInt8):=if 0<=n/\n<=4611686018427387903 then st.map (· ++ Wm.enc n.toNat) else none
def pText (st:Option (List UInt8))(s:List UInt8):Option (List UInt8):=if s.length<=65536 then st.map (· ++ (Wm.enc s.length ++ s)) else none
def pRaw (st:Option (List UInt8))(s:List UInt8):Option (List UInt8):=st.map (· ++ s)
def Short (st:Option (List UInt8))(n:Nat):Prop:=∀ l,st = some l->l.length<=n
structure Rd (w:World) (top b:Nat) (l:List UInt8) (e:Int):Prop where
 lt:b < top
 le:top<=w.heap.size
 ex:∃ ao c,w.heap[b]? = some (.cells #[.slice ao l.length c,.int .i64 e] 108 (0,0))/\l.length<=c/\(0 < c->∃ g o,ao = some ⟨g,o,none⟩/\g≠b/\g < top/\∀ j (hj:j < l.length),w.cell? ⟨g,o + j,none⟩ = some (.int .u8 (l[j]).toNat))
 fail:e≠0->l = []
theorem Rd.same {w w':World}{top b:Nat}{l:List UInt8}{e:Int}(h:Rd w top b l e)(hs:w.heap.size<=w'.heap.size)(hb:∀ k,k < top->w'.heap[k]? = w.heap[k]?):Rd w' top b l e:=by
 obtain⟨ao,c,h1,h2,h3⟩:=h.ex;refine⟨h.lt,Nat.le_trans h.le hs,⟨ao,c,(hb b h.lt).trans h1,h2,λhc=>?_⟩,h.fail⟩
 obtain⟨g,o,ha,hg,hgt,hcell⟩:=h3 hc;exact⟨g,o,ha,hg,hgt,λj hj=>(World.cell?_of_block (w:=w) (hb g hgt)).trans (hcell j hj)⟩
theorem Rd.kept {w w':World}{top b base r:Nat}{l:List UInt8}{e:Int}(h:Rd w top b l e)(k:Kept base r w w')(hB:top<=base)(hr:top<=r):Rd w' top b l e:=
 h.same k.size (λi hi=>k.block i (by omega) (by omega))
theorem Rd.alloc {w:World}{top b:Nat}{l:List UInt8}{e:Int}(h:Rd w top b l e)(o:Obj):Rd (w.alloc o) top b l e:=
 h.same (by simp) (λk hk=>Below.heap_alloc _ _ _ (by have:=h.le; omega))
theorem Rd.drew {w:World}{top b:Nat}{l:List UInt8}{e:Int}(h:Rd w top b l e):Rd w.drew top b l e:=h.same (Nat.le_refl _) (λ_ _=>rfl)
theorem Tab.drew {w:World}(h:Tab w):Tab w.drew:=h.same rfl
def Shows (w:World)(b:Nat)(ao:Option Addr)(l:List UInt8):Prop:=0 < l.length->∃ g o,ao = some ⟨g,o,none⟩/\g≠b/\g < w.heap.size/\∀ j (hj:j < l.length),w.cell? ⟨g,o + j,none⟩ = some (.int .u8 (l[j]).toNat)
end Go.Proofs.YtnlbgggnpoeleaaGreatDoor
namespace Go.Proofs.YtnlbgggnpoeleaaGreatDoor
open Go.RowKit
theorem wireInfo5:(Tryz.prog.info? 5).map (λi=>(i.zero,i.size,i.bytes)) = some (some (.int .u8 0),1,1):=by kernel_rfl
theorem new_calls (w:World):Calls Tryz.prog 27 #[] w λe w'=>e = .returned (.pointer (some ⟨w.heap.size,0,none⟩))/\Wr w' (w.heap.size + 1) w.heap.size (some [])/\Kept w.heap.size w.heap.size w w'/\w'.heap.size = w.heap.size + 1:=by
 go_enter Tryz.func27,Tryz.ntmps27
 go_wp2;go_ret;refine⟨rfl,?_,(Kept.refl _ _ _).alloc (Nat.le_refl _) _,by simp⟩
 exact(⟨Nat.lt_succ_self _,by simp,none,0,0,heap_new _ _,World.ownsRow_nil _ _ _ _⟩:WrOk (w.alloc (.cells #[.slice none 0 0,.bool false] 115)) (w.heap.size + 1) w.heap.size [])
theorem spoil_nil (w:World):Calls Tryz.prog 59 #[.pointer none] w λe w'=>e = .returned (.tuple #[])/\w = w':=by
 go_enter Tryz.func59,Tryz.ntmps59
 go_wp2;refine bodyPost_ret (results_none rfl _ _ _) rfl ?_;exact⟨rfl,rfl⟩
theorem spoil_raw (b:Nat)(v:Value)(sp:Bool)(w:World)(h0:w.cell? ⟨b,0,none⟩ = some v)(h1:w.cell? ⟨b,1,none⟩ = some (.bool sp))(f0:w.frozen? ⟨b,0,none⟩ = false)(f1:w.frozen? ⟨b,1,none⟩ = false):
  Calls Tryz.prog 59 #[.pointer (some ⟨b,0,none⟩)] w λe w'=>e = .returned (.tuple #[])/\(w.setCell ⟨b,0,none⟩ (.slice none 0 0)).setCell ⟨b,1,none⟩ (.bool true) = w':=by
 go_enter Tryz.func59,Tryz.ntmps59
 go_wp2
 go_end0
 exact⟨rfl,rfl⟩
theorem spoil_calls (base b:Nat)(st:Option (List UInt8))(w:World)(h:Wr w base b st):
  Calls Tryz.prog 59 #[.pointer (some ⟨b,0,none⟩)] w λe w'=>e = .returned (.tuple #[])/\Wr w' base b none/\Kept base b w w'/\Fr b w w':=by
 have hex:∃ a n c sp,w.heap[b]? = some (.cells #[.slice a n c,.bool sp] 115 (0,0)):=by
  cases st with
  | none=>obtain⟨a,n,c,h1⟩:=WrBad.ex h; exact⟨a,n,c,true,h1⟩
  | some l=>obtain⟨a,n,c,h1,_⟩:=WrOk.ex h; exact⟨a,n,c,false,h1⟩
 obtain⟨a,n,c,sp,hb⟩:=hex;refine(spoil_raw b _ sp w (two_cell0 hb) (two_cell1 hb) (two_free hb 0) (two_free hb 1)).mono ?_;rintro e w' ⟨rfl,rfl⟩;refine⟨rfl,?_,((Kept.refl _ _ _).set (.inl rfl) 0 _).set (.inl rfl) 1 _,((Fr.refl _ _).set 0 _).set 1 _⟩;exact(⟨h.lt,by have:=h.le; simpa [World.setCell] using this,none,0,0,two_set1 (two_set0 hb)⟩:WrBad _ _ _)
theorem put_nil (w:World)(v:Value):Calls Tryz.prog 61 #[.pointer none,v] w λe w'=>e = .returned (.tuple #[])/\w = w':=by
 go_enter Tryz.func61,Tryz.ntmps61
 go_wp2;refine bodyPost_ret (results_none rfl _ _ _) rfl ?_;exact⟨rfl,rfl⟩
theorem put_spoilt (b:Nat)(v:Value)(w:World)(h1:w.cell? ⟨b,1,none⟩ = some (.bool true)):
  Calls Tryz.prog 61 #[.pointer (some ⟨b,0,none⟩),v] w λe w'=>e = .returned (.tuple #[])/\w = w':=by
 go_enter Tryz.func61,Tryz.ntmps61
 go_wp2;refine bodyPost_ret (results_none rfl _ _ _) rfl ?_;exact⟨rfl,rfl⟩
theorem put_raw (base b:Nat)(a0:Option Addr)(n0 c0:Nat)(n:Nat)(xs:List Value)(ad:Addr)(m c:Nat)(news:List Value)(w:World)(h0:w.cell? ⟨b,0,none⟩ = some (.slice a0 n0 c0))(h1:w.cell? ⟨b,1,none⟩ = some (.bool false))
  (f0:w.frozen? ⟨b,0,none⟩ = false) (hown:w.ownsRow base 5 1 (.slice a0 n0 c0) n xs) (hb:some b≠Value.ownBlock (.slice a0 n0 c0)) (hl:news.length = m * 1) (hnews:∀ j u,news[j]? = some u->w.cell? (ad.add j) = some u) (hone:∀ u∈news,u.oneCell' = true)
  (hlen:n + m<=1000000000) (hbase:base<=w.heap.size) :
  Calls Tryz.prog 61 #[.pointer (some ⟨b,0,none⟩),.slice (some ad) m c] w λe w'=>e = .returned (.tuple #[]) /\
   ∃ a1 n1 c1 w1,w1.ownsRow base 5 1 (.slice a1 n1 c1) (n + m) (xs ++ news)/\w.grownBy w1 (Value.ownBlock (.slice a0 n0 c0))/\w' = w1.setCell ⟨b,0,none⟩ (.slice a1 n1 c1):=by
 obtain⟨i0,hi,hz0,hz1,hz2⟩:=info_parts wireInfo5
 go_enter Tryz.func61,Tryz.ntmps61
 go_wp2_with (at_builtin; refine wpList_append_own _ rfl _ _ 106 rfl base 5 i0 (.int .u8 0) 1 1 Tryz.underlying106 hi hz0 hz1 hz2 rfl (by decide) _ _ _ rfl hown ad m c news rfl hl hnews hone ?c1 ?c2 hbase ?_)
 case c1=>unfold maxLen; omega
 case c2=>omega
 intro v' w1 hown' hgrow _
 have hex:∃ a n c,v' = .slice a n c:=by
  rcases hown'.2 with ⟨rfl,_⟩ | ⟨g,cap,cur,rfl,_⟩
  ·exact⟨_,_,_,rfl⟩
  ·exact⟨_,_,_,rfl⟩
 obtain⟨a1,n1,c1,hv1⟩:=hex;subst hv1;have k0:=hgrow.cell h0 hb
 have e0:w1.frozen? ⟨b,0,none⟩ = false:=by
  rw [World.frozen?_of_block (w:=w) (hgrow.block b (World.block_lt_of_cell? _ _ h0) hb)]; exact f0
 go_wp2
 go_end0
 exact⟨rfl,_,_,_,_,hown',hgrow,rfl⟩
theorem wput_calls (base b:Nat)(st:Option (List UInt8))(ad:Addr)(m c:Nat)(news:List UInt8)(w:World)(h:Wr w base b st)(hm:news.length = m)
  (hc:∀ j (hj:j < news.length),w.cell? (ad.add j) = some (.int .u8 (news[j]).toNat)) (hlen:∀ l,st = some l->l.length + m<=1000000000) :
  Calls Tryz.prog 61 #[.pointer (some ⟨b,0,none⟩),.slice (some ad) m c] w λe w'=>e = .returned (.tuple #[])/\Wr w' base b (st.map (· ++ news))/\Kept base b w w'/\Fr b w w':=by
 cases st with
 | none=>
  obtain⟨a,n,c0,hb⟩:=WrBad.ex h;refine(put_spoilt b _ w (two_cell1 hb)).mono ?_;rintro e w' ⟨rfl,rfl⟩;exact⟨rfl,h,Kept.refl _ _ _,Fr.refl _ _⟩
 | some l=>
  obtain⟨a,n,c0,hb,hown⟩:=WrOk.ex h;have hlt:=WrOk.lt h;have hle:=WrOk.le h
  have hne:some b≠Value.ownBlock (.slice a n c0):=λe=>by
   have:=(hown.lt b e.symm).1
   omega
  refine(put_raw base b a n c0 l.length (bcells l) ad m c (bcells news) w (two_cell0 hb) (two_cell1 hb) (two_free hb 0) hown hne (by rw [bcells_length,hm,Nat.mul_one]) ?_ (bcells_one _) (hlen l rfl) hle).mono ?_
  ·intro j u hu
   have hj:j < news.length:=by
    rcases Nat.lt_or_ge j news.length with h' | h'
    ·exact h'
    ·rw [List.getElem?_eq_none (by rw [bcells_length]; exact h')] at hu; cases hu
   rw [bcells_get _ _ hj] at hu
   cases hu
   exact hc j hj
  ·rintro e w' ⟨rfl,a1,n1,c1,w1,hown1,hgrow,rfl⟩
   have hb1:w1.heap[b]? = some (.cells #[.slice a n c0,.bool false] 115 (0,0)):=(hgrow.block b (by omega) hne).trans hb
   have hk:Kept base b w w1:=(Kept.refl _ _ _).grown hgrow hle (λk hk=>(hown.lt k hk).1)
   refine⟨rfl,?_,hk.set (.inl rfl) 0 _,((Fr.refl _ _).grown hown hgrow).set 0 _⟩;refine(⟨hlt,?_,a1,n1,c1,two_set0 hb1,?_⟩:WrOk _ _ _ _)
   ·have:=hk.size
    have e:(w1.setCell ⟨b,0,none⟩ (.slice a1 n1 c1)).heap.size = w1.heap.size:=by simp [World.setCell]
    omega
   ·rw [List.length_append,bcells_append,hm]
    exact ownsRow_setCell_below hown1 hlt _
theorem spoil_v (base b:Nat)(p:Value)(st:Option (List UInt8))(w:World)(h:WrV w base b p st):
  Calls Tryz.prog 59 #[p] w λe w'=>e = .returned (.tuple #[])/\WrV w' base b p none/\Kept base b w w'/\Fr b w w':=by
 rcases h with ⟨rfl,h2,h3,h4⟩ | ⟨rfl,h⟩
 ·refine(spoil_nil w).mono ?_
  rintro e w' ⟨rfl,rfl⟩;exact⟨rfl,.inl ⟨rfl,h2,h3,rfl⟩,Kept.refl _ _ _,Fr.refl _ _⟩
 ·refine(spoil_calls base b st w h).mono ?_
  rintro e w' ⟨rfl,h1,h2⟩;exact⟨rfl,.inr ⟨rfl,h1⟩,h2⟩
theorem put_v (base b:Nat)(p:Value)(st:Option (List UInt8))(ad:Addr)(m c:Nat)(news:List UInt8)(w:World)(h:WrV w base b p st)(hm:news.length = m)
  (hc:∀ j (hj:j < news.length),w.cell? (ad.add j) = some (.int .u8 (news[j]).toNat)) (hlen:Short st 900000000) (hm2:m<=1000000) :
  Calls Tryz.prog 61 #[p,.slice (some ad) m c] w λe w'=>e = .returned (.tuple #[])/\WrV w' base b p (pRaw st news)/\Kept base b w w'/\Fr b w w':=by
 rcases h with ⟨rfl,h2,h3,h4⟩ | ⟨rfl,h⟩
 ·refine(put_nil w _).mono ?_
  rintro e w' ⟨rfl,rfl⟩;subst h4;exact⟨rfl,.inl ⟨rfl,h2,h3,rfl⟩,Kept.refl _ _ _,Fr.refl _ _⟩
 ·refine(wput_calls base b st ad m c news w h hm hc (λl hl=>by have:=hlen l hl; omega)).mono ?_
  rintro e w' ⟨rfl,h1,h2⟩;exact⟨rfl,.inr ⟨rfl,h1⟩,h2⟩
end Go.Proofs.YtnlbgggnpoeleaaGreatDoor
namespace Go.Proofs.YtnlbgggnpoeleaaGreatDoor
open Go.RowKit
theorem wnum_bad (base b:Nat)(p:Value)(st:Option (List UInt8))(n:Int)(w:World)(h:WrV w base b p st)(hn:n < 0\/4611686018427387903 < n):
  Calls Tryz.prog 60 #[p,.int .i64 n] w λe w'=>e = .returned (.tuple #[])/\WrV w' base b p none/\Kept base b w w'/\Fr b w w':=by
 rcases hn with hn | hn
 ·go_enter Tryz.func60,Tryz.ntmps60
  go_wp2_with (go_at_call 59; refine(spoil_v base b p st _ h).mono ?_; rintro e w' ⟨rfl,h1,h2⟩)
  refine bodyPost_ret (results_none rfl _ _ _) rfl ?_;exact⟨rfl,h1,h2⟩
 ·have hn0:¬ n < 0:=by omega
  go_enter Tryz.func60,Tryz.ntmps60
  go_wp2_with (go_at_call 59; refine(spoil_v base b p st _ h).mono ?_; rintro e w' ⟨rfl,h1,h2⟩)
  refine bodyPost_ret (results_none rfl _ _ _) rfl ?_;exact⟨rfl,h1,h2⟩
theorem or_low (a i n:Nat)(h:n < 2 ^ i):(a * 2 ^ i) ||| n = a * 2 ^ i + n:=by
 rw [<- Nat.shiftLeft_eq,Nat.shiftLeft_add_eq_or_of_lt h]
theorem mark0 (n:Nat)(h:n<=63):bits BinOp.or IntKind.u64 0 n = ((0 + n:Nat):Int):=by
 have:=u64_or_nat 0 n (by omega) (by omega)
 rw [show((0:Int)) = ((0:Nat):Int) from rfl,this,Nat.zero_or,Nat.zero_add]
theorem mark1 (n:Nat)(h:n<=16383):bits BinOp.or IntKind.u64 16384 n = ((16384 + n:Nat):Int):=by
 have:=u64_or_nat 16384 n (by omega) (by omega)
 rw [show((16384:Int)) = ((16384:Nat):Int) from rfl,this,or_low 1 14 n (by omega)]
theorem mark2 (n:Nat)(h:n<=1073741823):bits BinOp.or IntKind.u64 2147483648 n = ((2147483648 + n:Nat):Int):=by
 have:=u64_or_nat 2147483648 n (by omega) (by omega)
 rw [show((2147483648:Int)) = ((2147483648:Nat):Int) from rfl,this,or_low 2 30 n (by omega)]
theorem mark3 (n:Nat)(h:n<=4611686018427387903):bits BinOp.or IntKind.u64 13835058055282163712 n = ((13835058055282163712 + n:Nat):Int):=by
 have:=u64_or_nat 13835058055282163712 n (by omega) (by omega)
 rw [show((13835058055282163712:Int)) = ((13835058055282163712:Nat):Int) from rfl,this,or_low 3 62 n (by omega)]
theorem byte_at (m j:Nat):((m:Int) / 2 ^ (8 * j) % 256) = ((UInt8.ofNat (m / 256 ^ j)).toNat:Int):=by
 rw [UInt8.toNat_ofNat'];have e:((2:Int) ^ (8 * j)) = ((256 ^ j:Nat):Int):=by rw [Int.pow_mul]; simp
 rw [e];have e2:((m:Int) / ((256 ^ j:Nat):Int)) = ((m / 256 ^ j:Nat):Int):=by simp
 rw [e2]
 omega
theorem wone_cell (w:World)(x:Int)(c:UInt8)(hx:x = c.toNat):∀ j (hj:j < [c].length),(w.alloc (.cells #[.int .u8 x] 5)).cell? (Addr.add ⟨w.heap.size,0,none⟩ j) = some (.int .u8 ([c][j]).toNat):=by
 intro j hj;have:j = 0:=by simpa using hj
 subst this;rw [hx];exact World.cell?_alloc_new w _ _ 0
theorem pRaw_step (st st0:Option (List UInt8))(m j:Nat)(l:List UInt8)(h:pRaw st (Wm.be m (j + 1)) = pRaw st0 l):pRaw (pRaw st [UInt8.ofNat (m / 256 ^ j)]) (Wm.be m j) = pRaw st0 l:=by
 rw [<- h]
 cases st with
 | none=>rfl
 | some l=>simp [pRaw,Wm.be]
theorem short_step (st:Option (List UInt8))(c:UInt8)(n:Nat)(h:Short st n):Short (pRaw st [c]) (n + 1):=by
 intro l hl
 cases st with
 | none=>cases hl
 | some l0=>
  simp only [pRaw,Option.map_some,Option.some.injEq] at hl;subst hl;have:=h l0 rfl;simp
  omega
theorem pRaw_nil (st:Option (List UInt8)):pRaw st [] = st:=by cases st <;> simp [pRaw]
theorem wnum_0 (base b:Nat)(p:Value)(st:Option (List UInt8))(n:Nat)(w:World)(h:WrV w base b p st)(ht:Tab w)(h2:n<=63)(hlen:Short st 800000000):
  Calls Tryz.prog 60 #[p,.int .i64 n] w λe w'=>e = .returned (.tuple #[])/\WrV w' base b p (pRaw st (Wm.be (0 + n) 1))/\Kept base b w w'/\Fr b w w':=by
 have c0:=ht.c0
 go_enter Tryz.func60,Tryz.ntmps60
 go_wp2;refine wp_loop_rounds 1 ?_; rw [rounds_succ];go_wp2;rw [mark0 n h2];obtain⟨m,hm⟩:∃ m:Nat,m = 0 + n:=⟨_,rfl⟩;rw [<- hm];have hm64:m < 18446744073709551616:=by omega
 have Hm:Hid (m = 0 + n):=hm;clear hm
 go_loopw [7] (λi wr=>∃ (k:Nat) (q:Int) (st':Option (List UInt8)),k<=1/\q + 1 = (k:Int)/\i = .int .i64 q/\WrV wr base b p st'/\(Kept base b w wr/\Fr b w wr)/\pRaw st' (Wm.be m k) = pRaw st (Wm.be m 1)/\Short st' (800000000 + (1 - k))) (λi _=>(RowKit.intOf i + 1).toNat)
 case atStart=>exact⟨1,0,st,by omega,by omega,rfl,h,⟨Kept.refl _ _ _,Fr.refl _ _⟩,rfl,hlen⟩
 case round=>
  obtain⟨k,q,st',hk,hq,rfl,hw,hkept,hst,hsh⟩:=hrel;have Hst:Hid (pRaw st' (Wm.be m k) = pRaw st (Wm.be m 1)):=hst;clear hst
  cases k with
  | zero=>
   obtain rfl:q = -1:=by omega
   clear hq;go_wp2
   go_end0
   have e:=Hst.out;rw [Wm.be,pRaw_nil] at e;rw [<- Hm.out,<- e];exact⟨rfl,hw,hkept⟩
  | succ j=>
   obtain rfl:q = (j:Int):=by omega
   clear hq;have hle:=hw.le
   go_wp2_with (go_at_call 61; refine(put_v base b p st' ⟨wr.heap.size,0,none⟩ 1 1 [UInt8.ofNat (m / 256 ^ j)] _ (hw.alloc _) rfl (wone_cell wr _ _ (byte_at m j)) (λl hl=>by have:=hsh l hl; omega) (by omega)).mono ?_; rintro e w' ⟨rfl,hw',hk',hf'⟩)
   go_roundw
   case rel=>exact⟨j,(j:Int) - 1,pRaw st' [UInt8.ofNat (m / 256 ^ j)],by omega,by omega,rfl,hw',⟨(hkept.1.alloc hle _).trans hk',(hkept.2.alloc _).trans hf'⟩,pRaw_step _ _ _ _ _ Hst.out,λl hl=>by have:=short_step _ _ _ hsh l hl; omega⟩
   case measure=>simp [RowKit.intOf]
theorem wnum_1 (base b:Nat)(p:Value)(st:Option (List UInt8))(n:Nat)(w:World)(h:WrV w base b p st)(ht:Tab w)(h1:63 < n)(h2:n<=16383)(hlen:Short st 800000000):
  Calls Tryz.prog 60 #[p,.int .i64 n] w λe w'=>e = .returned (.tuple #[])/\WrV w' base b p (pRaw st (Wm.be (16384 + n) 2))/\Kept base b w w'/\Fr b w w':=by
 have c0:=ht.c0;have c1:=ht.c1
 go_enter Tryz.func60,Tryz.ntmps60
 go_wp2;refine wp_loop_rounds 2 ?_; rw [rounds_succ];go_wp2;rw [rounds_succ];go_wp2;rw [mark1 n h2];obtain⟨m,hm⟩:∃ m:Nat,m = 16384 + n:=⟨_,rfl⟩;rw [<- hm];have hm64:m < 18446744073709551616:=by omega
 have Hm:Hid (m = 16384 + n):=hm;clear hm
 go_loopw [7] (λi wr=>∃ (k:Nat) (q:Int) (st':Option (List UInt8)),k<=2/\q + 1 = (k:Int)/\i = .int .i64 q/\WrV wr base b p st'/\(Kept base b w wr/\Fr b w wr)/\pRaw st' (Wm.be m k) = pRaw st (Wm.be m 2)/\Short st' (800000000 + (2 - k))) (λi _=>(RowKit.intOf i + 1).toNat)
 case atStart=>exact⟨2,1,st,by omega,by omega,rfl,h,⟨Kept.refl _ _ _,Fr.refl _ _⟩,rfl,hlen⟩
 case round=>
  obtain⟨k,q,st',hk,hq,rfl,hw,hkept,hst,hsh⟩:=hrel;have Hst:Hid (pRaw st' (Wm.be m k) = pRaw st (Wm.be m 2)):=hst;clear hst
  cases k with
  | zero=>
   obtain rfl:q = -1:=by omega
   clear hq;go_wp2
   go_end0
   have e:=Hst.out;rw [Wm.be,pRaw_nil] at e;rw [<- Hm.out,<- e];exact⟨rfl,hw,hkept⟩
  | succ j=>
   obtain rfl:q = (j:Int):=by omega
   clear hq;have hle:=hw.le
   go_wp2_with (go_at_call 61; refine(put_v base b p st' ⟨wr.heap.size,0,none⟩ 1 1 [UInt8.ofNat (m / 256 ^ j)] _ (hw.alloc _) rfl (wone_cell wr _ _ (byte_at m j)) (λl hl=>by have:=hsh l hl; omega) (by omega)).mono ?_; rintro e w' ⟨rfl,hw',hk',hf'⟩)
   go_roundw
   case rel=>exact⟨j,(j:Int) - 1,pRaw st' [UInt8.ofNat (m / 256 ^ j)],by omega,by omega,rfl,hw',⟨(hkept.1.alloc hle _).trans hk',(hkept.2.alloc _).trans hf'⟩,pRaw_step _ _ _ _ _ Hst.out,λl hl=>by have:=short_step _ _ _ hsh l hl; omega⟩
   case measure=>simp [RowKit.intOf]
theorem wnum_2 (base b:Nat)(p:Value)(st:Option (List UInt8))(n:Nat)(w:World)(h:WrV w base b p st)(ht:Tab w)(h1:16383 < n)(h2:n<=1073741823)(hlen:Short st 800000000):
  Calls Tryz.prog 60 #[p,.int .i64 n] w λe w'=>e = .returned (.tuple #[])/\WrV w' base b p (pRaw st (Wm.be (2147483648 + n) 4))/\Kept base b w w'/\Fr b w w':=by
 have c0:=ht.c0;have c1:=ht.c1;have c2:=ht.c2;have g0:63 < n:=by omega
 go_enter Tryz.func60,Tryz.ntmps60
 go_wp2;refine wp_loop_rounds 3 ?_; rw [rounds_succ];go_wp2;rw [rounds_succ];go_wp2;rw [rounds_succ];go_wp2;rw [mark2 n h2];obtain⟨m,hm⟩:∃ m:Nat,m = 2147483648 + n:=⟨_,rfl⟩;rw [<- hm];have hm64:m < 18446744073709551616:=by omega
 have Hm:Hid (m = 2147483648 + n):=hm;clear hm
 go_loopw [7] (λi wr=>∃ (k:Nat) (q:Int) (st':Option (List UInt8)),k<=4/\q + 1 = (k:Int)/\i = .int .i64 q/\WrV wr base b p st'/\(Kept base b w wr/\Fr b w wr)/\pRaw st' (Wm.be m k) = pRaw st (Wm.be m 4)/\Short st' (800000000 + (4 - k))) (λi _=>(RowKit.intOf i + 1).toNat)
 case atStart=>exact⟨4,3,st,by omega,by omega,rfl,h,⟨Kept.refl _ _ _,Fr.refl _ _⟩,rfl,hlen⟩
 case round=>
  obtain⟨k,q,st',hk,hq,rfl,hw,hkept,hst,hsh⟩:=hrel;have Hst:Hid (pRaw st' (Wm.be m k) = pRaw st (Wm.be m 4)):=hst;clear hst
  cases k with
  | zero=>
   obtain rfl:q = -1:=by omega
   clear hq;go_wp2
   go_end0
   have e:=Hst.out;rw [Wm.be,pRaw_nil] at e;rw [<- Hm.out,<- e];exact⟨rfl,hw,hkept⟩
  | succ j=>
   obtain rfl:q = (j:Int):=by omega
   clear hq;have hle:=hw.le
   go_wp2_with (go_at_call 61; refine(put_v base b p st' ⟨wr.heap.size,0,none⟩ 1 1 [UInt8.ofNat (m / 256 ^ j)] _ (hw.alloc _) rfl (wone_cell wr _ _ (byte_at m j)) (λl hl=>by have:=hsh l hl; omega) (by omega)).mono ?_; rintro e w' ⟨rfl,hw',hk',hf'⟩)
   go_roundw
   case rel=>exact⟨j,(j:Int) - 1,pRaw st' [UInt8.ofNat (m / 256 ^ j)],by omega,by omega,rfl,hw',⟨(hkept.1.alloc hle _).trans hk',(hkept.2.alloc _).trans hf'⟩,pRaw_step _ _ _ _ _ Hst.out,λl hl=>by have:=short_step _ _ _ hsh l hl; omega⟩
   case measure=>simp [RowKit.intOf]
theorem wnum_3 (base b:Nat)(p:Value)(st:Option (List UInt8))(n:Nat)(w:World)(h:WrV w base b p st)(ht:Tab w)(h1:1073741823 < n)(h2:n<=4611686018427387903)(hlen:Short st 800000000):
  Calls Tryz.prog 60 #[p,.int .i64 n] w λe w'=>e = .returned (.tuple #[])/\WrV w' base b p (pRaw st (Wm.be (13835058055282163712 + n) 8))/\Kept base b w w'/\Fr b w w':=by
 have c0:=ht.c0;have c1:=ht.c1;have c2:=ht.c2;have c3:=ht.c3;have g0:63 < n:=by omega
 have g1:16383 < n:=by omega
 go_enter Tryz.func60,Tryz.ntmps60
 go_wp2;refine wp_loop_rounds 4 ?_; rw [rounds_succ];go_wp2;rw [rounds_succ];go_wp2;rw [rounds_succ];go_wp2;rw [rounds_succ];go_wp2;rw [mark3 n h2];obtain⟨m,hm⟩:∃ m:Nat,m = 13835058055282163712 + n:=⟨_,rfl⟩;rw [<- hm];have hm64:m < 18446744073709551616:=by omega
 have Hm:Hid (m = 13835058055282163712 + n):=hm;clear hm
 go_loopw [7] (λi wr=>∃ (k:Nat) (q:Int) (st':Option (List UInt8)),k<=8/\q + 1 = (k:Int)/\i = .int .i64 q/\WrV wr base b p st'/\(Kept base b w wr/\Fr b w wr)/\pRaw st' (Wm.be m k) = pRaw st (Wm.be m 8)/\Short st' (800000000 + (8 - k))) (λi _=>(RowKit.intOf i + 1).toNat)
 case atStart=>exact⟨8,7,st,by omega,by omega,rfl,h,⟨Kept.refl _ _ _,Fr.refl _ _⟩,rfl,hlen⟩
 case round=>
  obtain⟨k,q,st',hk,hq,rfl,hw,hkept,hst,hsh⟩:=hrel;have Hst:Hid (pRaw st' (Wm.be m k) = pRaw st (Wm.be m 8)):=hst;clear hst
  cases k with
  | zero=>
   obtain rfl:q = -1:=by omega
   clear hq;go_wp2
   go_end0
   have e:=Hst.out;rw [Wm.be,pRaw_nil] at e;rw [<- Hm.out,<- e];exact⟨rfl,hw,hkept⟩
  | succ j=>
   obtain rfl:q = (j:Int):=by omega
   clear hq;have hle:=hw.le
   go_wp2_with (go_at_call 61; refine(put_v base b p st' ⟨wr.heap.size,0,none⟩ 1 1 [UInt8.ofNat (m / 256 ^ j)] _ (hw.alloc _) rfl (wone_cell wr _ _ (byte_at m j)) (λl hl=>by have:=hsh l hl; omega) (by omega)).mono ?_; rintro e w' ⟨rfl,hw',hk',hf'⟩)
   go_roundw
   case rel=>exact⟨j,(j:Int) - 1,pRaw st' [UInt8.ofNat (m / 256 ^ j)],by omega,by omega,rfl,hw',⟨(hkept.1.alloc hle _).trans hk',(hkept.2.alloc _).trans hf'⟩,pRaw_step _ _ _ _ _ Hst.out,λl hl=>by have:=short_step _ _ _ hsh l hl; omega⟩
   case measure=>simp [RowKit.intOf]
theorem wnum_f (base b:Nat)(p:Value)(st:Option (List UInt8))(n:Int)(w:World)(h:WrV w base b p st)(ht:Tab w)(hlen:Short st 800000000):
  Calls Tryz.prog 60 #[p,.int .i64 n] w λe w'=>e = .returned (.tuple #[])/\WrV w' base b p (pNum st n)/\Kept base b w w'/\Fr b w w':=by
 by_cases hn:0<=n/\n<=4611686018427387903
 ·obtain⟨m,rfl⟩:=Int.eq_ofNat_of_zero_le hn.1
  have hm:m<=4611686018427387903:=by omega
  have e:pNum st (m:Int) = pRaw st (Wm.enc m):=by rw [pNum,if_pos hn,Int.toNat_natCast]; rfl
  rw [e];unfold Wm.enc
  by_cases h1:m < 64
  ·rw [if_pos h1]
   have:=wnum_0 base b p st m w h ht (by omega) hlen
   rwa [Nat.zero_add] at this
  ·rw [if_neg h1]
   by_cases h2:m < 16384
   ·rw [if_pos h2]; exact wnum_1 base b p st m w h ht (by omega) (by omega) hlen
   ·rw [if_neg h2]
    by_cases h3:m < 1073741824
    ·rw [if_pos h3]; exact wnum_2 base b p st m w h ht (by omega) (by omega) hlen
    ·rw [if_neg h3]; exact wnum_3 base b p st m w h ht (by omega) hm hlen
 ·have e:pNum st n = none:=by rw [pNum,if_neg hn]
  rw [e];exact wnum_bad base b p st n w h (by omega)
end Go.Proofs.YtnlbgggnpoeleaaGreatDoor
namespace Go.Proofs.YtnlbgggnpoeleaaGreatDoor
open Go.RowKit
theorem wtext_long (base b:Nat)(p:Value)(st:Option (List UInt8))(s:ByteArray)(w:World)(h:WrV w base b p st)(hs:65536 < s.size)(hs2:s.size<=9223372036854775807):
  Calls Tryz.prog 29 #[p,.string s] w λe w'=>e = .returned (.tuple #[])/\WrV w' base b p none/\Kept base b w w'/\Fr b w w':=by
 go_enter Tryz.func29,Tryz.ntmps29
 go_wp2_with (go_at_call 59; refine(spoil_v base b p st _ h).mono ?_; rintro e w' ⟨rfl,h1,h2⟩)
 refine bodyPost_ret (results_none rfl _ _ _) rfl ?_;exact⟨rfl,h1,h2⟩
theorem text_cells (w:World)(s:ByteArray)(c:Nat)(f:Nat × Nat):∀ j (hj:j < s.data.toList.length),(w.alloc (.cells (bytesRow s c) 5 f)).drew.cell? (Addr.add ⟨w.heap.size,0,none⟩ j) = some (.int .u8 (s.data.toList[j]).toNat):=by
 intro j hj;have hj':j < s.data.size:=by simpa using hj
 rw [Addr.add_lit];refine(World.cell?_alloc_mark w (bytesRow s c) 5 f (0 + j)).trans ?_
 rw [Nat.zero_add,bytesRow_at s c j hj']
 simp
theorem cells_new (w:World)(l:List UInt8)(t:TypeId):∀ j (hj:j < l.length),(w.alloc (.cells (bcells l).toArray t)).cell? (Addr.add ⟨w.heap.size,0,none⟩ j) = some (.int .u8 (l[j]).toNat):=by
 intro j hj;rw [Addr.add_lit];refine(World.cell?_alloc_mark w (bcells l).toArray t (0,0) (0 + j)).trans ?_;rw [Nat.zero_add,List.getElem?_toArray,bcells_get l j hj]
theorem short_num (st:Option (List UInt8))(n:Int)(k:Nat)(h:Short st k):Short (pNum st n) (k + 8):=by
 intro l hl;unfold pNum at hl
 split at hl
 ·cases st with
  | none=>cases hl
  | some l0=>
   simp only [Option.map_some,Option.some.injEq] at hl;subst hl;have:=h l0 rfl;have:=Wm.enc_length_le n.toNat;simp
   omega
 ·cases hl
theorem pText_eq (st:Option (List UInt8))(s:List UInt8)(h:s.length<=65536):pRaw (pNum st s.length) s = pText st s:=by
 unfold pText pNum;rw [if_pos h,if_pos (by omega),Int.toNat_natCast]
 cases st <;> simp [pRaw]
theorem pText_long (st:Option (List UInt8))(s:List UInt8)(h:65536 < s.length):pText st s = none:=by
 unfold pText;rw [if_neg (by omega)]
theorem wtext_short (base b:Nat)(p:Value)(st:Option (List UInt8))(s:ByteArray)(w:World)(h:WrV w base b p st)(ht:Tab w)(hs:s.size<=65536)(hlen:Short st 800000000):
  Calls Tryz.prog 29 #[p,.string s] w λe w'=>e = .returned (.tuple #[])/\WrV w' base b p (pRaw (pNum st s.size) s.data.toList)/\Kept base b w w'/\Fr b w w':=by
 have kc:=λ(w:World)=>run_bytes_of_string (P:=Tryz.prog) w 9 106 5 s Tryz.underlying9 Tryz.underlying106 Tryz.underlying5
 go_enter Tryz.func29,Tryz.ntmps29
 go_wp2_with (go_at_call 60; refine(wnum_f base b p st _ _ h ht hlen).mono ?_; rintro e w' ⟨rfl,h1,h2,f2⟩)
 have hle:=h1.le;refine(put_v base b p (pNum st s.size) ⟨w'.heap.size,0,none⟩ s.size _ s.data.toList _ ((h1.alloc _).drew) (by simp) (text_cells w' s _ _) (λl hl=>by have:=short_num st _ _ hlen l hl; omega) (by omega)).mono ?_
 rintro e w2 ⟨rfl,h3,h4,f4⟩;go_wp2
 go_end0
 exact⟨rfl,h3,h2.trans ((((Kept.refl _ _ _).alloc hle _).drew).trans h4),f2.trans ((((Fr.refl _ _).alloc _).drew).trans f4)⟩
theorem wtext_f (base b:Nat)(p:Value)(st:Option (List UInt8))(s:ByteArray)(w:World)(h:WrV w base b p st)(ht:Tab w)(hs:s.size<=9223372036854775807)(hlen:Short st 800000000):
  Calls Tryz.prog 29 #[p,.string s] w λe w'=>e = .returned (.tuple #[])/\WrV w' base b p (pText st s.data.toList)/\Kept base b w w'/\Fr b w w':=by
 have hsz:s.data.toList.length = s.size:=by simp
 by_cases hl:s.size<=65536
 ·have:=wtext_short base b p st s w h ht hl hlen
  rw [<- hsz,pText_eq st s.data.toList (by omega)] at this
  exact this
 ·rw [pText_long st s.data.toList (by omega)]
  exact wtext_long base b p st s w h (by omega) hs
theorem whash_f (base b:Nat)(p:Value)(st:Option (List UInt8))(x:List UInt8)(hx:x.length = 32)(w:World)(h:WrV w base b p st)(hlen:Short st 800000000):
  Calls Tryz.prog 57 #[p,.agg (bcells x).toArray] w λe w'=>e = .returned (.tuple #[])/\WrV w' base b p (pRaw st x)/\Kept base b w w'/\Fr b w w':=by
 have hle:=h.le
 go_enter Tryz.func57,Tryz.ntmps57
 go_wp2_with (go_at_call 61; refine(put_v base b p st ⟨w.heap.size,0,none⟩ 32 32 x _ (h.alloc _) hx (cells_new w x _) (λl hl=>by have:=hlen l hl; omega) (by omega)).mono ?_; rintro e w' ⟨rfl,hw',hk',hf'⟩)
 go_end0
 exact⟨rfl,hw',((Kept.refl _ _ _).alloc hle _).trans hk',((Fr.refl _ _).alloc _).trans hf'⟩
theorem wend_bad (base b:Nat)(w:World)(h:Wr w base b none):
  Calls Tryz.prog 62 #[.pointer (some ⟨b,0,none⟩)] w λe w'=>e = .returned (.tuple #[.string (str []),.int .i64 1])/\w = w':=by
 obtain⟨a,n,c,hb⟩:=WrBad.ex h;have c0:=two_cell0 hb;have c1:=two_cell1 hb;clear hb h
 go_enter Tryz.func62,Tryz.ntmps62
 go_wp2
 go_ret2
 exact⟨rfl,rfl⟩
theorem wend_ok (base b:Nat)(l:List UInt8)(w:World)(h:Wr w base b (some l)):
  Calls Tryz.prog 62 #[.pointer (some ⟨b,0,none⟩)] w λe w'=>e = .returned (.tuple #[.string (str l),.int .i64 0])/\w = w':=by
 obtain⟨a,n,c,hb,hown⟩:=WrOk.ex h;have c0:=two_cell0 hb;have c1:=two_cell1 hb
 have kc:(convert 106 9 (.slice a n c)).run Tryz.prog w = .ok (.string (str l)) w:=by
  rcases hown.2 with ⟨hv,hn⟩ | ⟨g,cap,cur,hv,hg,hh,_⟩
  ·cases hv
   have:l = []:=List.eq_nil_of_length_eq_zero hn;subst this;exact run_convert_bytes_nil _ _ _ Tryz.underlying106 Tryz.underlying5 0 0 _ Tryz.underlying9
  ·cases hv
   refine run_convert_bytes_back w _ _ _ ⟨g,0,none⟩ _ l Tryz.underlying106 Tryz.underlying5 Tryz.underlying9 (λj hj=>?_)
   have:=hown.cellAt j (by omega)
   rw [bcells_get l j hj] at this;rw [Addr.add_lit,Nat.zero_add];exact this
 clear hb h hown
 go_enter Tryz.func62,Tryz.ntmps62
 go_wp2
 go_ret2
 exact⟨rfl,rfl⟩
end Go.Proofs.YtnlbgggnpoeleaaGreatDoor
namespace Go.Proofs.YtnlbgggnpoeleaaGreatDoor
open Go.RowKit
def Failed (w:World)(p:Value)(e:Int):Prop:=e≠0/\((p = .pointer none/\e = 1)\/∃ b,p = .pointer (some ⟨b,0,none⟩)/\w.cell? ⟨b,1,none⟩ = some (.int .i64 e))
theorem Rd.cells {w:World}{top b:Nat}{l:List UInt8}{e:Int}(h:Rd w top b l e):w.cell? ⟨b,1,none⟩ = some (.int .i64 e):=by
 obtain⟨_,_,hb,_⟩:=h.ex;exact two_cell1 hb
def TakeRaw (w:World)(b:Nat)(ao:Option Addr)(len c n:Nat)(e:Ending)(w':World):Prop:=
 e = .returned (.tuple #[.slice ao n c,.bool true])/\∃ a',(n < c->a' = ao.map (·.add n))/\w.setCell ⟨b,0,none⟩ (.slice a' (len - n) (c - n)) = w'
def TakeOk (w:World)(top b:Nat)(l:List UInt8)(n:Nat)(e:Ending)(w':World):Prop:=
 ∃ ao c,e = .returned (.tuple #[.slice ao n c,.bool true])/\Shows w' b ao (l.take n)/\Rd w' top b (l.drop n) 0/\Kept w.heap.size b w w'
end Go.Proofs.YtnlbgggnpoeleaaGreatDoor
namespace Go.Proofs.YtnlbgggnpoeleaaGreatDoor
open Go.RowKit
def NumPost (w:World)(top b:Nat)(r:Wm.Got Int)(e:Ending)(w':World):Prop:=e = .returned (.int .i64 r.val)/\Rd w' top b r.left r.err/\Kept w.heap.size b w w'
theorem Kept.step {b:Nat}{w w1 w2:World}(h:Kept w.heap.size b w w1)(k:Kept w1.heap.size b w1 w2):Kept w.heap.size b w w2:=h.trans (k.mono h.size (λ_ _ h=>h))
end Go.Proofs.YtnlbgggnpoeleaaGreatDoor
namespace Go.Proofs.YtnlbgggnpoeleaaGreatDoor
open Go.RowKit
def TextPost (w:World)(top b:Nat)(r:Wm.Got (List UInt8))(e:Ending)(w':World):Prop:=e = .returned (.string (str r.val))/\Rd w' top b r.left r.err/\Kept w.heap.size b w w'
def FlagPost (w:World)(top b:Nat)(r:Wm.Got Bool)(e:Ending)(w':World):Prop:=e = .returned (.bool r.val)/\Rd w' top b r.left r.err/\Kept w.heap.size b w w'
end Go.Proofs.YtnlbgggnpoeleaaGreatDoor
namespace Go.Proofs.YtnlbgggnpoeleaaGreatDoor
open Go.RowKit
end Go.Proofs.YtnlbgggnpoeleaaGreatDoor
namespace Go.Proofs.YtnlbgggnpoeleaaGreatDoor
open Go.RowKit
open Go.Lib (hid)
theorem lit_string (w:World)(cells:Array Value)(t:TypeId)(l:List UInt8)(n:Nat)(hn:l.length = n)(hc:cells = (bcells l).toArray):
  (convert 106 9 (.slice (some ⟨w.heap.size,0,none⟩) n n)).run Tryz.prog (w.alloc (.cells cells t)) = .ok (.string (str l)) (w.alloc (.cells cells t)):=by
 subst hn;subst hc;exact run_convert_bytes_back (w.alloc (.cells (bcells l).toArray t)) _ _ _ ⟨w.heap.size,0,none⟩ _ l Tryz.underlying106 Tryz.underlying5 Tryz.underlying9 (cells_new w l t)
theorem byte_eq (x:Int)(m:Nat)(h:x = ((m % 256:Nat):Int)):Value.int .u8 x = Value.int .u8 ((UInt8.ofNat m).toNat:Int):=by
 rw [h,UInt8.toNat_ofNat']
theorem lit1 (x0:Int)(m:Nat)(h0:x0 = ((m % 256:Nat):Int)): #[Value.int .u8 x0] = (bcells (Wm.be m 1)).toArray:=by
 rw [byte_eq x0 _ h0];simp [bcells,Wm.be]
theorem lit2 (x0 x1:Int)(m:Nat)(h0:x0 = ((m / 256 % 256:Nat):Int))(h1:x1 = ((m % 256:Nat):Int)): #[Value.int .u8 x0,Value.int .u8 x1] = (bcells (Wm.be m 2)).toArray:=by
 rw [byte_eq x0 _ h0,byte_eq x1 _ h1]
 simp [bcells,Wm.be]
theorem lit4 (x0 x1 x2 x3:Int)(m:Nat)(h0:x0 = ((m / 16777216 % 256:Nat):Int))(h1:x1 = ((m / 65536 % 256:Nat):Int))(h2:x2 = ((m / 256 % 256:Nat):Int))(h3:x3 = ((m % 256:Nat):Int)):
  #[Value.int .u8 x0,Value.int .u8 x1,Value.int .u8 x2,Value.int .u8 x3] = (bcells (Wm.be m 4)).toArray:=by
 rw [byte_eq x0 _ h0,byte_eq x1 _ h1,byte_eq x2 _ h2,byte_eq x3 _ h3]
 simp [bcells,Wm.be]
theorem lit8 (x0 x1 x2 x3 x4 x5 x6 x7:Int)(m:Nat)(h0:x0 = ((m / 72057594037927936 % 256:Nat):Int))(h1:x1 = ((m / 281474976710656 % 256:Nat):Int))(h2:x2 = ((m / 1099511627776 % 256:Nat):Int))(h3:x3 = ((m / 4294967296 % 256:Nat):Int))
  (h4:x4 = ((m / 16777216 % 256:Nat):Int)) (h5:x5 = ((m / 65536 % 256:Nat):Int)) (h6:x6 = ((m / 256 % 256:Nat):Int)) (h7:x7 = ((m % 256:Nat):Int)) :
  #[Value.int .u8 x0,Value.int .u8 x1,Value.int .u8 x2,Value.int .u8 x3,Value.int .u8 x4,Value.int .u8 x5,Value.int .u8 x6,Value.int .u8 x7] = (bcells (Wm.be m 8)).toArray:=by
 rw [byte_eq x0 _ h0,byte_eq x1 _ h1,byte_eq x2 _ h2,byte_eq x3 _ h3,byte_eq x4 _ h4,byte_eq x5 _ h5,byte_eq x6 _ h6,byte_eq x7 _ h7]
 simp [bcells,Wm.be]
theorem refnum_0 (n:Nat)(w:World)(h:n < 64):Calls Tryz.prog 56 #[.int .i64 n] w λe w'=>e = .returned (.string (str (Wm.be n 1)))/\Kept w.heap.size w.heap.size w w':=by
 have L:=hid (lit1 n n (by omega))
 go_enter Tryz.func56,Tryz.ntmps56
 go_wp2_with fail
 rw [lit_string w _ _ (Wm.be n 1) 1 (Wm.be_length _ _) L.out];clear L;go_wp2;go_ret;exact⟨rfl,(Kept.refl _ _ _).alloc (Nat.le_refl _) _⟩
theorem refnum_1 (n:Nat)(w:World)(hm:n<=16383)(hb0:decide ((n:Int) < 64) = false)(hb1:decide ((n:Int) < 16384) = true):Calls Tryz.prog 56 #[.int .i64 n] w λe w'=>e = .returned (.string (str (Wm.be (16384 + n) 2)))/\Kept w.heap.size w.heap.size w w':=by
 have L:=hid (lit2 (64 + (n:Int) / 256) ((n:Int) % 256) (16384 + n) (by omega) (by omega))
 go_enter Tryz.func56,Tryz.ntmps56
 go_wp2_with fail
 rw [lit_string w _ _ (Wm.be (16384 + n) 2) 2 (Wm.be_length _ _) L.out];clear L;go_wp2;go_ret;exact⟨rfl,(Kept.refl _ _ _).alloc (Nat.le_refl _) _⟩
theorem refnum_2 (n:Nat)(w:World)(hm:n<=4611686018427387903)(hb0:decide ((n:Int) < 64) = false)(hb1:decide ((n:Int) < 16384) = false)(hb2:decide ((n:Int) < 1073741824) = true):Calls Tryz.prog 56 #[.int .i64 n] w λe w'=>e = .returned (.string (str (Wm.be (2147483648 + n) 4)))/\Kept w.heap.size w.heap.size w w':=by
 have L:=hid (lit4 ((128 + (n:Int) / 16777216) % 256) ((n:Int) / 65536 % 256) ((n:Int) / 256 % 256) ((n:Int) % 256) (2147483648 + n) (by omega) (by omega) (by omega) (by omega))
 go_enter Tryz.func56,Tryz.ntmps56
 go_wp2_with fail
 rw [lit_string w _ _ (Wm.be (2147483648 + n) 4) 4 (Wm.be_length _ _) L.out];clear L;go_wp2;go_ret;exact⟨rfl,(Kept.refl _ _ _).alloc (Nat.le_refl _) _⟩
theorem refnum_3 (n:Nat)(w:World)(hm:n<=4611686018427387903)(hb0:decide ((n:Int) < 64) = false)(hb1:decide ((n:Int) < 16384) = false)(hb2:decide ((n:Int) < 1073741824) = false):Calls Tryz.prog 56 #[.int .i64 n] w λe w'=>e = .returned (.string (str (Wm.be (13835058055282163712 + n) 8)))/\Kept w.heap.size w.heap.size w w':=by
 have L:=hid (lit8 ((n:Int) / 256 / 256 / 256 / 256 / 256 / 256 / 256 % 256 + 192) ((n:Int) / 256 / 256 / 256 / 256 / 256 / 256 % 256) ((n:Int) / 256 / 256 / 256 / 256 / 256 % 256) ((n:Int) / 256 / 256 / 256 / 256 % 256) ((n:Int) / 256 / 256 / 256 % 256) ((n:Int) / 256 / 256 % 256) ((n:Int) / 256 % 256) ((n:Int) % 256)
  (13835058055282163712 + n) (by omega) (by omega) (by omega) (by omega) (by omega) (by omega) (by omega) (by omega))
 go_enter Tryz.func56,Tryz.ntmps56
 go_wp2;refine wp_loop_rounds 9 ?_; rw [rounds_succ];go_wp2;iterate 8 (rw [rounds_succ]; go_wp2)
 rw [lit_string w _ _ (Wm.be (13835058055282163712 + n) 8) 8 (Wm.be_length _ _) L.out];clear L;go_wp2;go_ret;exact⟨rfl,(Kept.refl _ _ _).alloc (Nat.le_refl _) _⟩
theorem refnum (n:Nat)(w:World)(hm:n<=4611686018427387903):Calls Tryz.prog 56 #[.int .i64 n] w λe w'=>e = .returned (.string (str (Wm.enc n)))/\Kept w.heap.size w.heap.size w w':=by
 unfold Wm.enc
 by_cases h1:n < 64
 ·rw [if_pos h1]; exact refnum_0 n w h1
 ·rw [if_neg h1]
  have b0:decide ((n:Int) < 64) = false:=by rw [decide_eq_false_iff_not]; omega
  by_cases h2:n < 16384
  ·rw [if_pos h2]; exact refnum_1 n w (by omega) b0 (by rw [decide_eq_true_iff]; omega)
  ·rw [if_neg h2]
   have b1:decide ((n:Int) < 16384) = false:=by rw [decide_eq_false_iff_not]; omega
   by_cases h3:n < 1073741824
   ·rw [if_pos h3]; exact refnum_2 n w hm b0 b1 (by rw [decide_eq_true_iff]; omega)
   ·rw [if_neg h3]; exact refnum_3 n w hm b0 b1 (by rw [decide_eq_false_iff_not]; omega)
theorem reftext (s:ByteArray)(w:World)(hs:s.size<=65536):Calls Tryz.prog 36 #[.string s] w λe w'=>e = .returned (.string (str (Wm.enc s.size ++ s.data.toList)))/\Kept w.heap.size w.heap.size w w':=by
 have hle:=Wm.enc_length_le s.size
 go_enter Tryz.func36,Tryz.ntmps36
 go_wp2_with fail
 refine(refnum s.size _ (by omega)).mono ?_
 rintro e w1 ⟨rfl,k1⟩;go_wp2;go_ret;refine⟨?_,k1⟩;rw [<- str_append,str_of]
 rfl
theorem refhash (x:List UInt8)(hx:x.length = 32)(w:World):Calls Tryz.prog 64 #[.agg (bcells x).toArray] w λe w'=>e = .returned (.string (str x))/\Kept w.heap.size w.heap.size w w':=by
 go_enter Tryz.func64,Tryz.ntmps64
 go_wp2;rw [lit_string w _ _ x 32 hx rfl];go_wp2;go_ret;exact⟨rfl,(Kept.refl _ _ _).alloc (Nat.le_refl _) _⟩
end Go.Proofs.YtnlbgggnpoeleaaGreatDoor
