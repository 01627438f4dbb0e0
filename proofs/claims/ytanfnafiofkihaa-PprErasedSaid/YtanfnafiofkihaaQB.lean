/-
 PprRefPack; PprPack; PprSame; PprTakesLaw; PprPlay: several texts in one.
-/
import Derived.Test.YtanfnafiofkihaaQA
import Derived.Test.YtanfnafiofkihaaGV
import Derived.Test.YtanfnafiofkihaaGS
import Derived.Test.YtanfnafiofkihaaGD
import Derived.Test.YtanfnafiofkihaaGA
namespace Go.Proofs.Ytanfnafiofkihaa
open Go.RowKit Go.Lib
open List renaming setIfInBounds_toArray -> sA, set_cons_zero -> sB, set_cons_succ -> sC
open BigFrame renaming wpList_want -> wQ
namespace Pp
def pack1 (s:Sd):List UInt8:=Wm.enc s.level ++ Wm.enc s.place ++ s.self
def packs:List Sd->List UInt8
 | []=>[]
 | s :: L=>pack1 s ++ packs L
def pack (L:List Sd):List UInt8:=Wm.enc L.length ++ packs L
end Pp
namespace Pp
theorem low_in (n:Nat)(hn:n<=32)(P:List Nat)(l:List UInt8)(hl:l.length = 32):∀ s∈low n P n ⟨0,0,l⟩,s.level < 4294967296/\s.place < 4294967296/\s.self.length = 32:=by
 have h:=(low_good n P n ⟨0,0,l⟩ ⟨Nat.zero_le _,Nat.one_pos,hl⟩ (Nat.zero_add _)).1.1;intro s hs;obtain⟨h1,h2,h3⟩:=h s hs;have h4:s.level<=32:=Nat.le_trans h1 hn;have h5:=Nat.pow_le_pow_right (n:=2) (by decide) h4
 exact⟨by omega,by omega,h3⟩
end Pp
theorem Ss.apart {w:World}{v:Value}{L:List Sd}{mb:Nat}{l:List UInt8}{n:Nat}{T:Value}{t:TypeId}(h:Ss w v L)(hl:l.length = 32)(h32:∀ s∈L,s.self.length = 32)(hm:w.heap[mb]? = some (.cells (refRow l n T) t (0,0)))(j:Nat)(u:Value):Ss (w.setCell ⟨mb,j,none⟩ u) v L:=by
 obtain⟨ad,g,o,c,rfl,h1,h2⟩:=h;refine⟨ad,g,o,c,rfl,λi hi=>?_,h2⟩
 obtain⟨a,b,d⟩:=h1 i hi
 have hne:g≠mb:=by
  rintro rfl;have e0:=d 0 (.int .i64 (L[i].level:Int)) (by simp [Pp.cells])
  have hlast:(Pp.cells L[i])[33]?≠none:=by
   have:=h32 _ (List.getElem_mem hi);rw [List.getElem?_eq_getElem (by simp [Pp.cells,bcells_length,this])]
   exact λh=>nomatch h
  cases hq:(Pp.cells L[i])[33]? with
  | none=>exact hlast hq
  | some q=>
   have e1:=d 33 q hq;have hs:=refRow_size hl n T;rw [cell_of_row w g _ _ _ _ hm] at e0 e1
   have hlt:o + i * 34 + 33 < 34:=by
    rcases Nat.lt_or_ge (o + i * 34 + 33) 34 with h | h
    ·exact h
    ·rw [Array.getElem?_eq_none (by omega)] at e1
     cases e1
   have hz:o + i * 34 = 0:=by omega
   rw [hz] at e0
   cases l with
   | nil=>cases hl
   | cons x l=>simp [refRow,bcells] at e0
 refine⟨a,by simpa [World.setCell] using b,λk x hk=>?_⟩
 rw [World.cell?_of_block (w:=w) (setCell_other w mb j u g hne)];exact d k x hk
theorem RowIs.apart {w:World}{rb bits:Nat}{sl:Value}{L:List Sd}{mb:Nat}{l:List UInt8}{n:Nat}{T:Value}{t:TypeId}(h:RowIs w rb bits sl L)(hne:rb≠mb)(hl:l.length = 32)(h32:∀ s∈L,s.self.length = 32)(hm:w.heap[mb]? = some (.cells (refRow l n T) t (0,0)))(j:Nat)(u:Value):RowIs (w.setCell ⟨mb,j,none⟩ u) rb bits sl L:=
 ⟨(setCell_other w mb j u rb hne).trans h.1,h.2.apart hl h32 hm j u⟩
theorem refRow_set {l:List UInt8}(hl:l.length = 32)(n:Nat)(T T':Value):((bcells l ++ [.int .i64 (n:Int),T]).set 33 T').toArray = refRow l n T':=by
 rw [refRow,List.set_append_right _ _ (by rw [bcells_length,hl]; decide),bcells_length,hl]
 rfl
namespace Pp
theorem path_join (p b:Nat):∀ (a:Nat) (l:List UInt8),path p b (path (p / 2 ^ b) a l) = path p (a + b) l
 | 0,l=>by simp [path]
 | a + 1,l=>by
  have e:p / 2 ^ b / 2 ^ a = p / 2 ^ (a + b):=by rw [Nat.div_div_eq_div_mul,<- Nat.pow_add,Nat.add_comm]
  rw [show a + 1 + b = (a + b) + 1 by omega,path,path,e,path_join p b a]
theorem low_of (n:Nat)(P:List Nat)(l:List UInt8):∀ (k:Nat) (s:Sd),Of l s->∀ x∈low n P k s,Of l x
 | k,s,hs,x,hx=>by
  by_cases hw:Whole n P s
  ·rw [low_whole hw,List.mem_singleton] at hx
   rw [hx]; exact hs
  ·cases k with
   | zero=>unfold low at hx; rw [if_neg hw] at hx; cases hx
   | succ k=>
    unfold low at hx;rw [if_neg hw] at hx
    rcases List.mem_append.1 hx with h | h
    ·exact low_of n P l k _ hs.left x h
    ·exact low_of n P l k _ hs.right x h
inductive Out (n:Nat) (P:List Nat) (l:List UInt8) (pl:Int):List UInt8->Int->List Nat->Prop
 | out:(pl < 0\/((2 ^ n:Nat):Int)<=pl)->Out n P l pl z32 1 P
 | gone (p:Nat):pl = (p:Int)->p < 2 ^ n->p∈P->Out n P l pl z32 10 P
 | fresh (p:Nat):pl = (p:Int)->p < 2 ^ n->p∉P->Out n P l pl (key (path p n l)) 0 (P ++ [p])
theorem out_took {n:Nat}{P:List Nat}{l:List UInt8}(hl:l.length = 32){pl:Int}{k k':List UInt8}{er er':Int}{P':List Nat}{L':List Sd}(h:Out n P l pl k er P')(ht:Took n (low n P n ⟨0,0,l⟩) pl L' k' er'):L' = low n P' n ⟨0,0,l⟩/\k' = k/\er' = er:=by
 have hG:=(low_good n P n ⟨0,0,l⟩ ⟨Nat.zero_le _,Nat.one_pos,hl⟩ (Nat.zero_add _)).1
 cases h with
 | out h=>
  cases ht with
  | out h2=>exact⟨rfl,rfl,rfl⟩
  | gone q e h2=>omega
  | took A B s q e h2=>omega
 | gone p e hp hm=>
  cases ht with
  | out h2=>omega
  | gone q e2 h2=>exact⟨rfl,rfl,rfl⟩
  | took A B s q e2 h2 h4 h5=>
   obtain rfl:p = q:=by omega
   exact absurd h5 (low_none n P p hm n _ s (by rw [h4]; simp))
 | fresh p e hp hm=>
  subst e;have hh:Has n ⟨0,0,l⟩ p:=⟨by simp [start],by simpa [stop] using hp⟩
  obtain⟨h1,h2⟩:=ht.low rfl hG hh hp hm;refine⟨h2,?_,h1⟩
  cases ht with
  | out h=>omega
  | gone q e1 _ h4=>
   obtain rfl:p = q:=by omega
   obtain⟨A,x,B,e2,e3,_⟩:=low_took n P p hm n ⟨0,0,l⟩ (Nat.zero_add _) hh;exact absurd e3 (h4 x (by rw [e2]; simp))
  | took A B s q e1 _ h4 h5=>
   obtain rfl:p = q:=by omega
   have hs:=hG.1 s (by rw [h4]; simp)
   have ho:=low_of n P l n ⟨0,0,l⟩ rfl s (by rw [h4]; simp)
   have hd:=has_div.1 h5;rw [leaf_path n p (n - s.level) s (by have:=hs.1; omega) h5.1 h5.2,ho,<- hd,path_join,show s.level + (n - s.level) = n by have:=hs.1; omega]
theorem low_len32 (n:Nat)(hn:n<=32)(P:List Nat)(hP:P.length<=1000)(l:List UInt8):(low n P n ⟨0,0,l⟩).length < 100000:=by
 have h:=low_length n P n ⟨0,0,l⟩ (Nat.zero_add _);have h2:=Nat.mul_le_mul hP hn
 omega
end Pp
theorem OwnI.gones {w:World}{base:Nat}{v:Value}{P:List Nat}(h:OwnI w base v P):Gones w v P:=by
 obtain⟨ad,g,c,rfl,h1⟩:=h.shape;refine⟨ad,c,g,0,by rw [List.length_map],λi hi=>?_⟩
 have hi':i < P.length:=by simpa using hi
 obtain⟨rfl,hg⟩:=h1 (λe=>by rw [e] at hi'; exact absurd hi' (Nat.not_lt_zero _))
 refine⟨rfl,hg,?_⟩;rw [h.cell i hi',List.getElem_map]
 rfl
theorem RowIs.grown {w w':World}{row:Option Nat}{rb bits:Nat}{sl:Value}{L:List Sd}(h:RowIs w rb bits sl L)(hg:w.grownBy w' row)(h1:row≠some rb)(h2:L≠[]->∀ k,sl.ownBlock = some k->row≠some k):RowIs w' rb bits sl L:=by
 refine⟨(hg.block rb (lt_of_block h.1) (Ne.symm h1)).trans h.1,?_⟩;obtain⟨ad,g,o,c,rfl,h3,h4⟩:=h.2;refine⟨ad,g,o,c,rfl,λi hi=>?_,h4⟩
 obtain⟨rfl,a2,a3⟩:=h3 i hi;have hne:=h2 (λe=>by rw [e] at hi; exact absurd hi (Nat.not_lt_zero _)) g rfl
 refine⟨rfl,Nat.lt_of_lt_of_le a2 hg.size,λj u hu=>?_⟩
 rw [World.cell?_of_block (w:=w) (hg.block g a2 (Ne.symm hne))];exact a3 j u hu
structure Pl (w0 wr:World) (l:List UInt8) (n rb mb:Nat) (R P:List Nat) (T sl:Value):Prop where
 row:RowIs wr rb n sl (Pp.low n R n ⟨0,0,l⟩)
 m:wr.heap[mb]? = some (.cells (refRow l n T) 60 (0,0))
 own:OwnI wr (mb + 1) T P
 apart:Pp.low n R n ⟨0,0,l⟩≠[]->∀ k,sl.ownBlock = some k->T.ownBlock≠some k
 kept:Kept w0.heap.size w0.heap.size w0 wr
 tab:Tab wr
 lt:rb < mb
 low:w0.heap.size<=rb
 pos:0 < w0.heap.size
variable {w0 wr w':World} {l:List UInt8} {n rb mb:Nat} {R P:List Nat} {T sl:Value}
theorem Pl.step (h:Pl w0 wr l n rb mb R P T sl)(k:Kept wr.heap.size wr.heap.size wr w'):Pl w0 w' l n rb mb R P T sl where
 row:=h.row.kept k
 m:=(k.block mb (lt_of_block h.m) (Nat.ne_of_lt (lt_of_block h.m))).trans h.m
 own:=h.own.stay (λb hb=>by have:=(h.own.lt b hb).2; exact k.block b this (Nat.ne_of_lt this))
 apart:=h.apart
 kept:=h.kept.next1 k
 tab:=h.tab.kept k h.tab.lt h.tab.lt
 lt:=h.lt
 low:=h.low
 pos:=h.pos
theorem Pl.take {R':List Nat}{sl':Value}(h:Pl w0 wr l n rb mb R P T sl)(hR:RowIs w' rb n sl' (Pp.low n R' n ⟨0,0,l⟩))(k:Kept wr.heap.size rb wr w')(hn:Near wr sl sl')(hne:Pp.low n R' n ⟨0,0,l⟩≠[]->Pp.low n R n ⟨0,0,l⟩≠[]):Pl w0 w' l n rb mb R' P T sl' where
 row:=hR
 m:=(k.block mb (lt_of_block h.m) (Nat.ne_of_gt h.lt)).trans h.m
 own:=h.own.stay (λb hb=>by
  have h1:=h.own.lt b hb
  exact k.block b h1.2 (by have:=h.lt; omega))
 apart:=λhx b hb ht=>by
  rcases hn b hb with h1 | h1
  ·exact h.apart (hne hx) b h1 ht
  ·have:=(h.own.lt b ht).2
   omega
 kept:=h.kept.row k h.low
 tab:=h.tab.kept k h.tab.lt (by have:=h.low; have:=h.pos; omega)
 lt:=h.lt
 low:=h.low
 pos:=h.pos
theorem Pl.more {p:Nat}{T':Value}(h:Pl w0 wr l n rb mb R P T sl)(hl:l.length = 32)(h32:∀ s∈Pp.low n R n ⟨0,0,l⟩,s.self.length = 32)(ho:OwnI w' (mb + 1) T' (P ++ [p]))(hg:wr.grownBy w' T.ownBlock)(hb:T'.ownBlock = T.ownBlock\/T'.ownBlock = some wr.heap.size):Pl w0 (w'.setCell ⟨mb,33,none⟩ T') l n rb mb R (P ++ [p]) T' sl:=by
 have hTne:∀ b,b<=mb->some b≠T.ownBlock:=λb hbm e=>by have:=(h.own.lt b e.symm).1; omega
 have hm:=(hg.block mb (lt_of_block h.m) (hTne mb (Nat.le_refl _))).trans h.m;have hrow:=h.row.grown hg (λe=>hTne rb (Nat.le_of_lt h.lt) e.symm) h.apart
 have hmlt:=lt_of_block h.m;refine⟨hrow.apart (Nat.ne_of_lt h.lt) hl h32 hm 33 T',?_,ho.stay (λb hb2=>setCell_other _ _ _ _ _ (by have:=(ho.lt b hb2).1; omega)),λhne b hb2 ht=>?_,?_,?_,h.lt,h.low,h.pos⟩
 ·rw [refRow] at hm
  rw [cells_set hm 33 T',refRow_set hl]
 ·rcases hb with hb | hb
  ·rw [hb] at ht
   exact h.apart hne b hb2 ht
  ·rw [hb] at ht
   obtain⟨ad,g,o,c,rfl,h3,_⟩:=h.row.2;obtain⟨rfl,h4,_⟩:=h3 0 (List.length_pos_iff.2 hne)
   cases hb2
   cases ht
   exact absurd h4 (Nat.lt_irrefl _)
 ·refine h.kept.trans (Kept.set ⟨hg.os,hg.tape,hg.output,hg.size,λk hk _=>hg.block k (Nat.lt_of_lt_of_le hk h.kept.size) (hTne k (by have:=h.low; have:=h.lt; omega))⟩ (.inr (by have:=h.low; have:=h.lt; omega)) 33 T')
 ·refine(h.tab.same (hg.block 0 h.tab.lt (hTne 0 (Nat.zero_le _)))).same (setCell_other _ _ _ _ _ (by have:=h.lt; omega))
def Cls (w:World)(v:Value)(L:List (Int × Int)):Prop:=∃ ad c g o,v = .slice ad L.length c/\∀ i (hi:i < L.length),ad = some ⟨g,o,none⟩/\g < w.heap.size/\w.cell? ⟨g,o + i * 2,none⟩ = some (.int .u8 L[i].1)/\w.cell? ⟨g,o + i * 2 + 1,none⟩ = some (.int .i64 L[i].2)/\0<=L[i].1/\L[i].1<=255
end Go.Proofs.Ytanfnafiofkihaa
