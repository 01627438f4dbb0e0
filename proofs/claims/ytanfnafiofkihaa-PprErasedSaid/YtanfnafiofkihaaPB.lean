/-
 PrimDerB; NotesMem: several texts in one.
-/
import Derived.Test.YtanfnafiofkihaaGP
import Derived.Test.YtanfnafiofkihaaGH
import Derived.Test.YtanfnafiofkihaaKA
import Derived.Test.YtanfnafiofkihaaPA
namespace Go.Proofs.Ytanfnafiofkihaa
open Go.RowKit Go.Lib
open List renaming setIfInBounds_toArray -> sA, set_cons_zero -> sB, set_cons_succ -> sC
open BigFrame renaming wpList_want -> wQ
theorem OwnB.freshOr {w:World}{base:Nat}{X Y:Nat->Prop}{v:Value}{L:List (List (List UInt8) × List (List UInt8))}(h:OwnB w base X v L)(hY:∀ k,Y k->w.heap.size<=k):OwnB w base (λk=>X k\/Y k) v L:=by
 obtain⟨ps,hl,ho,hp⟩:=h;refine⟨ps,hl,ho,λi hi hpi=>?_⟩
 obtain⟨p,q,xp,xq⟩:=hp i hi hpi;exact⟨p,q,λk hk hy=>hy.elim (xp k hk) λhy=>absurd (p.low k hk).2 (Nat.not_lt.2 (hY k hy)),λk hk hy=>hy.elim (xq k hk) λhy=>absurd (q.low k hk).2 (Nat.not_lt.2 (hY k hy))⟩
theorem InBk.freshOr {w:World}{base bb n:Nat}{fs:Facts}{X:Nat->Prop}(h:InBk w base bb fs n X)(Y:Nat->Prop)(hY:∀ k,Y k->w.heap.size<=k):InBk w base bb fs n (λk=>X k\/Y k):=by
 obtain⟨n',h1,S,h2,h⟩:=h;refine⟨n',h1,{ S with X:=λk=>X k\/Y k },rfl,?_⟩
 have hf:=h.facts;rw [h2] at hf;exact⟨h.cells,h.lowb,h.lowa,h.lown,h.lowm,h.an,h.amm,h.nmm,hf.freshOr hY,h.alike,h.need,h.names,h.row,h.sep,h.free,h.needed,h.same,h.found,h.few⟩
theorem OwnB.less {w:World}{base:Nat}{X Y:Nat->Prop}{v:Value}{L:List (List (List UInt8) × List (List UInt8))}(h:OwnB w base X v L)(hY:∀ k,Y k->X k):OwnB w base Y v L:=by
 obtain⟨ps,hl,ho,hp⟩:=h;refine⟨ps,hl,ho,λi hi hpi=>?_⟩
 obtain⟨p,q,xp,xq⟩:=hp i hi hpi;exact⟨p,q,λk hk hy=>xp k hk (hY k hy),λk hk hy=>xq k hk (hY k hy)⟩
theorem InBk.less {w:World}{base bb n:Nat}{fs:Facts}{X:Nat->Prop}(h:InBk w base bb fs n X)(Y:Nat->Prop)(hY:∀ k,Y k->X k):InBk w base bb fs n Y:=by
 obtain⟨n',h1,S,h2,h⟩:=h;refine⟨n',h1,{ S with X:=Y },rfl,?_⟩
 have hf:=h.facts;rw [h2] at hf;exact⟨h.cells,h.lowb,h.lowa,h.lown,h.lowm,h.an,h.amm,h.nmm,hf.less hY,h.alike,h.need,h.names,h.row,h.sep,h.free,h.needed,h.same,h.found,h.few⟩
def actCellsOf (x:Ac)(sv:Value):List Value:=.int .u8 x.kind :: (bcells x.a ++ (bcells x.b ++ [.string x.text,sv]))
theorem As.whole {w:World}{ad:Option Addr}{n c:Nat}{L:List Ac}(h:As w (.slice ad n c) L)(i:Nat)(hi:i < L.length):∃ g o sv,ad = some ⟨g,o,none⟩/\g < w.heap.size/\w.rangeAt g (o + i * 67) (actCellsOf L[i] sv)/\Hs w sv L[i].secs/\Whole sv/\L[i].a.length = 32/\L[i].b.length = 32/\L[i].text.size<=maxLen:=by
 obtain⟨h0,ad',g,o,c',e,h1⟩:=h
 cases e
 obtain⟨rfl,hg,h2,h3,h4,h5,sv,h6,h7,h8⟩:=h1 i hi;obtain⟨ha,hb,ht⟩:=h0 _ (List.getElem_mem hi);refine⟨g,o,sv,rfl,hg,λj u hu=>?_,h7,h8,ha,hb,ht⟩
 have la:(bcells L[i].a).length = 32:=by rw [bcells_length,ha]
 have lb:(bcells L[i].b).length = 32:=by rw [bcells_length,hb]
 rcases Nat.eq_zero_or_pos j with rfl | hj
 ·cases hu
  exact h2
 obtain⟨j,rfl⟩:∃ k,j = k + 1:=⟨j - 1,by omega⟩
 rw [actCellsOf,List.getElem?_cons_succ] at hu
 rcases Nat.lt_or_ge j 32 with hj1 | hj1
 ·rw [List.getElem?_append_left (by omega)] at hu
  have:=h3 j u hu;rw [show o + i * 67 + (j + 1) = o + i * 67 + 1 + j by omega]
  exact this
 ·rw [List.getElem?_append_right (by omega),la] at hu
  rcases Nat.lt_or_ge j 64 with hj2 | hj2
  ·rw [List.getElem?_append_left (by omega)] at hu
   have:=h4 (j - 32) u hu;rw [show o + i * 67 + (j + 1) = o + i * 67 + 33 + (j - 32) by omega]
   exact this
  ·rw [List.getElem?_append_right (by omega),lb] at hu
   rcases Nat.eq_or_lt_of_le hj2 with e | e
   ·obtain rfl:j = 64:=e.symm
    cases hu
    exact h5
   ·rcases Nat.eq_or_lt_of_le (show 65<=j from e) with e2 | e2
    ·obtain rfl:j = 65:=e2.symm
     cases hu
     exact h6
    ·rw [List.getElem?_eq_none (by simp; omega)] at hu
     cases hu
structure ActAt (w:World) (xb:Nat) (x:Ac) (sv:Value):Prop where
 kind:w.cell? ⟨xb,0,none⟩ = some (.int .u8 x.kind)
 a:w.rangeAt xb 1 (bcells x.a)
 b:w.rangeAt xb 33 (bcells x.b)
 text:w.cell? ⟨xb,65,none⟩ = some (.string x.text)
 secs:w.cell? ⟨xb,66,none⟩ = some sv
namespace Pm
def facts (x:Ac):Facts:=
 if x.kind.tmod 5 = 0 then [([x.a],[Mc.derive x.a x.text.data.toList []])]
 else if x.kind.tmod 5 = 1 then [([x.a,x.b],[Mc.code x.a x.b])]
 else if x.kind.tmod 5 = 2 then [([x.a],[mark (pub x.a)])]
 else if x.kind.tmod 5 = 3 then [([x.a],x.secs)]
 else if x.kind.tmod 5 = 4 then [([mark (pub x.a)],[kem (pub x.a) x.b]),([x.b],[kem (pub x.a) x.b]),([kem (pub x.a) x.b],x.secs)]
 else []
def noted (gs:Facts)(M:List Ac):Facts:=(M.map facts).flatten.foldl Bk.note gs
theorem fold_length:∀ (F gs:Facts),(F.foldl Bk.note gs).length<=gs.length + F.length
 | [],gs=>Nat.le_refl _
 | f :: F,gs=>by
  have h1:=fold_length F (Bk.note gs f);have h2:=bknote_length gs f;simp only [List.foldl_cons,List.length_cons]
  omega
theorem fold_mem (g:List (List UInt8) × List (List UInt8)):∀ (F gs:Facts),g∈F.foldl Bk.note gs->g∈gs\/g∈F
 | [],gs,h=>.inl h
 | f :: F,gs,h=>by
  rcases fold_mem g F (Bk.note gs f) h with h | h
  ·rcases bknote_mem _ _ _ h with h | rfl
   ·exact .inl h
   ·exact .inr (by simp)
  ·exact .inr (by simp [h])
end Pm
structure Pn (w:World) (b2 bb n:Nat) (gs:Facts) (x:World) (v:Value) (LL:List Facts):Prop where
 kp:Kept w.heap.size w.heap.size w x
 bk:InBook x b2 bb gs n
 nn:OwnN x b2 v LL
 hb:w.heap.size<=b2
 hb2:b2<=x.heap.size
section
variable {w x x':World} {b2 bb n n':Nat} {gs gs':Facts} {v:Value} {LL:List Facts}
theorem Pn.kept (h:Pn w b2 bb n gs x v LL)(k:Kept x.heap.size x.heap.size x x'):Pn w b2 bb n gs x' v LL:=
 ⟨h.kp.onto k,h.bk.kept k,h.nn.kept k,h.hb,Nat.le_trans h.hb2 k.size⟩
theorem Pn.book (h:Pn w b2 bb n gs x v LL)(hB:InBook x' b2 bb gs' n')(f:BkFr b2 x x'):Pn w b2 bb n' gs' x' v LL:=
 ⟨h.kp.trans (f.kept.mono h.hb (λ_ hi _=>Nat.ne_of_lt (Nat.lt_of_lt_of_le hi h.hb))),hB,h.nn.bk f,h.hb,Nat.le_trans h.hb2 f.kept.size⟩
theorem Pn.more (h:Pn w b2 bb n gs x v LL){F:Facts}{v':Value}(hN:OwnN x' b2 v' (LL ++ [F]))(hg:x.grownBy x' v.ownBlock)(hs:StayG 31 x x'):Pn w b2 bb n gs x' v' (LL ++ [F]):=
 ⟨h.kp.grown hg (Nat.le_trans h.hb h.hb2) (λk hk=>Nat.le_trans h.hb (h.nn.lt k hk).1),h.bk.stayG hs (by decide) (by decide) (by decide) (by decide),hN,h.hb,Nat.le_trans h.hb2 hg.size⟩
end
def zeroAct:Array Value:=(actCellsOf ⟨0,List.replicate 32 0,List.replicate 32 0,⟨#[]⟩,[]⟩ (.slice none 0 0)).toArray
theorem Pn.world {w x x':World}{b2 bb n:Nat}{gs:Facts}{v:Value}{LL:List Facts}(h:Pn w b2 bb n gs x v LL)(f:BkFr b2 x x'):Kept w.heap.size w.heap.size w x':=h.kp.trans (f.kept.mono h.hb (λ_ hi _=>Nat.ne_of_lt (Nat.lt_of_lt_of_le hi h.hb)))
theorem fold_take (F G:Facts)(k:Nat)(h:k < F.length):(F.take (k + 1)).foldl Bk.note G = Bk.note ((F.take k).foldl Bk.note G) F[k]:=by
 rw [List.take_succ_eq_append_getElem h,List.foldl_append]
 rfl
end Go.Proofs.Ytanfnafiofkihaa
