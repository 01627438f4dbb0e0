/-
 BxMem; BxAdd; BxBk; BxKey; BxBelow; BxWk; BxWalk; BxLook; BxPlay: several texts in one.
-/
import Derived.Test.YtanfnafiofkihaaGF
import Derived.Test.YtanfnafiofkihaaPA
import Derived.Test.YtanfnafiofkihaaPB
import Derived.Test.YtanfnafiofkihaaQC
set_option maxRecDepth 100000
set_option maxHeartbeats 6400000
namespace Go.Proofs.Ytanfnafiofkihaa.Bx
open List renaming setIfInBounds_toArray -> sA, set_cons_zero -> sB, set_cons_succ -> sC
open BigFrame renaming wpList_want -> wQ
open Go.RowKit Go.Lib Go.Proofs.Ytanfnafiofkihaa
structure BkFr (base:Nat) (X:Nat->Prop) (w w':World):Prop extends Go.Proofs.Ytanfnafiofkihaa.BkFr base w w' where
 ints:∀ (k:Nat) (cs:Array Value) (fr:Nat × Nat),X k->w.heap[k]? = some (.cells cs 3 fr)->w'.heap[k]? = some (.cells cs 3 fr)
theorem BkFr.old {base:Nat}{X:Nat->Prop}{w w':World}(h:BkFr base X w w'):Go.Proofs.Ytanfnafiofkihaa.BkFr base w w':=h.toBkFr
theorem BkFr.refl (base:Nat)(X:Nat->Prop)(w:World):BkFr base X w w:=⟨Go.Proofs.Ytanfnafiofkihaa.BkFr.refl _ _,λ_ _ _ _ h=>h⟩
theorem BkFr.trans {base:Nat}{X:Nat->Prop}{w1 w2 w3:World}(h:BkFr base X w1 w2)(k:BkFr base X w2 w3):BkFr base X w1 w3:=⟨h.old.trans k.old,λi cs fr hx hh=>k.ints i cs fr hx (h.ints i cs fr hx hh)⟩
theorem BkFr.ofKept {base:Nat}{X:Nat->Prop}{w w':World}(hb:base<=w.heap.size)(k:Kept w.heap.size w.heap.size w w'):BkFr base X w w':=⟨Go.Proofs.Ytanfnafiofkihaa.BkFr.ofKept hb k,λ_ _cs _fr _ hh=>rk hh k⟩
theorem BkFr.grown {base:Nat}{X:Nat->Prop}{w w2:World}{row:Option Nat}(hg:w.grownBy w2 row)(hB:base<=w.heap.size)(hx:∀ k,row = some k->¬ X k)(hr:∀ k,row = some k->base<=k)(ht:∀ k,row = some k->∀ cs t fr,w.heap[k]? = some (.cells cs t fr)->t = 85\/t = 3\/t = 122):BkFr base X w w2:=
 ⟨Go.Proofs.Ytanfnafiofkihaa.BkFr.grown hg hB hr ht,λi _cs _fr h9 hh=>(hg.block i (lt_of_block hh) (λe=>hx i e.symm h9)).trans hh⟩
theorem BkFr.less {base:Nat}{X Y:Nat->Prop}{w w':World}(h:BkFr base X w w')(hY:∀ k,Y k->X k):BkFr base Y w w':=⟨h.old,λi cs fr hx hh=>h.ints i cs fr (hY i hx) hh⟩
structure Bom (w:World) (base bb:Nat) (fs:List (List (List UInt8) × List (List UInt8))) (b:Nat) (nmf:Lit->Option Value) (S:BokS):Prop extends Go.Proofs.Ytanfnafiofkihaa.Bom w base bb fs b nmf S where
 rx:∀ o k,(S.val o).ownBlock = some k->¬ S.X k
 xl:∀ k,S.X k->k < w.heap.size
section
variable {w:World} {base bb b:Nat} {fs:List (List (List UInt8) × List (List UInt8))} {nmf:Lit->Option Value} {S:BokS}
theorem Bom.mono (h:Bom w base bb fs b nmf S){b':Nat}(hb:b<=b'):Bom w base bb fs b' nmf S:=⟨h.toBom.mono hb,h.rx,h.xl⟩
theorem Bom.kept (h:Bom w base bb fs b nmf S){w':World}(k:Kept w.heap.size w.heap.size w w'):Bom w' base bb fs b nmf S:=⟨h.toBom.kept k,h.rx,λi hi=>Nat.lt_of_lt_of_le (h.xl i hi) k.size⟩
theorem Bom.facts_put (h:Bom w base bb fs b nmf S)(hbase:base<=w.heap.size){w2:World}{v':Value}{f:List (List UInt8) × List (List UInt8)}(hO:OwnB w2 base S.X v' (fs ++ [f]))(hg:w.grownBy w2 S.fv.ownBlock):
  w2.heap[bb]? = w.heap[bb]?/\Bom (w2.setCell ⟨bb,0,none⟩ v') base bb (fs ++ [f]) b nmf { S with fv:=v' }/\BkFr base S.X w (w2.setCell ⟨bb,0,none⟩ v') /\
   ∀ (k:Nat) (o:Obj),w.heap[k]? = some o->S.fv.ownBlock≠some k->k≠bb->(w2.setCell ⟨bb,0,none⟩ v').heap[k]? = some o:=by
 obtain⟨h1,h2,h3,h4⟩:=h.toBom.facts_put hbase hO hg;refine⟨h1,⟨h2,λo k hk=>?_,λk hk=>?_⟩,⟨h3,λk cs fr _ hh=>h4 k _ hh (λe=>?_) (λe=>?_)⟩,h4⟩
 ·exact h.rx o k (by cases o <;> exact hk)
 ·have:=h.xl k hk
  have:=h3.kept.size
  omega
 ·obtain⟨ps,_,ho,_⟩:=h.facts
  obtain⟨cs2,h5⟩:=rowCells ho k e;rw [hh] at h5
  cases h5
 ·subst e
  have:=h.cells;rw [hh] at this
  cases this
structure EntFr (base:Nat) (X:Nat->Prop) (m:Nat) (w w':World):Prop where
 kept:Kept base base w w'
 oth:∀ (k:Nat) (o:Obj),w.heap[k]? = some o->(∀ cs fr,o≠.cells cs 3 fr)->k≠m->w'.heap[k]? = some o
 ints:∀ (k:Nat) (cs:Array Value) (fr:Nat × Nat),X k->w.heap[k]? = some (.cells cs 3 fr)->w'.heap[k]? = some (.cells cs 3 fr)
theorem EntFr.bk {base m:Nat}{X:Nat->Prop}{w w':World}(h:EntFr base X m w w')(hm:∃ es c,w.heap[m]? = some (.map es c)):BkFr base X w w':=⟨⟨h.kept,λk cs t fr hh _ h2 _=>h.oth k _ hh (λcs' fr' e=>by cases e; exact h2 rfl) (λe=>by
 subst e;obtain⟨es,c,h3⟩:=hm;rw [hh] at h3
 cases h3)⟩,h.ints⟩
theorem entry_row (X:Nat->Prop)(hrx:∀ o k,(S.val o).ownBlock = some k->¬ X k)(hxl:∀ k,X k->k < w.heap.size)(hrow:∀ o,OwnI w base (S.val o) (S.L o))(hsep:∀ o o',o≠o'->∀ k,(S.val o).ownBlock = some k->(S.val o').ownBlock≠some k)(hbase:base<=w.heap.size){m:Nat}(hlm:base<=m){F:Lit->Option Value}(hM:Mp w 26 m b F)(hb:b < 1000000000)(l:List UInt8)(hl:l.length = 32)(o:Ow)(ho:S.val o = (F (.string l)).getD (.slice none 0 0))(hlo:(S.L o).length<=b)(x g c:Nat)(hx:w.heap[g]? = some (.cells #[.int .i64 (x:Nat)] 3 (0,0))):
  ∃ st w1,(Instr.mapEntry 81 (.map (some m)) (.agg (bcells l).toArray)).run Try.prog w = .ok (.tuple #[S.val o,goInt st]) w1/\EntFr base X m w w1 /\
   ∃ v' w2,(Builtin.append_ #[58,58] 58 #[S.val o,.slice (some ⟨g,0,none⟩) 1 c]).run Try.prog w1 = .ok v' w2/\EntFr base X m w w2 /\
    ∃ w3,(Instr.entryStore 81 (.map (some m)) (goInt st) v').run Try.prog w2 = .ok () w3/\EntFr base X m w w3/\Mp w3 26 m (b + 1) (upd F (.string l) v') /\
     ∀ S':BokS,S'.L = push S.L o x->S'.val o = v'->(∀ o',o'≠o->S'.val o' = S.val o') ->
      (∀ o',OwnI w3 base (S'.val o') (S'.L o'))/\(∀ o o',o≠o'->∀ k,(S'.val o).ownBlock = some k->(S'.val o').ownBlock≠some k)/\∀ o k,(S'.val o).ownBlock = some k->¬ X k:=by
 obtain⟨es,clk,hmap⟩:=hM.map
 have hnb:∀ o' k,(S.val o').ownBlock = some k->k≠m:=λo' k hk e=>by
  subst e;exact(hrow o').notMap _ hk _ _ hmap
 have hlt:∀ o' k,(S.val o').ownBlock = some k->base<=k/\k < w.heap.size:=λo' k hk=>(hrow o').lt k hk
 obtain⟨st,o1,w1,hr1,hb1,hg1,hs1,hback⟩:=hM.entry hash_law Try.underlying81 (by unfold maxLen; omega) slice_zero (keyOf_hash l hl)
 rw [<- ho] at hr1
 have f1:EntFr base X m w w1:=⟨(Kept.refl _ _ _).grown hg1 hbase (λk e=>by cases e; exact hlm),λk obj hh _ hk=>(hg1.block k (lt_of_block hh) (λe=>hk (by cases e; rfl))).trans hh,λk cs fr _ hh=>(hg1.block k (lt_of_block hh) (λe=>by
  cases e
  rw [hh] at hmap
  cases hmap)).trans hh⟩
 have hrow1:∀ o',OwnI w1 base (S.val o') (S.L o'):=λo'=>(hrow o').stay λk hk=>hg1.block k (hlt o' k hk).2 (λe=>hnb o' k hk (by cases e; rfl))
 have hgm:g≠m:=λe=>by
  subst e;rw [hx] at hmap
  cases hmap
 have hx1:w1.heap[g]? = some (.cells #[.int .i64 (x:Nat)] 3 (0,0)):=(hg1.block g (lt_of_block hx) (λe=>hgm (by cases e; rfl))).trans hx
 obtain⟨v',w2,hr2,ho2,hg2,hnew⟩:=append_int w1 base (S.val o) (S.L o) (hrow1 o) (by omega) g c x (by simp [World.cell?,hx1]) (by omega)
 have f2:EntFr base X m w w2:=⟨f1.kept.grown hg2 (by omega) (λk hk=>(hlt o k hk).1),λk obj hh hne hk=>by
  rw [hg2.block k (by have:=lt_of_block hh; omega) (λe=>?_)]
  ·exact f1.oth k obj hh hne hk
  ·obtain⟨cs,h1⟩:=(hrow o).cellsAt k e.symm
   rw [hh] at h1
   cases h1
   exact hne _ _ rfl,λk cs fr hx9 hh=>(hg2.block k (by have:=lt_of_block hh; omega) (λe=>hrx o k e.symm hx9)).trans (f1.ints k cs fr hx9 hh)⟩
 have hb2:w2.heap[m]? = some o1:=(hg2.block m (by have:=lt_of_block hmap; omega) (λe=>hnb o m e.symm rfl)).trans hb1
 obtain⟨w3,hr3,hm3,hg3,hs3⟩:=hback w2 v' hb2
 have f3:EntFr base X m w w3:=⟨f2.kept.grown hg3 (by have:=hg2.size; omega) (λk e=>by cases e; exact hlm),λk obj hh hne hk=>(hg3.block k (by have:=lt_of_block hh; have:=hg2.size; omega) (λe=>hk (by cases e; rfl))).trans (f2.oth k obj hh hne hk),λk cs fr hx9 hh=>(hg3.block k (by have:=lt_of_block hh; have:=hg2.size; omega) (λe=>by
  cases e
  rw [hh] at hmap
  cases hmap)).trans (f2.ints k cs fr hx9 hh)⟩
 refine⟨st,w1,hr1,f1,v',w2,hr2,f2,w3,hr3,f3,hm3,λS' hL hv hv'=>?_⟩
 obtain⟨h1,h2,h3⟩:=rows_grow (S:=S) hrow1 hsep o x ho2 hg2 hnew hL hv hv';refine⟨λo'=>(h1 o').stay λk hk=>hg3.block k ((h1 o').lt k hk).2 (λe=>?_),h2,λo' k hk hx9=>(h3 o' k hk).elim (λh4=>hrx o' k h4 hx9) (λh4=>by have:=hxl k hx9; omega)⟩
 obtain rfl:k = m:=by cases e; rfl
 rcases h3 o' k hk with h4 | h4
 ·exact hnb o' k h4 rfl
 ·have:=lt_of_block hmap
  omega
theorem Bom.entry_ne (h:Bom w base bb fs b nmf S)(hbase:base<=w.heap.size)(hb:b < 1000000000)(l:List UInt8)(hl:l.length = 32)(x g c:Nat)(hx:w.heap[g]? = some (.cells #[.int .i64 (x:Nat)] 3 (0,0))):
  ∃ st w1,(Instr.mapEntry 81 (.map (some S.nm)) (.agg (bcells l).toArray)).run Try.prog w = .ok (.tuple #[S.val (.ne l),goInt st]) w1/\EntFr base S.X S.nm w w1 /\
   ∃ v' w2,(Builtin.append_ #[58,58] 58 #[S.val (.ne l),.slice (some ⟨g,0,none⟩) 1 c]).run Try.prog w1 = .ok v' w2/\EntFr base S.X S.nm w w2 /\
    ∃ w3,(Instr.entryStore 81 (.map (some S.nm)) (goInt st) v').run Try.prog w2 = .ok () w3/\EntFr base S.X S.nm w w3 /\
     Bom w3 base bb fs (b + 1) nmf { S with fn:=upd S.fn (.string l) v',L:=push S.L (.ne l) x }:=by
 obtain⟨st,w1,r1,f1,v',w2,r2,f2,w3,r3,f3,hm,hS⟩:=entry_row S.X h.rx h.xl h.row h.sep hbase h.lown h.need hb l hl (.ne l) rfl (h.few _) x g c hx;obtain⟨h1,h2,h9⟩:=hS { S with fn:=upd S.fn (.string l) v',L:=push S.L (.ne l) x } rfl (val_ne_same S l x v') (val_ne_other S l x v')
 obtain⟨es,clk,hmap⟩:=h.need.map
 have cne:∀ {k:Nat} {cs:Array Value} {t:TypeId} {fr:Nat × Nat},w.heap[k]? = some (.cells cs t fr)->k≠S.nm:=λhh e=>by
  subst e;rw [hh] at hmap
  cases hmap
 refine⟨st,w1,r1,f1,v',w2,r2,f2,w3,r3,f3,⟨⟨f3.oth _ _ h.cells (λ_ _ e=>by cases e) (cne h.cells),h.lowb,h.lowa,h.lown,h.lowm,h.an,h.amm,h.nmm,?_,?_,hm,?_,h1,h2,push_le h.few⟩,h9,λk hk=>Nat.lt_of_lt_of_le (h.xl k hk) f3.kept.size⟩⟩
 ·refine h.facts.stay (λk hk=>?_) (λk cs fr hh=>f3.oth _ _ hh (λ_ _ e=>by cases e) (cne hh))
  obtain⟨ps,_,ho,_⟩:=h.facts;obtain⟨cs,hh⟩:=rowCells ho k hk;rw [hh];exact f3.oth _ _ hh (λ_ _ e=>by cases e) (cne hh)
 ·obtain⟨es2,c2,hh⟩:=h.alike.map
  exact(h.alike.same (by rw [hh]; exact f3.oth _ _ hh (λ_ _ e=>by cases e) h.an)).mono (Nat.le_succ _)
 ·obtain⟨es2,c2,hh⟩:=h.names.map
  exact(h.names.same (by rw [hh]; exact f3.oth _ _ hh (λ_ _ e=>by cases e) (Ne.symm h.nmm))).mono (Nat.le_succ _)
theorem Bom.entry_al (h:Bom w base bb fs b nmf S)(hbase:base<=w.heap.size)(hb:b < 1000000000)(l:List UInt8)(hl:l.length = 32)(x g c:Nat)(hx:w.heap[g]? = some (.cells #[.int .i64 (x:Nat)] 3 (0,0))):
  ∃ st w1,(Instr.mapEntry 81 (.map (some S.am)) (.agg (bcells l).toArray)).run Try.prog w = .ok (.tuple #[S.val (.al l),goInt st]) w1/\EntFr base S.X S.am w w1 /\
   ∃ v' w2,(Builtin.append_ #[58,58] 58 #[S.val (.al l),.slice (some ⟨g,0,none⟩) 1 c]).run Try.prog w1 = .ok v' w2/\EntFr base S.X S.am w w2 /\
    ∃ w3,(Instr.entryStore 81 (.map (some S.am)) (goInt st) v').run Try.prog w2 = .ok () w3/\EntFr base S.X S.am w w3 /\
     Bom w3 base bb fs (b + 1) nmf { S with fa:=upd S.fa (.string l) v',L:=push S.L (.al l) x }:=by
 obtain⟨st,w1,r1,f1,v',w2,r2,f2,w3,r3,f3,hm,hS⟩:=entry_row S.X h.rx h.xl h.row h.sep hbase h.lowa h.alike hb l hl (.al l) rfl (h.few _) x g c hx;obtain⟨h1,h2,h9⟩:=hS { S with fa:=upd S.fa (.string l) v',L:=push S.L (.al l) x } rfl (val_al_same S l x v') (val_al_other S l x v')
 obtain⟨es,clk,hmap⟩:=h.alike.map
 have cne:∀ {k:Nat} {cs:Array Value} {t:TypeId} {fr:Nat × Nat},w.heap[k]? = some (.cells cs t fr)->k≠S.am:=λhh e=>by
  subst e;rw [hh] at hmap
  cases hmap
 refine⟨st,w1,r1,f1,v',w2,r2,f2,w3,r3,f3,⟨⟨f3.oth _ _ h.cells (λ_ _ e=>by cases e) (cne h.cells),h.lowb,h.lowa,h.lown,h.lowm,h.an,h.amm,h.nmm,?_,hm,?_,?_,h1,h2,push_le h.few⟩,h9,λk hk=>Nat.lt_of_lt_of_le (h.xl k hk) f3.kept.size⟩⟩
 ·refine h.facts.stay (λk hk=>?_) (λk cs fr hh=>f3.oth _ _ hh (λ_ _ e=>by cases e) (cne hh))
  obtain⟨ps,_,ho,_⟩:=h.facts;obtain⟨cs,hh⟩:=rowCells ho k hk;rw [hh];exact f3.oth _ _ hh (λ_ _ e=>by cases e) (cne hh)
 ·obtain⟨es2,c2,hh⟩:=h.need.map
  exact(h.need.same (by rw [hh]; exact f3.oth _ _ hh (λ_ _ e=>by cases e) (Ne.symm h.an))).mono (Nat.le_succ _)
 ·obtain⟨es2,c2,hh⟩:=h.names.map
  exact(h.names.same (by rw [hh]; exact f3.oth _ _ hh (λ_ _ e=>by cases e) (Ne.symm h.amm))).mono (Nat.le_succ _)
theorem Bom.free_put (h:Bom w base bb fs b nmf S)(hbase:base<=w.heap.size)(hb:b < 1000000000)(x g c:Nat)(hx:w.heap[g]? = some (.cells #[.int .i64 (x:Nat)] 3 (0,0))):
  ∃ v' w2,(Builtin.append_ #[58,58] 58 #[S.frv,.slice (some ⟨g,0,none⟩) 1 c]).run Try.prog w = .ok v' w2/\(∃ ad n c,v' = .slice ad n c)/\w2.heap[bb]? = w.heap[bb]? /\
   Bom (w2.setCell ⟨bb,3,none⟩ v') base bb fs (b + 1) nmf { S with frv:=v',L:=push S.L .fr x }/\BkFr base S.X w (w2.setCell ⟨bb,3,none⟩ v') /\
    ∀ (k:Nat) (obj:Obj),w.heap[k]? = some obj->(∀ cs fr,obj≠.cells cs 3 fr)->k≠bb->(w2.setCell ⟨bb,3,none⟩ v').heap[k]? = some obj:=by
 have hlt:∀ o' k,(S.val o').ownBlock = some k->base<=k/\k < w.heap.size:=λo' k hk=>(h.row o').lt k hk
 obtain⟨v',w2,hr2,ho2,hg2,hnew⟩:=append_int w base (S.val .fr) (S.L .fr) (h.row .fr) hbase g c x (by simp [World.cell?,hx]) (by have:=h.few .fr; omega)
 obtain⟨h1,h2,h3⟩:=rows_grow (S:=S) h.row h.sep .fr x ho2 hg2 hnew (S':={ S with frv:=v',L:=push S.L .fr x }) rfl rfl (val_fr_other S x v')
 have keep2:∀ (k:Nat) (obj:Obj),w.heap[k]? = some obj->(∀ cs fr,obj≠.cells cs 3 fr)->w2.heap[k]? = some obj:=λk obj hh hne=>by
  rw [hg2.block k (lt_of_block hh) (λe=>?_)]
  ·exact hh
  ·obtain⟨cs,h1⟩:=(h.row .fr).cellsAt k e.symm
   rw [hh] at h1
   cases h1
   exact hne _ _ rfl
 have keep:∀ (k:Nat) (obj:Obj),w.heap[k]? = some obj->(∀ cs fr,obj≠.cells cs 3 fr)->k≠bb->(w2.setCell ⟨bb,3,none⟩ v').heap[k]? = some obj:=λk obj hh hne hk=>by
  rw [setCell_other _ _ _ _ _ hk];exact keep2 k obj hh hne
 have hc2:=keep2 _ _ h.cells (λ_ _ e=>by cases e)
 have hmap:∀ (k:Nat),(∃ es c,w.heap[k]? = some (.map es c))->(w2.setCell ⟨bb,3,none⟩ v').heap[k]? = w.heap[k]?:=λk ⟨es,c,hh⟩=>by
  rw [hh];refine keep k _ hh (λ_ _=>by simp) (λe=>?_)
  subst e;rw [h.cells] at hh
  cases hh
 have e1:BkFr base S.X w w2:=BkFr.grown hg2 hbase (λk e hx9=>h.rx .fr k e hx9) (λk hk=>(hlt .fr k hk).1) (λk hk cs t fr hh=>by
  obtain⟨cs2,h4⟩:=(h.row .fr).cellsAt k hk;rw [hh] at h4
  cases h4
  exact .inr (.inl rfl))
 obtain⟨ad,g2,c2,hsh,_⟩:=OwnI.shape ho2;refine⟨v',w2,hr2,⟨_,_,_,hsh⟩,hc2.trans h.cells.symm,⟨⟨?_,h.lowb,h.lowa,h.lown,h.lowm,h.an,h.amm,h.nmm,?_,(h.alike.same (hmap _ h.alike.map)).mono (Nat.le_succ _),(h.need.same (hmap _ h.need.map)).mono (Nat.le_succ _),(h.names.same (hmap _ h.names.map)).mono (Nat.le_succ _),λo=>(h1 o).stay λk hk=>?_,h2,push_le h.few⟩,λo' k hk hx9=>(h3 o' k hk).elim (λh4=>h.rx o' k h4 hx9) (λh4=>by have:=h.xl k hx9; omega),λk hk=>by have:=h.xl k hk; have:=hg2.size; simp only [World.setCell,Array.size_modify]; omega⟩,e1.trans ?_,keep⟩
 ·have:=cells_set (cs:=[S.fv,Value.map (some S.am),Value.map (some S.nm),S.frv,Value.map (some S.mm)]) hc2 3 v'
  simpa using this
 ·have hcb:∀ {k:Nat} {cs:Array Value} {t:TypeId} {fr:Nat × Nat},w.heap[k]? = some (.cells cs t fr)->t≠85->k≠bb:=λhh ht e=>by
   subst e;rw [h.cells] at hh
   cases hh
   exact ht rfl
  refine h.facts.stay (λk hk=>?_) (λk cs fr hh=>keep _ _ hh (λ_ _ e=>by cases e) (hcb hh (by decide)))
  obtain⟨ps,_,ho,_⟩:=h.facts;obtain⟨cs,hh⟩:=rowCells ho k hk;rw [hh];exact keep _ _ hh (λ_ _ e=>by cases e) (hcb hh (by decide))
 ·refine setCell_other _ _ _ _ _ (λe=>?_)
  subst e;obtain⟨cs,h4⟩:=(h1 o).cellsAt _ hk;rw [hc2] at h4
  cases h4
 ·refine⟨⟨(Kept.refl _ _ _).set (.inr h.lowb) 3 v',λk cs t fr hh h4 _ _=>by
   rw [setCell_other _ _ _ _ _ (λe=>?_)]
   ·exact hh
   ·subst e
    rw [hc2] at hh
    cases hh
    exact h4 rfl⟩,λk cs fr _ hh=>by
   rw [setCell_other _ _ _ _ _ (λe=>?_)]
   ·exact hh
   ·subst e
    rw [hc2] at hh
    cases hh⟩
end
theorem add_calls (base bb n:Nat)(fs:List (List (List UInt8) × List (List UInt8)))(nmf:Lit->Option Value)(S:BokS)(f:List (List UInt8) × List (List UInt8))(a b:Value)(w:World)(hB:Bok w base bb fs n nmf S)(hrx:∀ o k,(S.val o).ownBlock = some k->¬ S.X k)(hbase:base<=w.heap.size)(ha:Hs w a f.1)(hb:Hs w b f.2)(hna:Whole a)(hnb:Whole b)(hstay:∀ w',BkFr base S.X w w'->Hs w' a f.1)(hn:n < 1000000)(hfs:fs.length < 1000000)(h1:f.1.length < 1000000)(h2:f.2.length < 1000000)(hX:∀ k,S.X k->k < w.heap.size):
  Calls Try.prog 92 #[.pointer (some ⟨bb,0,none⟩),.agg #[a,b],.agg (bcells (dig f)).toArray] w λe w'=>e = .returned (.tuple #[])/\(∃ S',S'.X = S.X/\Bok w' base bb (fs ++ [f]) (n + f.1.length + 2) nmf S'/\∀ o k,(S'.val o).ownBlock = some k->¬ S'.X k)/\BkFr base S.X w w':=by
 have ha0:=ha;have hb0:=hb;have HXS:=hid hX;clear hX;obtain⟨a32,aad,ag,ao,ac,rfl,hac⟩:=ha0;obtain⟨zp1,bad,bg,bo,bc,rfl,zp2⟩:=hb0;clear zp1 zp2;have hd32:(dig f).length = 32:=by rw [dig]; exact sum_length _
 obtain⟨fad,fg,fo,fc,hfv,hlk⟩:=hB.looks;have hM:Bom w base bb fs n nmf S:=⟨hB.mem,hrx,HXS.out⟩;clear hrx;have c0:=cells_get (j:=0) hM.cells rfl
 have hown:∀ k,S.fv.ownBlock = some k->k < w.heap.size:=λk hk=>by
  obtain⟨ps,_,ho,_⟩:=hM.facts;exact(ho.lt k hk).2
 have hbbw:=lt_of_block hM.cells
 have hac2:∀ w',BkFr base S.X w w'->∀ (i:Nat) (hi:i < f.1.length),aad = some ⟨ag,ao,none⟩/\w'.rangeAt ag (ao + i * 32) (bcells f.1[i]):=λw' hw i hi=>by
  obtain⟨_,ad2,g2,o2,c2,he,hc⟩:=hstay w' hw;injection he with e1
  obtain⟨h3,_,_⟩:=hac i hi;obtain⟨h4,_,h5⟩:=hc i hi;rw [<- e1,h3] at h4
  cases h4
  exact⟨h3,h5⟩
 obtain⟨D,hD⟩:∃ D,D = dig f:=⟨_,rfl⟩;have hDD:=hD;rw [<- hD] at hd32;rw [<- hD];obtain⟨bl,hbl⟩:∃ bl,bl = bcells D:=⟨_,rfl⟩;have hbl32:bl.length = 32:=by rw [hbl,bcells_length,hd32]
 rw [<- hbl];have HA:=hid ha;have HB:=hid hb;have HBOK:=hid hB;have HM:=hid hM;have HC0:=hid c0;have HOWN:=hid hown;have HAC:=hid hac2;have H32:=hid a32;have HBL:=hid hbl;have HDD:=hid hDD;have HD32:=hid hd32;have HNA:=hid hna;have HNB:=hid hnb;have HBASE:=hid hbase;have HBBW:=hid hbbw;clear ha hb hB hM c0 hown hac hac2 a32 hbl hDD hD hd32 hna hnb hbase hstay hlk hbbw
 go_enter Try.func92,Try.ntmps92
 go_upto_region 1 with fail
 have hX:((w.alloc (.cells #[.slice aad f.1.length ac,.slice bad f.2.length bc] 122)).alloc (.cells bl.toArray 26)).heap[w.heap.size]? = some (.cells #[.slice aad f.1.length ac,.slice bad f.2.length bc] 122 (0,0)):=heap_alloc2_old w _ _
 have hR:((w.alloc (.cells #[.slice aad f.1.length ac,.slice bad f.2.length bc] 122)).alloc (.cells bl.toArray 26)).heap[w.heap.size + 1]? = some (.cells bl.toArray 26 (0,0)):=heap_alloc2_last w _ _
 have k1:Kept w.heap.size w.heap.size w ((w.alloc (.cells #[.slice aad f.1.length ac,.slice bad f.2.length bc] 122)).alloc (.cells bl.toArray 26)):=((Kept.refl _ _ _).alloc (Nat.le_refl _) _).alloc (by simp) _
 have s1:((w.alloc (.cells #[.slice aad f.1.length ac,.slice bad f.2.length bc] 122)).alloc (.cells bl.toArray 26)).heap.size = w.heap.size + 2:=by simp
 generalize (w.alloc (.cells #[.slice aad f.1.length ac,.slice bad f.2.length bc] 122)).alloc (.cells bl.toArray 26) = w1 at hX hR k1 s1 |-
 obtain⟨wa,hwa⟩:∃ wa,wa = w.heap.size:=⟨_,rfl⟩;have kw1:=k1;rw [<- hwa] at hX hR k1 s1 |-;have HK1:=hid kw1;have HX:=hid hX;have HR:=hid hR;have HS1:=hid s1;have HWA:=hid hwa
 have hc0:w1.cell? ⟨bb,0,none⟩ = some (.slice fad fs.length fc):=by
  rw [<- hfv];exact(kw1.cell (p:=⟨bb,0,none⟩) HBBW.out (Nat.ne_of_lt HBBW.out)).trans HC0.out
 have HC1:=hid hc0;clear hX hR k1 s1 kw1 hwa
 go_upto_region 2 with fail
 have hS:∀ w',Kept w1.heap.size w1.heap.size w1 w'->(w'.cell? ⟨bb,0,none⟩ = some (.slice fad fs.length fc)/\w'.cell? ⟨wa,0,none⟩ = some (.slice aad f.1.length ac)/\w'.cell? ⟨wa,1,none⟩ = some (.slice bad f.2.length bc)):=λw' kk=>by
  have h8:=(kk.block wa (by have:=HS1.out; omega) (by have:=HS1.out; omega)).trans HX.out
  refine⟨(kk.cell (p:=⟨bb,0,none⟩) ?_ ?_).trans HC1.out,two_cell0 h8,two_cell1 h8⟩
  ·show bb < w1.heap.size
   have:=HS1.out;have:=HBBW.out;have:=HWA.out
   omega
  ·show bb≠w1.heap.size
   have:=HS1.out;have:=HBBW.out;have:=HWA.out
   omega
 have HSS:=hid hS;clear hS hc0;have KD:Kept w1.heap.size w1.heap.size w1 w1.drew:=(Kept.refl _ _ _).drew;refine wp_region_noPanic ?_;refine wp_region_heldTo 16 (S:=λw'=>w'.cell? ⟨bb,0,none⟩ = some (.slice fad fs.length fc)/\w'.cell? ⟨wa,0,none⟩ = some (.slice aad f.1.length ac)/\w'.cell? ⟨wa,1,none⟩ = some (.slice bad f.2.length bc)) (by kernel_rfl) (HSS.out _ KD) (λhH=>?_)
 refine tkT (i:=0) 14 (.pointer (some ⟨bb,0,none⟩)) rfl (.inl ⟨by rfl,λw9 h9=>by obtain⟨q0,q1,q2⟩:=h9; go_simp⟩) hH ?_
 simp only [sA,sB,sC];refine tkT (i:=1) 15 (.pointer (some ⟨bb,0,none⟩)) rfl (.inl ⟨by rfl,λw9 h9=>by obtain⟨q0,q1,q2⟩:=h9; go_simp⟩) hH ?_
 simp only [sA,sB,sC];refine tkT (i:=2) 16 (.pointer (some ⟨bb,0,none⟩)) rfl (.inl ⟨by rfl,λw9 h9=>by obtain⟨q0,q1,q2⟩:=h9; go_simp⟩) hH ?_
 simp only [sA,sB,sC];refine tkT (i:=3) 17 (.pointer (some ⟨bb,0,none⟩)) rfl (.inl ⟨by rfl,λw9 h9=>by obtain⟨q0,q1,q2⟩:=h9; go_simp⟩) hH ?_
 simp only [sA,sB,sC];refine tkT (i:=4) 18 (.slice fad fs.length fc) rfl (.inl ⟨by rfl,λw9 h9=>by obtain⟨q0,q1,q2⟩:=h9; go_simp⟩) hH ?_
 simp only [sA,sB,sC];refine tkT (i:=5) 19 (.pointer (some ⟨wa,0,none⟩)) rfl (.inl ⟨by rfl,λw9 h9=>by obtain⟨q0,q1,q2⟩:=h9; go_simp⟩) hH ?_
 simp only [sA,sB,sC];refine tkT (i:=6) 20 (.slice aad f.1.length ac) rfl (.inl ⟨by rfl,λw9 h9=>by obtain⟨q0,q1,q2⟩:=h9; go_simp⟩) hH ?_
 simp only [sA,sB,sC];refine tkT (i:=8) 22 (.pointer (some ⟨wa,1,none⟩)) rfl (.inl ⟨by rfl,λw9 h9=>by obtain⟨q0,q1,q2⟩:=h9; go_simp⟩) hH ?_
 simp only [sA,sB,sC];refine tkT (i:=9) 23 (.slice bad f.2.length bc) rfl (.inl ⟨by rfl,λw9 h9=>by obtain⟨q0,q1,q2⟩:=h9; go_simp⟩) hH ?_
 simp only [sA,sB,sC];have ca1:=λ(w':World) (kk:Kept w1.heap.size w1.heap.size w1 w')=>clone_calls f.1 _ w' ((HA.out.kept HK1.out).kept kk) HNA.out h1
 have ca2:=λ(w':World) (kk:Kept w1.heap.size w1.heap.size w1 w')=>clone_calls f.2 _ w' ((HB.out.kept HK1.out).kept kk) HNB.out h2
 have CA1:=hid ca1;have CA2:=hid ca2;clear ca1 ca2;refine heldTo_one (i:=7) (by kernel_rfl) rfl (λK hK=>?_)
 rw [if_pos (by rfl)]
 go_simp
 go_wp2_with (go_at_call 108; refine(CA1.out _ KD).mono ?_; rintro e w5 ⟨u1,rfl,o1,k5⟩)
 have K5:Kept w1.heap.size w1.heap.size w1 w5:=KD.trans (k5.mono KD.size (λk hk _=>Nat.ne_of_lt (Nat.lt_of_lt_of_le hk KD.size)))
 have O1:Hid (OwnH w5 w1.heap.size u1 f.1):=hid (o1.mono KD.size);clear k5 o1;refine hK.out _ _ (HSS.out _ K5) (λhH=>?_)
 clear hK K;refine heldTo_one (i:=10) (by kernel_rfl) rfl (λK hK=>?_)
 rw [if_pos (by rfl)]
 go_simp
 go_wp2_with (go_at_call 108; refine(CA2.out _ K5).mono ?_; rintro e w6 ⟨u2,rfl,o2,k6⟩)
 have K6:Kept w1.heap.size w1.heap.size w1 w6:=K5.trans (k6.mono K5.size (λk hk _=>Nat.ne_of_lt (Nat.lt_of_lt_of_le hk K5.size)))
 have O2:Hid (OwnH w6 w1.heap.size u2 f.2):=hid (o2.mono K5.size);have O1':Hid (OwnH w6 w1.heap.size u1 f.1):=hid (O1.out.kept k6 (Nat.le_refl _));clear k6 o2 O1;refine hK.out _ _ (HSS.out _ K6) (λhH=>?_)
 clear hK K;obtain⟨q1,uad,ug,uo,uc,rfl,q2⟩:=O1'.out.hs;clear q1 q2;obtain⟨q1,vad,vg,vo,vc,rfl,q2⟩:=O2.out.hs;clear q1 q2;refine tkT (i:=11) 25 (.agg #[.slice uad f.1.length uc,.slice vad f.2.length vc]) rfl (.inl ⟨by rfl,λw9 _=>by go_simp⟩) hH ?_
 simp only [sA,sB,sC];refine heldTo_one (i:=12) (by kernel_rfl) rfl (λK hK=>?_)
 rw [if_pos (by rfl)]
 go_simp;have K7:=K6.alloc K6.size (.cells #[.slice uad f.1.length uc,.slice vad f.2.length vc] 122)
 have hN7:(w6.alloc (.cells #[.slice uad f.1.length uc,.slice vad f.2.length vc] 122)).heap[w6.heap.size]? = some (.cells #[.slice uad f.1.length uc,.slice vad f.2.length vc] 122 (0,0)):=heap_new _ _
 have O1a:=hid (O1'.out.alloc (.cells #[.slice uad f.1.length uc,.slice vad f.2.length vc] 122))
 have O2a:=hid (O2.out.alloc (.cells #[.slice uad f.1.length uc,.slice vad f.2.length vc] 122))
 refine hK.out _ _ (HSS.out _ K7) (λhH=>?_)
 clear hK K;have KW7:=HK1.out.trans (K7.mono (by have:=HS1.out; have:=HWA.out; omega) (λk hk _=>by have:=HS1.out; have:=HWA.out; omega))
 have L7:w6.heap.size < (w6.alloc (.cells #[.slice uad f.1.length uc,.slice vad f.2.length vc] 122)).heap.size:=lt_of_block hN7
 generalize w6.alloc (.cells #[.slice uad f.1.length uc,.slice vad f.2.length vc] 122) = w7 at K7 hN7 O1a O2a hH KW7 L7 |-
 have M7:=HM.out.kept KW7;have b1:base<=w1.heap.size:=by have:=HS1.out; have:=HWA.out; have:=HBASE.out; omega
 have b7:base<=w7.heap.size:=Nat.le_trans b1 K7.size;obtain⟨v',w8,hr8,hO8,hg8⟩:=append_factB w7 base S.X S.fv fs M7.facts b7 w6.heap.size 1 _ _ f (O1a.out.mono b1) (O2a.out.mono b1) (λk hk hx=>by have:=(O1a.out.low k hk).1; have:=HXS.out k hx; have:=HS1.out; have:=HWA.out; omega) (λk hk hx=>by have:=(O2a.out.low k hk).1; have:=HXS.out k hx; have:=HS1.out; have:=HWA.out; omega) (two_cell0 hN7) (two_cell1 hN7) (by omega)
 obtain⟨hbb8,M9,F9,keep9⟩:=M7.facts_put b7 hO8 hg8;obtain⟨xad,xg,xc,hxs,zp⟩:=hO8.at;clear zp;rw [List.length_append,List.length_singleton] at hxs;subst hxs;have X7:=(K7.block wa (by have:=HS1.out; omega) (by have:=HS1.out; omega)).trans HX.out
 have R7:=(K7.block (wa + 1) (by have:=HS1.out; omega) (by have:=HS1.out; omega)).trans HR.out
 have nwa:S.fv.ownBlock≠some wa:=λe=>by have:=HOWN.out wa e; have:=HWA.out; omega
 have nwb:S.fv.ownBlock≠some (wa + 1):=λe=>by have:=HOWN.out _ e; have:=HWA.out; omega
 have wab:wa≠bb:=by have:=HBBW.out; have:=HWA.out; omega
 have wbb:wa + 1≠bb:=by have:=HBBW.out; have:=HWA.out; omega
 have X8:w8.heap[wa]? = some (.cells #[.slice aad f.1.length ac,.slice bad f.2.length bc] 122 (0,0)):=(hg8.block wa (lt_of_block X7) (λe=>nwa e.symm)).trans X7
 have S8:w8.cell? ⟨bb,0,none⟩ = some (.slice fad fs.length fc)/\w8.cell? ⟨wa,0,none⟩ = some (.slice aad f.1.length ac)/\w8.cell? ⟨wa,1,none⟩ = some (.slice bad f.2.length bc):=⟨by
  have:=cells_get (j:=0) (hbb8.trans M7.cells) rfl;rw [hfv] at this
  exact this,two_cell0 X8,two_cell1 X8⟩
 have X9:=keep9 _ _ X7 nwa wab;have R9:=keep9 _ _ R7 nwb wbb
 have z8:w8.frozen? ⟨bb,0,none⟩ = false:=by
  have h9:=hbb8.trans M7.cells;simp [World.frozen?,h9]
 rw [hfv] at hr8;have HR8:=hid hr8;have HM9:=hid M9;have HF9:=hid F9;have HX9:=hid X9;have HR9:=hid R9;have HKW7:=hid KW7;have Z8:=hid z8;clear hr8 hO8 hg8 hbb8 M9 F9 keep9 X7 R7 nwa nwb X8 X9 R9 KW7 M7 hN7 O1a O2a z8;refine heldTo_one (i:=13) (by kernel_rfl) rfl (λK hK=>?_)
 rw [if_pos (by rfl)]
 refine wp_append_run' _ _ 83 83 83 rfl rfl (.slice fad fs.length fc) (.slice (some ⟨w6.heap.size,0,none⟩) 1 1) rfl rfl HR8.out ?_
 simp only [Act.put,List.setIfInBounds_toArray];refine hK.out _ _ S8 (λhH=>?_)
 clear hK K;refine heldTo_one (i:=14) (by kernel_rfl) rfl (λK hK=>?_)
 rw [if_pos (by rfl)]
 go_simp;refine hK.out _ _ S8 (λhH=>?_)
 clear hK K;refine heldTo_one (i:=15) (by kernel_rfl) rfl (λK hK=>?_)
 rw [if_pos (by rfl)]
 go_simp;refine hK.out _ _ S8 (λhH=>?_)
 clear hK K;have r8:=S8.1;have z8:=Z8.out;refine heldTo_last (by kernel_rfl) rfl (λK hK=>?_)
 rw [if_pos (by rfl)]
 go_simp;refine hK.out _ _ (heldTo_done (by kernel_rfl) ?_ _)
 clear hK K r8 z8 S8 hH;have W9:w1.heap.size<=(w8.setCell ⟨bb,0,none⟩ (.slice xad (fs.length + 1) xc)).heap.size:=Nat.le_trans K7.size HF9.out.kept.size;generalize w8.setCell ⟨bb,0,none⟩ (.slice xad (fs.length + 1) xc) = w9 at HM9 HF9 HX9 HR9 W9 |-;refine NoPanic.normal ?_
 go_upto_region 3 with fail
 obtain⟨S9,hS9⟩:∃ S9:BokS,S9 = { S with fv:=.slice xad (fs.length + 1) xc }:=⟨_,rfl⟩
 have e9am:S9.am = S.am:=by rw [hS9]
 have e9L:S9.L = S.L:=by rw [hS9]
 have e9X:S9.X = S.X:=by rw [hS9]
 rw [<- hS9] at HM9;clear hS9;obtain⟨wd,hwd⟩:∃ wd,wd = w9.drew:=⟨_,rfl⟩;have KD9:Kept w9.heap.size w9.heap.size w9 wd:=by rw [hwd]; exact(Kept.refl _ _ _).drew
 have KA:=KD9.alloc KD9.size (.cells #[.int .i64 ((fs.length:Nat):Int)] 3)
 have hXA:(wd.alloc (.cells #[.int .i64 ((fs.length:Nat):Int)] 3)).heap[wd.heap.size]? = some (.cells #[.int .i64 ((fs.length:Nat):Int)] 3 (0,0)):=heap_new _ _
 have MA:=HM9.out.kept KA;have hlt9:wa + 1 < w9.heap.size:=lt_of_block HR9.out;have hbb9:bb < w9.heap.size:=lt_of_block HM9.out.cells;have base9:base<=w9.heap.size:=by have:=HWA.out; have:=HBASE.out; omega
 have hS3:∀ (w':World),w'.heap[bb]? = w9.heap[bb]?->w'.heap[wa + 1]? = w9.heap[wa + 1]?->(w'.cell? ⟨bb,1,none⟩ = some (.map (some S9.am))/\w'.rangeAt (wa + 1) 0 bl):=λw' h3 h4=>by
  refine⟨cells_get (j:=1) (h3.trans HM9.out.cells) rfl,?_⟩;have:=World.rangeAt_of_block (h4.trans HR9.out) 0 32
  rwa [show(bl.toArray.extract 0 (0 + 32)).toList = bl by
   rw [Array.toList_extract,List.extract_eq_take_drop,List.drop_zero]
   exact List.take_of_length_le (by show bl.length<=_; omega)] at this
 have SA:=hS3 _ (KA.block bb hbb9 (Nat.ne_of_lt hbb9)) (KA.block (wa + 1) hlt9 (Nat.ne_of_lt hlt9));have SD:=hS3 _ (KD9.block bb hbb9 (Nat.ne_of_lt hbb9)) (KD9.block (wa + 1) hlt9 (Nat.ne_of_lt hlt9));have hRA:=(KA.block (wa + 1) hlt9 (Nat.ne_of_lt hlt9)).trans HR9.out;have hXw:=(KA.block wa (by omega) (by omega)).trans HX9.out
 have FA:BkFr base S.X w9 (wd.alloc (.cells #[.int .i64 ((fs.length:Nat):Int)] 3)):=BkFr.ofKept base9 KA
 have WA:w9.heap.size<=(wd.alloc (.cells #[.int .i64 ((fs.length:Nat):Int)] 3)).heap.size:=KA.size
 obtain⟨st,w11,r11,f11,v12,w12,r12,f12,w13,r13,f13,M13⟩:=MA.entry_al (Nat.le_trans base9 WA) (by omega) D HD32.out fs.length wd.heap.size 1 hXA
 have cbb:bb≠S9.am:=HM9.out.alike.ne HM9.out.cells;have car:wa + 1≠S9.am:=HM9.out.alike.ne HR9.out;have caw:wa≠S9.am:=HM9.out.alike.ne HX9.out;have hbbA:=(KA.block bb hbb9 (Nat.ne_of_lt hbb9)).trans HM9.out.cells;have S11:=hS3 w11 ((f11.oth bb _ hbbA (λ_ _ e=>by cases e) cbb).trans HM9.out.cells.symm) ((f11.oth _ _ hRA (λ_ _ e=>by cases e) car).trans HR9.out.symm)
 have S12:=hS3 w12 ((f12.oth bb _ hbbA (λ_ _ e=>by cases e) cbb).trans HM9.out.cells.symm) ((f12.oth _ _ hRA (λ_ _ e=>by cases e) car).trans HR9.out.symm)
 have X13:=f13.oth _ _ hXw (λ_ _ e=>by cases e) caw
 have F13:BkFr base S.X w9 w13:=FA.trans (by rw [<- e9X]; exact f13.bk MA.alike.map)
 have W13:w9.heap.size<=w13.heap.size:=Nat.le_trans WA f13.kept.size;rw [<- HBL.out] at r11;obtain⟨S13,hS13⟩:∃ S13:BokS,S13 = { S9 with fa:=upd S9.fa (.string D) v12,L:=push S9.L (.al D) fs.length }:=⟨_,rfl⟩
 rw [<- hS13] at M13;have e13:S13.L = push S.L (.al D) fs.length:=by rw [hS13,<- e9L]
 have e13X:S13.X = S.X:=by rw [hS13,<- e9X]
 have HSX:=hid e13X;clear e13X e9X;clear hS13;generalize S9.val (.al D) = vA at r11 r12;generalize goInt st = gst at r11 r13;have R11:=hid r11;have R12:=hid r12;have R13:=hid r13;have HM13:=hid M13;have HX13:=hid X13;have HF13:=hid (HF9.out.trans F13);have HSA:=hid SA;have HS11:=hid S11;have HS12:=hid S12;have hia:(Try.prog.info? 26).map (·.size) = some bl.length:=by rw [hbl32]; kernel_rfl
 have HIA:=hid hia;have HL13:=hid e13;have HW13:=hid (Nat.le_trans W9 W13);generalize S9.am = sam at *;clear r11 r12 r13 M13 X13 F13 SA S11 S12 hia f11 f12 f13 KD9 KA hXA MA hlt9 hbb9 base9 hS3 hRA hXw FA WA cbb car caw hbbA e9L W13 W9 e13 e9am HF9 HM9 HX9 HR9;refine wp_region_noPanic ?_;refine wp_region_heldTo 11 (S:=λw'=>w'.cell? ⟨bb,1,none⟩ = some (.map (some sam))/\w'.rangeAt (wa + 1) 0 bl) (by kernel_rfl) (by rw [<- hwd]; exact SD) (λhH=>?_)
 rw [<- hwd] at hH |-;clear SD hwd;refine tkT (i:=0) 30 (.pointer (some ⟨bb,0,none⟩)) rfl (.inl ⟨by rfl,λw9 h9=>by have q0:=h9.1; go_simp⟩) hH ?_
 simp only [sA,sB,sC];refine tkT (i:=1) 31 (.pointer (some ⟨bb,0,none⟩)) rfl (.inl ⟨by rfl,λw9 h9=>by have q0:=h9.1; go_simp⟩) hH ?_
 simp only [sA,sB,sC];refine tkT (i:=2) 32 (.pointer (some ⟨bb,1,none⟩)) rfl (.inl ⟨by rfl,λw9 h9=>by have q0:=h9.1; go_simp⟩) hH ?_
 simp only [sA,sB,sC];refine tkT (i:=3) 33 (.map (some sam)) rfl (.inl ⟨by rfl,λw9 h9=>by have q0:=h9.1; go_simp⟩) hH ?_
 simp only [sA,sB,sC];refine tkT (i:=4) 34 (.agg bl.toArray) rfl (yieldsIf_load_mid (by rfl) 26 _ rfl (wa + 1) 0 rfl bl _ (λ_ h=>h.2) Try.underlying26 rfl HIA.out) hH ?_
 simp only [sA,sB,sC];refine tkT (i:=5) 36 (.int .i64 (fs.length:Int)) rfl (.inl ⟨by rfl,λw9 h9=>by have q0:=h9.1; go_simp⟩) hH ?_
 simp only [sA,sB,sC];refine heldTo_one (i:=6) (by kernel_rfl) rfl (λK hK=>?_)
 rw [if_pos (by rfl)]
 go_simp;refine hK.out _ _ HSA.out (λhH=>?_)
 clear hK K;refine heldTo_one (i:=7) (by kernel_rfl) rfl (λK hK=>?_)
 rw [if_pos (by rfl)]
 refine wp_entry_run _ _ 81 rfl (.map (some sam)) (.agg bl.toArray) rfl rfl R11.out ?_
 simp only [Act.put,List.setIfInBounds_toArray];refine hK.out _ _ HS11.out (λhH=>?_)
 clear hK K;refine tkT (i:=8) 35 (vA) rfl (.inl ⟨by rfl,λw9 h9=>by have q0:=h9.1; go_simp⟩) hH ?_
 simp only [sA,sB,sC];refine tkT (i:=10) 40 (gst) rfl (.inl ⟨by rfl,λw9 h9=>by have q0:=h9.1; go_simp⟩) hH ?_
 simp only [sA,sB,sC];refine heldTo_one (i:=9) (by kernel_rfl) rfl (λK hK=>?_)
 rw [if_pos (by rfl)]
 refine wp_append_run' _ _ 58 58 58 rfl rfl vA (.slice (some ⟨wd.heap.size,0,none⟩) 1 1) rfl rfl R12.out ?_
 simp only [Act.put,List.setIfInBounds_toArray];refine hK.out _ _ HS12.out (λhH=>?_)
 clear hK K;refine heldTo_last (by kernel_rfl) rfl (λK hK=>?_)
 rw [if_pos (by rfl)]
 refine wp_store_run _ _ _ 81 rfl (.map (some sam)) gst v12 rfl rfl rfl R13.out ?_
 simp only [Act.put];refine hK.out _ _ (heldTo_done (by kernel_rfl) ?_ _)
 clear hK K hH R11 R12 R13 HSA HS11 HS12;refine NoPanic.normal ?_;simp only [List.getElem_toArray,List.getElem_cons_succ,List.getElem_cons_zero,List.set_cons_zero,List.set_cons_succ]
 go_upto_region 4 with fail
 have x13:=two_cell0 HX13.out;have HW7:Hid (BkFr base S.X w w13):=hid ((BkFr.ofKept HBASE.out HKW7.out).trans HF13.out);obtain⟨FS,hFS⟩:∃ FS,FS = fs ++ [f]:=⟨_,rfl⟩;have HFS:=hid hFS
 have hfin:∀ (w':World) (b':Nat) (S':BokS),Bom w' base bb FS b' nmf S'->b'<=n + f.1.length + 2->S'.L = pushAll (grownL S.L f fs.length) f.1 fs.length->S'.X = S.X->BkFr base S.X w w'->(∃ S',S'.X = S.X/\Bok w' base bb (fs ++ [f]) (n + f.1.length + 2) nmf S'/\∀ o k,(S'.val o).ownBlock = some k->¬ S'.X k)/\BkFr base S.X w w':=λw' b' S' hm hb hl hx hf=>by
  rw [hFS] at hm;exact⟨⟨S',hx,HBOK.out.more (hm.mono hb).toBom hl,hm.rx⟩,hf⟩
 have HFIN:=hid hfin;rw [<- hFS] at HM13;clear hFS hfin HF13 HKW7 HBOK HM
 by_cases hz:f.1.length = 0
 ·have hd:((f.1.length:Int) == 0) = true:=by rw [beq_iff_eq]; omega
  have hd1:decide ((f.1.length:Int) = 0) = true:=decide_eq_true (by omega)
  have hd2:decide ((0:Int) < (f.1.length:Int)) = false:=decide_eq_false (by omega)
  have hg:grownL S.L f fs.length = push S13.L .fr fs.length:=by unfold grownL; rw [if_pos hz,<- HDD.out,HL13.out]
  obtain⟨rad,rg,rc,hrv,zp⟩:=(HM13.out.row .fr).shape;clear zp;obtain⟨rn,hrn⟩:∃ rn,rn = (S13.L .fr).length:=⟨_,rfl⟩;rw [<- hrn] at hrv;have hrv2:S13.frv = .slice rad rn rc:=hrv
  have c3:w13.cell? ⟨bb,3,none⟩ = some (.slice rad rn rc):=by
   have:=cells_get (j:=3) HM13.out.cells rfl;rw [hrv2] at this;exact this
  have KB:Kept w13.heap.size w13.heap.size w13 (w13.alloc (.cells #[.int .i64 ((fs.length:Nat):Int)] 3)):=(Kept.refl _ _ _).alloc (Nat.le_refl _) _
  have hXB:(w13.alloc (.cells #[.int .i64 ((fs.length:Nat):Int)] 3)).heap[w13.heap.size]? = some (.cells #[.int .i64 ((fs.length:Nat):Int)] 3 (0,0)):=heap_new _ _
  have MB:=HM13.out.kept KB;have base13:base<=w13.heap.size:=Nat.le_trans HBASE.out HW7.out.kept.size;have hwa13:=lt_of_block HX13.out;obtain⟨v14,w14,r14,⟨zad,zn,zc,rfl⟩,hbb14,M14,F14,keep14⟩:=MB.free_put (Nat.le_trans base13 KB.size) (by omega) fs.length w13.heap.size 1 hXB
  rw [hrv2] at r14;have hcB:=hbb14.trans MB.cells
  have c14:w14.cell? ⟨bb,3,none⟩ = some (.slice rad rn rc):=by
   have:=cells_get (j:=3) hcB rfl;rw [hrv2] at this;exact this
  have z14:w14.frozen? ⟨bb,3,none⟩ = false:=by simp [World.frozen?,hcB]
  have X14:=keep14 wa _ ((KB.block wa hwa13 (Nat.ne_of_lt hwa13)).trans HX13.out) (λ_ _ e=>by cases e) wab
  have x14:=two_cell0 X14;have res:=HFIN.out _ _ _ M14 (by omega) (by rw [List.length_eq_zero_iff.1 hz,pushAll_nil,hg]) HSX.out (HW7.out.trans ((BkFr.ofKept base13 KB).trans (by rw [<- HSX.out]; exact F14)))
  have HRES:=hid res;have R14:=hid r14;clear hg hrv hrv2 hrn KB hXB MB base13 hwa13 r14 hbb14 M14 F14 keep14 hcB X14 res HL13 HM13 HX13 HW7
  go_wp2_with (with_reducible refine wpList_append_known rfl _ _ 58 58 58 rfl rfl (.slice rad rn rc) (.slice (some ⟨w13.heap.size,0,none⟩) 1 1) rfl rfl R14.out ?_)
  go_loopw [58] (λs58 w9=>s58 = .int .i64 0/\w9 = w14.setCell ⟨bb,3,none⟩ (.slice zad zn zc)) (λ_ _=>0)
  case atStart=>exact⟨rfl,rfl⟩
  case round=>
   obtain⟨rfl,rfl⟩:=hrel;go_wp2
   go_end0
   exact⟨rfl,HRES.out⟩
 ·have hd:((f.1.length:Int) == 0) = false:=by rw [beq_eq_false_iff_ne]; omega
  have hd1:decide ((f.1.length:Int) = 0) = false:=decide_eq_false (by omega)
  have hg:grownL S.L f fs.length = S13.L:=by unfold grownL; rw [if_neg hz,<- HDD.out]; exact HL13.out.symm
  have HG:=hid hg;clear hg HL13
  go_wp2_with fail
  go_loopw [58] (λs58 w9=>∃ (k:Nat) (Sk:BokS),k<=f.1.length/\s58 = .int .i64 (k:Int)/\Hid (Bom w9 base bb FS (n + 1 + k) nmf Sk)/\Hid (Sk.L = pushAll S13.L (f.1.take k) fs.length)/\Hid (Sk.X = S.X)/\Hid (BkFr base S.X w w9)) (λs58 _=>f.1.length - (RowKit.intOf s58).toNat)
  case atStart=>exact⟨0,S13,by omega,rfl,hid (by simpa using HM13.out),hid (by simp [pushAll_nil]),HSX,HW7⟩
  case round=>
   obtain⟨k,Sk,hk,rfl,hMk,hLk,hXk,hFk⟩:=hrel
   by_cases hlt:k < f.1.length
   ·obtain⟨rfl,hgx⟩:=HAC.out wr hFk.out k hlt
    have hx32:=H32.out f.1[k] (List.getElem_mem hlt);have hkn:(k:Int) < (f.1.length:Int):=by omega
    have hk0:¬ (k:Int) < 0:=by omega
    have htk:=List.take_succ_eq_append_getElem hlt;generalize f.1[k] = x at hx32 hgx htk;obtain⟨hl,hhl⟩:∃ hl,hl = bcells x:=⟨_,rfl⟩;have hl32:hl.length = 32:=by rw [hhl,bcells_length,hx32]
    have hst:=store_new (P:=Try.prog) wr 26 zeros32 hl.toArray (by rw [zeros32_size,List.size_toArray,hl32]) (by rw [hhl]; exact bcells_all x)
    have hxl:(Try.prog.info? 26).map (·.size) = some hl.length:=by rw [hl32]; kernel_rfl
    rw [<- hhl] at hgx;have baser:base<=wr.heap.size:=Nat.le_trans HBASE.out hFk.out.kept.size;have KX:Kept wr.heap.size wr.heap.size wr (wr.alloc (.cells hl.toArray 26)):=(Kept.refl _ _ _).alloc (Nat.le_refl _) _
    have hQ:=heap_new wr (.cells hl.toArray 26)
    have hMX:=hMk.out.kept KX;have hFX:=hFk.out.trans (BkFr.ofKept baser KX);have HST:=hid hst;have HIA:=hid hxl;have HHL:=hid hhl;have HX32:=hid hx32;have HTK:=hid htk;have HR9:=hid hgx;have HQ:=hid hQ;have HMX:=hid hMX;have HFX:=hid hFX;clear hst hxl hhl hx32 htk hgx hQ hMX hFX KX baser hMk hFk
    go_wp2_with (with_reducible refine wpList_load_mid rfl 26 _ rfl ag (ao + k * 32) rfl hl _ HR9.out Try.underlying26 rfl HIA.out ?_)
    rw [zeros32_eq,HST.out];generalize wr.alloc (.cells hl.toArray 26) = wx at HQ HMX HFX |-
    clear HST HR9;generalize wr.heap.size = wq at HQ |-
    go_upto_region 9 with fail
    have basex:base<=wx.heap.size:=Nat.le_trans HBASE.out HFX.out.kept.size;obtain⟨we,hwe⟩:∃ we,we = wx.drew:=⟨_,rfl⟩;have KD9:Kept wx.heap.size wx.heap.size wx we:=by rw [hwe]; exact(Kept.refl _ _ _).drew
    have KA:=KD9.alloc KD9.size (.cells #[.int .i64 ((fs.length:Nat):Int)] 3)
    have hXA:(we.alloc (.cells #[.int .i64 ((fs.length:Nat):Int)] 3)).heap[we.heap.size]? = some (.cells #[.int .i64 ((fs.length:Nat):Int)] 3 (0,0)):=heap_new _ _
    have MA:=HMX.out.kept KA;have hltq:wq < wx.heap.size:=lt_of_block HQ.out;have hbbx:bb < wx.heap.size:=lt_of_block HMX.out.cells
    have hS3:∀ (w':World),w'.heap[bb]? = wx.heap[bb]?->w'.heap[wq]? = wx.heap[wq]?->(w'.cell? ⟨bb,2,none⟩ = some (.map (some Sk.nm))/\w'.rangeAt wq 0 hl):=λw' h3 h4=>by
     refine⟨cells_get (j:=2) (h3.trans HMX.out.cells) rfl,?_⟩;have:=World.rangeAt_of_block (h4.trans HQ.out) 0 32
     rwa [show(hl.toArray.extract 0 (0 + 32)).toList = hl by
      rw [Array.toList_extract,List.extract_eq_take_drop,List.drop_zero]
      exact List.take_of_length_le (by show hl.length<=_; omega)] at this
    have SA:=hS3 _ (KA.block bb hbbx (Nat.ne_of_lt hbbx)) (KA.block wq hltq (Nat.ne_of_lt hltq));have SD:=hS3 _ (KD9.block bb hbbx (Nat.ne_of_lt hbbx)) (KD9.block wq hltq (Nat.ne_of_lt hltq));have hRA:=(KA.block wq hltq (Nat.ne_of_lt hltq)).trans HQ.out;have FA:BkFr base S.X wx (we.alloc (.cells #[.int .i64 ((fs.length:Nat):Int)] 3)):=BkFr.ofKept basex KA
    obtain⟨st,w11,r11,f11,v15,w12,r12,f12,w15,r13,f13,M15⟩:=MA.entry_ne (Nat.le_trans basex KA.size) (by omega) x HX32.out fs.length we.heap.size 1 hXA
    have cbb:bb≠Sk.nm:=HMX.out.need.ne HMX.out.cells;have car:wq≠Sk.nm:=HMX.out.need.ne HQ.out;have hbbA:=(KA.block bb hbbx (Nat.ne_of_lt hbbx)).trans HMX.out.cells;have S11:=hS3 w11 ((f11.oth bb _ hbbA (λ_ _ e=>by cases e) cbb).trans HMX.out.cells.symm) ((f11.oth _ _ hRA (λ_ _ e=>by cases e) car).trans HQ.out.symm)
    have S12:=hS3 w12 ((f12.oth bb _ hbbA (λ_ _ e=>by cases e) cbb).trans HMX.out.cells.symm) ((f12.oth _ _ hRA (λ_ _ e=>by cases e) car).trans HQ.out.symm)
    have F15:=HFX.out.trans (FA.trans (by rw [<- hXk.out]; exact f13.bk MA.need.map))
    rw [<- HHL.out] at r11;obtain⟨S15,hS15⟩:∃ S15:BokS,S15 = { Sk with fn:=upd Sk.fn (.string x) v15,L:=push Sk.L (.ne x) fs.length }:=⟨_,rfl⟩
    rw [<- hS15] at M15;have e15:S15.L = pushAll S13.L (f.1.take (k + 1)) fs.length:=by rw [hS15,HTK.out,pushAll_more,<- hLk.out]
    have x15:S15.X = S.X:=by rw [hS15]; exact hXk.out
    have HX15:=hid x15;clear hS15 x15 hXk;generalize Sk.val (.ne x) = vA at r11 r12;generalize goInt st = gst at r11 r13;have R11:=hid r11;have R12:=hid r12;have R13:=hid r13;have HM15:Hid (Bom w15 base bb FS (n + 1 + (k + 1)) nmf S15):=hid M15;have HL15:=hid e15;have HF15:=hid F15;have HSA:=hid SA;have HS11:=hid S11;have HS12:=hid S12;generalize Sk.nm = snm at *;clear r11 r12 r13 M15 F15 e15 SA S11 S12 f11 f12 f13 KD9 KA hXA MA hltq hbbx basex hS3 hRA FA cbb car hbbA HQ HMX HFX HTK HX32 HHL hLk;refine wp_region_noPanic ?_;refine wp_region_heldTo 11 (S:=λw'=>w'.cell? ⟨bb,2,none⟩ = some (.map (some snm))/\w'.rangeAt wq 0 hl) (by kernel_rfl) (by rw [<- hwe]; exact SD) (λhH=>?_)
    rw [<- hwe] at hH |-;clear SD hwe;refine tkT (i:=0) 62 (.pointer (some ⟨bb,0,none⟩)) rfl (.inl ⟨by rfl,λw9 h9=>by have q0:=h9.1; go_simp⟩) hH ?_
    simp only [sA,sB,sC];refine tkT (i:=1) 63 (.pointer (some ⟨bb,0,none⟩)) rfl (.inl ⟨by rfl,λw9 h9=>by have q0:=h9.1; go_simp⟩) hH ?_
    simp only [sA,sB,sC];refine tkT (i:=2) 64 (.pointer (some ⟨bb,2,none⟩)) rfl (.inl ⟨by rfl,λw9 h9=>by have q0:=h9.1; go_simp⟩) hH ?_
    simp only [sA,sB,sC];refine tkT (i:=3) 65 (.map (some snm)) rfl (.inl ⟨by rfl,λw9 h9=>by have q0:=h9.1; go_simp⟩) hH ?_
    simp only [sA,sB,sC];refine tkT (i:=4) 66 (.agg hl.toArray) rfl (yieldsIf_load_mid (by rfl) 26 _ rfl wq 0 rfl hl _ (λ_ h=>h.2) Try.underlying26 rfl HIA.out) hH ?_
    simp only [sA,sB,sC];refine tkT (i:=5) 68 (.int .i64 (fs.length:Int)) rfl (.inl ⟨by rfl,λw9 h9=>by have q0:=h9.1; go_simp⟩) hH ?_
    simp only [sA,sB,sC];refine heldTo_one (i:=6) (by kernel_rfl) rfl (λK hK=>?_)
    rw [if_pos (by rfl)]
    go_simp;refine hK.out _ _ HSA.out (λhH=>?_)
    clear hK K;refine heldTo_one (i:=7) (by kernel_rfl) rfl (λK hK=>?_)
    rw [if_pos (by rfl)]
    refine wp_entry_run _ _ 81 rfl (.map (some snm)) (.agg hl.toArray) rfl rfl R11.out ?_
    simp only [Act.put,List.setIfInBounds_toArray];refine hK.out _ _ HS11.out (λhH=>?_)
    clear hK K;refine tkT (i:=8) 67 (vA) rfl (.inl ⟨by rfl,λw9 h9=>by have q0:=h9.1; go_simp⟩) hH ?_
    simp only [sA,sB,sC];refine tkT (i:=10) 72 (gst) rfl (.inl ⟨by rfl,λw9 h9=>by have q0:=h9.1; go_simp⟩) hH ?_
    simp only [sA,sB,sC];refine heldTo_one (i:=9) (by kernel_rfl) rfl (λK hK=>?_)
    rw [if_pos (by rfl)]
    refine wp_append_run' _ _ 58 58 58 rfl rfl vA (.slice (some ⟨we.heap.size,0,none⟩) 1 1) rfl rfl R12.out ?_
    simp only [Act.put,List.setIfInBounds_toArray];refine hK.out _ _ HS12.out (λhH=>?_)
    clear hK K;refine heldTo_last (by kernel_rfl) rfl (λK hK=>?_)
    rw [if_pos (by rfl)]
    refine wp_store_run _ _ _ 81 rfl (.map (some snm)) gst v15 rfl rfl rfl R13.out ?_
    simp only [Act.put];refine hK.out _ _ (heldTo_done (by kernel_rfl) ?_ _)
    clear hK K hH R11 R12 R13 HSA HS11 HS12;refine NoPanic.normal ?_;simp only [List.getElem_toArray,List.getElem_cons_succ,List.getElem_cons_zero,List.set_cons_zero,List.set_cons_succ];go_wp2;exact⟨⟨k + 1,S15,by omega,by rw [Int.natCast_add]; rfl,HM15,HL15,HX15,HF15⟩,by simp only [RowKit.intOf]; omega⟩
   ·obtain rfl:k = f.1.length:=by omega
    have hd3:decide ((f.1.length:Int) < (f.1.length:Int)) = false:=decide_eq_false (by omega)
    have hl2:=hLk.out;rw [List.take_of_length_le (Nat.le_refl _),<- HG.out] at hl2;have hr:=HFIN.out _ _ _ hMk.out (by omega) hl2 hXk.out hFk.out
    have HRR:=hid hr;clear hr hl2;go_wp2
    go_end0
    exact⟨rfl,HRR.out⟩
theorem note_callsX (base bb n:Nat)(fs:List (List (List UInt8) × List (List UInt8)))(nmf:Lit->Option Value)(S:BokS)(f:List (List UInt8) × List (List UInt8))(a b:Value)(w:World)(hB:Bok w base bb fs n nmf S)(hrx:∀ o k,(S.val o).ownBlock = some k->¬ S.X k)(hbase:base<=w.heap.size)(ha:Hs w a f.1)(hb:Hs w b f.2)(hna:Whole a)(hnb:Whole b)(hkeep:∀ w',BkFr base S.X w w'->Hs w' a f.1)(hn:n < 1000000)(hfs:fs.length < 1000000)(hsz:∀ g∈fs,g.1.length < 1000000/\g.2.length < 1000000)(h1:f.1.length < 1000000)(h2:f.2.length < 1000000)(hX:∀ k,S.X k->k < w.heap.size):
  Calls Try.prog 67 #[.pointer (some ⟨bb,0,none⟩),.agg #[a,b]] w λe w'=>e = .returned (.int .i64 (if f.2.length = 0 then 1 else 0))/\(∃ n',n'<=n + f.1.length + 2/\∃ S',S'.X = S.X/\Bok w' base bb (Bk.note fs f) n' nmf S'/\∀ o k,(S'.val o).ownBlock = some k->¬ S'.X k)/\BkFr base S.X w w':=by
 have ha0:=ha;have hb0:=hb;obtain⟨zp1,aad,ag,ao,ac,rfl,zp2⟩:=ha0;clear zp1 zp2;obtain⟨zp1,bad,bg,bo,bc,rfl,zp2⟩:=hb0;clear zp1 zp2;have hd32:(dig f).length = 32:=by rw [dig]; exact sum_length _
 obtain⟨fad,fg,fo,fc,hfv,hlk⟩:=hB.looks;clear hlk;have hc0:=cells_get (j:=0) hB.cells rfl;rw [hfv] at hc0;have hbbw:=lt_of_block hB.cells;have hXX:(w.alloc (.cells #[.slice aad f.1.length ac,.slice bad f.2.length bc] 122)).heap[w.heap.size]? = some (.cells #[.slice aad f.1.length ac,.slice bad f.2.length bc] 122 (0,0)):=heap_new _ _
 have k1:Kept w.heap.size w.heap.size w (w.alloc (.cells #[.slice aad f.1.length ac,.slice bad f.2.length bc] 122)):=(Kept.refl _ _ _).alloc (Nat.le_refl _) _
 have x0:=two_cell0 hXX;have x1:=two_cell1 hXX;have hd:=digest_calls f _ _ _ (ha.kept k1) (hb.kept k1) h1 h2;have hstay:∀ w',Kept w.heap.size w.heap.size w w'->(∃ n',n'<=n + f.1.length + 2/\∃ S',S'.X = S.X/\Bok w' base bb fs n' nmf S'/\∀ o k,(S'.val o).ownBlock = some k->¬ S'.X k)/\BkFr base S.X w w':=λw' k=>⟨⟨n,by omega,S,rfl,hB.kept k,hrx⟩,BkFr.ofKept hbase k⟩
 obtain⟨D,hD⟩:∃ D,D = (bcells (dig f)).toArray:=⟨_,rfl⟩;have hD32:D.size = 32:=by rw [hD,List.size_toArray,bcells_length,hd32]
 have hall:D.all (λx=>x.oneCell') = true:=by rw [hD]; exact bcells_all _
 rw [<- hD] at hd;have hhas:=λ(w':World) (k:Kept w.heap.size w.heap.size w w')=>has_fact base bb n fs nmf S f _ _ w' (hB.kept k) (ha.kept k) (hb.kept k) hn hfs hsz h1 h2
 have hadd:=λ(w':World) (k:Kept w.heap.size w.heap.size w w')=>add_calls base bb n fs nmf S f _ _ w' (hB.kept k) hrx (Nat.le_trans hbase k.size) (ha.kept k) (hb.kept k) hna hnb (λw2 h=>hkeep w2 ((BkFr.ofKept hbase k).trans h)) hn hfs h1 h2 (λi hi=>Nat.lt_of_lt_of_le (hX i hi) k.size)
 rw [<- hD] at hhas hadd;have hc0':∀ w',Kept w.heap.size w.heap.size w w'->w'.cell? ⟨bb,0,none⟩ = some (.slice fad fs.length fc):=λw' k=>(k.cell (p:=⟨bb,0,none⟩) hbbw (Nat.ne_of_lt hbbw)).trans hc0
 have s1:(w.alloc (.cells #[.slice aad f.1.length ac,.slice bad f.2.length bc] 122)).heap.size = w.heap.size + 1:=by simp
 have HX:=hid hXX;have HK1:=hid k1;have HD:=hid hd;have HST:=hid hstay;have HHAS:=hid hhas;have HADD:=hid hadd;have HC0:=hid hc0';have HS1:=hid s1;have HBASE:=hid hbase;have HALL:=hid hall;clear hXX hX hrx k1 hd hstay hhas hadd hc0' hc0 hbbw s1 hD hall hd32 ha hb hna hnb hkeep hsz hB hfv hbase
 go_enter Try.func67,Try.ntmps67
 by_cases hz:f.2.length = 0
 ·have hd0:((f.2.length:Int) == 0) = true:=by rw [beq_iff_eq]; omega
  have hd1:decide ((f.2.length:Int) = 0) = true:=decide_eq_true (by omega)
  have hn2:Bk.note fs f = fs:=by unfold Bk.note; rw [if_pos hz]
  have hr:=HST.out _ HK1.out;rw [<- hn2] at hr;have HRR:=hid hr;have HZ:=hid hz;clear hr hn2 hz
  go_wp2_with fail
  go_ret;have hr2:=HRR.out;rw [HZ.out] at hr2;exact⟨rfl,hr2⟩
 ·have hd0:((f.2.length:Int) == 0) = false:=by rw [beq_eq_false_iff_ne]; omega
  have hd1:decide ((f.2.length:Int) = 0) = false:=decide_eq_false (by omega)
  have hd2:decide ((1048576:Int)<=(fs.length:Int)) = false:=decide_eq_false (by omega)
  have HZ:=hid hz;clear hz
  go_wp2_with (go_at_call 90; refine HD.out.mono ?_; rintro e w2 ⟨rfl,k2⟩)
  have hst:=store_new (P:=Try.prog) w2 26 zeros32 D (by rw [zeros32_size,hD32]) HALL.out
  rw [zeros32_eq,hst];have k3:Kept w.heap.size w.heap.size w (w2.alloc (.cells D 26)):=(HK1.out.trans (k2.mono (by have:=HS1.out; omega) (λk hk _=>by have:=HS1.out; omega))).alloc (by have:=HS1.out; have:=k2.size; omega) _
  have r3:(w2.alloc (.cells D 26)).heap[w2.heap.size]? = some (.cells D 26 (0,0)):=heap_new _ _
  have h2x:w2.heap[w.heap.size]? = some (.cells #[.slice aad f.1.length ac,.slice bad f.2.length bc] 122 (0,0)):=(k2.block w.heap.size (by have:=HS1.out; omega) (by have:=HS1.out; omega)).trans HX.out
  have hwq:w.heap.size < w2.heap.size:=lt_of_block h2x;have h3x:(w2.alloc (.cells D 26)).heap[w.heap.size]? = some (.cells #[.slice aad f.1.length ac,.slice bad f.2.length bc] 122 (0,0)):=by rw [Below.heap_alloc _ _ _ hwq]; exact h2x
  have s3:(w2.alloc (.cells D 26)).heap.size = w2.heap.size + 1:=by simp
  clear x0 x1 hst;generalize w2.alloc (.cells D 26) = w3 at k3 r3 h3x s3 |-
  obtain⟨wq,hwq2⟩:∃ wq,wq = w2.heap.size:=⟨_,rfl⟩;rw [<- hwq2] at r3 s3 |-;obtain⟨wa,hwa⟩:∃ wa,wa = w.heap.size:=⟨_,rfl⟩;have h3y:=h3x;rw [<- hwa] at h3x |-;have x0:=two_cell0 h3x;have x1:=two_cell1 h3x;have hca:=HHAS.out w3 k3;have hia:(Try.prog.info? 26).map (·.size) = some D.size:=by rw [hD32]; kernel_rfl
  have hl3:wa < w3.heap.size:=lt_of_block h3x;have HK3:=hid k3;have HR3:=hid r3;have HX3:=hid h3x;have HCA:=hid hca;have HIA:=hid hia;have HWA:=hid hwa;have HS3:=hid s3;clear k3 r3 h3x hca hia h3y h2x hwq hwq2 s3 k2 hl3 hwa;clear w2
  cases hBn:Bk.noted fs f with
  | true=>
   rw [hBn] at HCA;have hn2:Bk.note fs f = fs:=by unfold Bk.note; rw [if_neg HZ.out,if_pos hBn]
   have HN2:=hid hn2;clear hn2 hBn
   go_wp2_with (first
    | (with_reducible refine wpList_load_row rfl 26 _ rfl wq rfl 26 D (0,0) _ HR3.out Try.underlying26 rfl HIA.out ?_)
    | (go_at_call 91; refine HCA.out.mono ?_; rintro e w4 ⟨rfl,k4⟩))
   have hr:=HST.out w4 (HK3.out.trans (k4.mono HK3.out.size (λk hk _=>by have:=HK3.out.size; omega)))
   go_ret;exact⟨by first | rfl | (show Ending.returned (.int .i64 0) = _; rw [if_neg HZ.out]),by rw [HN2.out]; exact hr⟩
  | false=>
   rw [hBn] at HCA;have hn2:Bk.note fs f = fs ++ [f]:=by unfold Bk.note; rw [if_neg HZ.out,if_neg (by rw [hBn]; simp)]
   have HN2:=hid hn2;clear hn2 hBn
   go_wp2_with (first
    | (with_reducible refine wpList_load_row rfl 26 _ rfl wq rfl 26 D (0,0) _ HR3.out Try.underlying26 rfl HIA.out ?_)
    | (go_at_call 91; refine HCA.out.mono ?_; rintro e w4 ⟨rfl,k4⟩; have hk4:=HK3.out.trans (k4.mono HK3.out.size (λk hk _=>by have:=HK3.out.size; omega)); have c4:=HC0.out w4 hk4; have X4:=(k4.block wa (lt_of_block HX3.out) (Nat.ne_of_lt (lt_of_block HX3.out))).trans HX3.out; have y0:=two_cell0 X4; have y1:=two_cell1 X4; have R4:=hid (rk HR3.out k4); have HK4:=hid hk4; clear hk4 X4 k4)
    | (with_reducible refine wpList_load_row rfl 26 _ rfl wq rfl 26 D (0,0) _ R4.out Try.underlying26 rfl HIA.out ?_)
    | (go_at_call 92; refine(HADD.out _ HK4.out).mono ?_; rintro e w5 ⟨rfl,⟨S5,hx5,hb5,rx5⟩,f5⟩))
   go_ret;exact⟨by first | rfl | (show Ending.returned (.int .i64 0) = _; rw [if_neg HZ.out]),⟨n + f.1.length + 2,Nat.le_refl _,S5,hx5,by rw [HN2.out]; exact hb5,rx5⟩,(BkFr.ofKept HBASE.out HK4.out).trans f5⟩
def InBk (w:World)(base bb:Nat)(fs:Facts)(n:Nat)(X:Nat->Prop):Prop:=∃ n',n'<=n/\∃ S,S.X = X/\Bok w base bb fs n' (λ_=>none) S/\∀ o k,(S.val o).ownBlock = some k->¬ S.X k
theorem InBk.old {w:World}{base bb n:Nat}{fs:Facts}{X:Nat->Prop}(h:InBk w base bb fs n X):Go.Proofs.Ytanfnafiofkihaa.InBk w base bb fs n X:=by
 obtain⟨n',h1,S,h2,h3,h4⟩:=h;exact⟨n',h1,S,h2,h3⟩
theorem InBk.book {w:World}{base bb n:Nat}{fs:Facts}{X:Nat->Prop}(h:InBk w base bb fs n X):InBook w base bb fs n:=h.old.book
theorem InBk.kept {w w':World}{base bb n:Nat}{fs:Facts}{X:Nat->Prop}(h:InBk w base bb fs n X)(k:Kept w.heap.size w.heap.size w w'):InBk w' base bb fs n X:=by
 obtain⟨n',h1,S,h2,h3,h4⟩:=h;exact⟨n',h1,S,h2,h3.kept k,h4⟩
theorem InBk.upTo {w:World}{base bb n:Nat}{fs:Facts}{X:Nat->Prop}{m:Nat}(h:InBk w base bb fs n X)(hm:n<=m):InBk w base bb fs m X:=by
 obtain⟨n',h1,S,h2,h3,h4⟩:=h;exact⟨n',by omega,S,h2,h3,h4⟩
theorem InBk.put {w:World}{base bb n:Nat}{fs:Facts}{X:Nat->Prop}(h:InBk w base bb fs n X)(g:Nat)(hg:X g)(old cs:Array Value)(fr:Nat × Nat)(hold:w.heap[g]? = some (.cells old 26 fr)):InBk (w.setRow g cs) base bb fs n X:=by
 obtain⟨n',h1,S,h2,h3,h4⟩:=h;exact⟨n',h1,S,h2,h3.put g (by rw [h2]; exact hg) old cs fr hold,h4⟩
theorem InBk.stayG {T:TypeId}{w w':World}{base bb n:Nat}{fs:Facts}{X:Nat->Prop}(h:InBk w base bb fs n X)(k:StayG T w w')(t1:85≠T)(t2:3≠T)(t3:122≠T)(t4:26≠T):InBk w' base bb fs n X:=by
 obtain⟨n',h1,S,h2,h3,h4⟩:=h;exact⟨n',h1,S,h2,h3.stayG k t1 t2 t3 t4,h4⟩
theorem InBk.freshOr {w:World}{base bb n:Nat}{fs:Facts}{X:Nat->Prop}(h:InBk w base bb fs n X)(Y:Nat->Prop)(hY:∀ k,Y k->w.heap.size<=k):InBk w base bb fs n (λk=>X k\/Y k):=by
 obtain⟨n',h1,S,h2,h,h4⟩:=h;refine⟨n',h1,{ S with X:=λk=>X k\/Y k },rfl,?_,λo k hk hx=>?_⟩
 ·have hf:=h.facts
  rw [h2] at hf;exact⟨h.cells,h.lowb,h.lowa,h.lown,h.lowm,h.an,h.amm,h.nmm,hf.freshOr hY,h.alike,h.need,h.names,h.row,h.sep,h.free,h.needed,h.same,h.found,h.few⟩
 ·have hk2:(S.val o).ownBlock = some k:=by cases o <;> exact hk
  rcases hx with hx | hx
  ·exact h4 o k hk2 (by rw [h2]; exact hx)
  ·have:=((h.row o).lt k hk2).2
   have:=hY k hx
   omega
theorem InBk.less {w:World}{base bb n:Nat}{fs:Facts}{X:Nat->Prop}(h:InBk w base bb fs n X)(Y:Nat->Prop)(hY:∀ k,Y k->X k):InBk w base bb fs n Y:=by
 obtain⟨n',h1,S,h2,h,h4⟩:=h;refine⟨n',h1,{ S with X:=Y },rfl,?_,λo k hk hx=>?_⟩
 ·have hf:=h.facts
  rw [h2] at hf;exact⟨h.cells,h.lowb,h.lowa,h.lown,h.lowm,h.an,h.amm,h.nmm,hf.less hY,h.alike,h.need,h.names,h.row,h.sep,h.free,h.needed,h.same,h.found,h.few⟩
 ·have hk2:(S.val o).ownBlock = some k:=by cases o <;> exact hk
  exact h4 o k hk2 (by rw [h2]; exact hY k hx)
theorem inBk_of {w:World}{base bb n:Nat}{fs:Facts}(h:InBook w base bb fs n):InBk w base bb fs n (λ_=>False):=by
 obtain⟨n',h1,S,h3⟩:=h;exact⟨n',h1,{ S with X:=λ_=>False },rfl,h3.fresh _ (λ_ h=>h.elim),λ_ _ _ h=>h⟩
theorem BkFr.put {base:Nat}{X:Nat->Prop}{w w':World}(h:BkFr base X w w')(hb:base<=w.heap.size)(g:Nat)(hg:w.heap.size<=g)(cs:Array Value):BkFr base X w (w'.setRow g cs):=
 ⟨h.old.put hb g hg cs,λk xs fr hx r=>by
  rw [setRow_other w' g k cs (λe=>by have:=lt_of_block r; omega)]
  exact h.ints k xs fr hx r⟩
theorem BkFr.high {base:Nat}{X:Nat->Prop}{w0 w w':World}{row:Option Nat}(h:BkFr base X w0 w)(hb:base<=w0.heap.size)(hg:w.grownBy w' row)(hr:∀ k,row = some k->w0.heap.size<=k):BkFr base X w0 w':=
 ⟨h.old.high hb hg hr,λk cs fr hx hh=>by
  have h1:=lt_of_block hh;rw [hg.block k (by have:=h.kept.size; omega) (λe=>by have:=hr k e.symm; omega)]
  exact h.ints k cs fr hx hh⟩
theorem BkFr.base {base:Nat}{X:Nat->Prop}{w w':World}(h:BkFr base X w w')(hb:base<=w.heap.size):base<=w'.heap.size:=Nat.le_trans hb h.kept.size
theorem qnote_bookX (base bb n:Nat)(fs:Facts)(X:Nat->Prop)(k:List UInt8)(hk:Hid (k.length = 32))(b:Value)(O:List (List UInt8))(w:World)(hB:InBk w base bb fs n X)(hbase:base<=w.heap.size)(hX:∀ k,X k->k < w.heap.size)(hm:Mild fs n)(ho:O.length < 1000000)(hb:Hs w b O)(hwh:Whole b):
  Calls Try.prog 106 #[.pointer (some ⟨bb,0,none⟩),.agg (bcells k).toArray,b] w λe w'=>e = .returned (.tuple #[])/\InBk w' base bb (Bk.note fs ([k],O)) (n + 3) X/\BkFr base X w w':=by
 have hku:=keyInfo hk.out;have hk1:(bcells k).toArray.size = 32:=by rw [List.size_toArray,bcells_length,hk.out]
 have hN:∀ w2:World,Kept w.heap.size w.heap.size w w2->w2.heap[w.heap.size + 1]? = some (.cells (bcells k).toArray 26 (0,0))->Calls Try.prog 67 #[.pointer (some ⟨bb,0,none⟩),.agg #[.slice (some ⟨w.heap.size + 1,0,none⟩) 1 1,b]] w2 λe w'=>(∃ n,e = .returned (.int .i64 n))/\InBk w' base bb (Bk.note fs ([k],O)) (n + 3) X/\BkFr base X w2 w':=λw2 kk h2=>by
  obtain⟨n',h1,S,h3,h4,hrx⟩:=hB;obtain⟨m1,m2,m3⟩:=hm;refine(note_callsX base bb n' fs (λ_=>none) S ([k],O) _ b w2 (h4.kept kk) hrx (Nat.le_trans hbase kk.size) (hs_one hk.out h2) (hb.kept kk) (λ_ _ e=>by cases e) hwh (λw' hf=>hs_one hk.out (hf.row h2)) (by omega) m2 m3 (by show 1 < _; decide) ho (by rw [h3]; exact λi hi=>Nat.lt_of_lt_of_le (hX i hi) kk.size)).mono ?_
  rintro e w' ⟨rfl,⟨n2,hn2,S2,hS2,hB2,hr2⟩,hf⟩;refine⟨⟨_,rfl⟩,⟨n2,?_,S2,hS2.trans h3,hB2,hr2⟩,by rw [h3] at hf; exact hf⟩
  have:n2<=n' + 1 + 2:=hn2
  omega
 have HBASE:=hid hbase;obtain⟨zp1,bad,bg,bo,bc,rfl,zp2⟩:=id hb;clear zp1 zp2 hb hwh hB hX hm ho hbase;generalize hkc:(bcells k).toArray = kc at hku hk1 hN;have HKI:=hid hku;have HK32:=hid hk1;have HN:=hid hN;clear hkc hku hk1 hN;obtain⟨i0,z0,hi0,hz0,hzs0,hs0,hb0⟩:=hash_info;have HI0:=hid hi0;have HZ0:=hid hz0;have HS0:=hid hs0;clear hi0 hz0 hzs0 hs0 hb0
 go_enter Try.func106,Try.ntmps106
 go_upto_region 1 with fail
 have hP:(w.alloc (.cells kc 26)).heap[w.heap.size]? = some (.cells kc 26 (0,0)):=heap_new _ _
 have k1:Kept w.heap.size w.heap.size w (w.alloc (.cells kc 26)):=(Kept.refl _ _ _).alloc (Nat.le_refl _) _
 have s1:(w.alloc (.cells kc 26)).heap.size = w.heap.size + 1:=by simp
 generalize w.alloc (.cells kc 26) = w1 at hP k1 s1 |-
 have HP:=hid hP;have HK1:=hid k1;have HS1:=hid s1;obtain⟨wa,hwa⟩:∃ wa,wa = w.heap.size:=⟨_,rfl⟩;rw [<- hwa];have HWA:=hid hwa;clear hP k1 s1 hwa;refine wp_region_lit ?_;refine wW λK hK=>?_;go_simp;apply hK;clear hK K;refine wpList_load_row_g ?hwa1 26 _ rfl (wa) rfl 26 kc (0,0) _ (by rw [HWA.out]; exact HP.out) Try.underlying26 rfl HKI.out ?_
 case hwa1=>kernel_rfl
 simp only [Act.put,sA,sB,sC];refine wpList_build_one_g ?hwa2 _ 23 26 rfl i0 z0 Try.underlying23 HI0.out HZ0.out kc rfl (by rw [HS0.out]; exact HK32.out) (by rw [HS0.out]; decide) (by rw [HS0.out]; decide) ?_
 case hwa2=>kernel_rfl
 simp only [Act.put,sA,sB,sC];have kA:Kept w.heap.size w.heap.size w (w1.alloc (.cells kc 26)):=HK1.out.alloc HK1.out.size _
 have hA:(w1.alloc (.cells kc 26)).heap[w.heap.size + 1]? = some (.cells kc 26 (0,0)):=by rw [<- HS1.out]; exact heap_new _ _
 have HNN:=hid (HN.out _ kA hA);have hw1:=HS1.out;rw [<- HWA.out] at hw1 HNN;rw [hw1];clear hw1;generalize w1.alloc (.cells kc 26) = w3 at kA HNN |-
 have KA:=hid kA;clear kA hA;iterate 2 (refine wW λK hK=>?_;go_simp;apply hK;clear hK K)
 refine wW λK hK=>?_;go_simp;go_at_call 67; refine HNN.out.mono ?_; rintro e w4 ⟨⟨n4,rfl⟩,q4,f4⟩
 apply hK;clear hK K;go_wp2
 go_end0
 exact⟨rfl,q4,(BkFr.ofKept HBASE.out KA.out).trans f4⟩
theorem key_bookX (base bb n:Nat)(fs:Facts)(X:Nat->Prop)(s:Sd)(bits:Nat)(hs:Pp.In bits s)(w:World)(hB:InBk w base bb fs n X)(hbase:base<=w.heap.size)(hX:∀ k,X k->k < w.heap.size)(hm:Mild fs n):Calls Try.prog 87 #[.agg (Pp.cells s).toArray,.pointer (some ⟨bb,0,none⟩)] w λe w'=>e = .returned (.agg (bcells (Pp.key s.self)).toArray)/\InBk w' base bb (Bk.note fs ([s.self],[Pp.key s.self])) (n + 3) X/\BkFr base X w w':=by
 have hBW:∀ w2,Kept w.heap.size w.heap.size w w2->InBk w2 base bb fs n (λi=>X i\/i = w.heap.size + 1):=λw2 kk=>(hB.freshOr (λi=>i = w.heap.size + 1) (λi hi=>by omega)).kept kk
 have hk:=hs.2.2;have hku:=keyInfo hk;have hD0:∀ w:World,(w.alloc (.cells (Pp.cells s).toArray 101)).rangeAt w.heap.size 2 (bcells s.self):=λw=>seed_self (o:=0) (by simpa using row_range (heap_new w (.cells (Pp.cells s).toArray 101)))
 generalize (Pp.cells s).toArray = D at hD0 |-;generalize s.self = k at hk hku hD0 |-;clear hs;have hdv:=λw=>sum_two ⟨#[107,101,121]⟩ (str k) w (by decide) (by rw [str_size,hk]; decide)
 rw [show Sm.sum ((⟨#[107,101,121]⟩:ByteArray).data.toList ++ (str k).data.toList) = Pp.key k from rfl] at hdv;have hdl:(Pp.key k).length = 32:=sum_length _;have hqn:=λ(X:Nat->Prop) (b:Value) (w2:World) (hI:InBk w2 base bb fs n X) (h1:base<=w2.heap.size) (h2:∀ k,X k->k < w2.heap.size) (hb:Hs w2 b [Pp.key k]) (hw:Whole b)=>qnote_bookX base bb n fs X k (hid hk) b [Pp.key k] w2 hI h1 h2 hm (by show 1 < _; decide) hb hw
 generalize Pp.key k = m at hdv hdl hqn |-;obtain⟨fs2,hfs2⟩:∃ t,t = Bk.note fs ([k],[m]):=⟨_,rfl⟩;rw [<- hfs2] at hqn |-;have hiu:=keyInfo (l:=m) (hdl);have hzu:=keySize (l:=m) (hdl);have hcs:(bcells m).toArray.size = 32:=by rw [List.size_toArray,bcells_length,hdl]
 have hall:=bcells_all m;have hqm:∀ (w2:World) (g wb:Nat),InBk w2 base bb fs n (λi=>X i\/i = wb)->base<=w2.heap.size->w.heap.size<=w2.heap.size->wb < w2.heap.size->w2.heap[g]? = some (.cells (bcells m).toArray 26 (0,0))->Calls Try.prog 106 #[.pointer (some ⟨bb,0,none⟩),.agg (bcells k).toArray,.slice (some ⟨g,0,none⟩) 1 1] w2 λe w'=>e = .returned (.tuple #[])/\InBk w' base bb fs2 (n + 3) (λi=>X i\/i = wb)/\BkFr base X w2 w':=λw2 g wb hI h1 h9 h2 h=>hqn (λi=>X i\/i = wb) _ w2 hI h1 (λi hi=>hi.elim (λhi=>Nat.lt_of_lt_of_le (hX i hi) h9) (λhi=>by rw [hi]; exact h2)) (hs_one hdl h) (λ_ _ e=>by cases e) |>.mono λ_ _ h=>⟨h.1,h.2.1,h.2.2.less (λ_ h=>.inl h)⟩
 have hcA:∀ (w2:World) (g:Nat),w2.rangeAt g 2 (bcells k)->(convert 45 9 (.slice (some ⟨g,2,none⟩) 32 32)).run Try.prog w2 = .ok (.string (str k)) w2:=λw2 g h=>by
  have:=conv_self h 32
  rwa [hk] at this
 have hld:∀ (w2:World) (g:Nat),w2.rangeAt g 2 (bcells k)->(loadVar 26 ⟨g,2,none⟩).run Try.prog w2 = .ok (.agg (bcells k).toArray) w2:=λw2 g h=>run_loadVar_mid w2 g 2 26 (bcells k) _ h Try.underlying26 rfl (by rw [hku]; simp)
 have HBW:=hid hBW;have HBASE:=hid hbase;clear hqn hBW hB hbase hX hm hfs2;generalize hcu:(bcells m).toArray = cu at hiu hzu hcs hall hdv hqm |-;generalize hkc:(bcells k).toArray = kc at hqm hld;generalize hmc:bcells k = M at hD0 hcA hld;generalize str k = sk at hcA hdv;have HIU:=hid hiu;have HZU:=hid hzu;have HALL:=hid hall;have Hcs:=hid hcs;have HDV:=hid hdv;have HQM:=hid hqm;have HLD:=hid hld;have HD0:=hid hD0;have HCA:=hid hcA;clear hiu hzu hall hcs hcu hkc hmc hdv hqm hcA hld hD0 hku hk hdl;obtain⟨i0,z0,hi0,hz0,hzs0,hs0,hb0⟩:=hash_info;have HI0:=hid hi0;have HZ0:=hid hz0;have HS0:=hid hs0;clear hi0 hz0 hzs0 hs0 hb0
 go_enter Try.func87,Try.ntmps87
 go_upto_region 1 with fail
 rw [zeros32_eq];have hR:((w.alloc (.cells D 101)).alloc (.cells zeros32 26)).heap[w.heap.size + 1]? = some (.cells zeros32 26 (0,0)):=heap_alloc2_last w _ _
 have k1:Kept w.heap.size w.heap.size w ((w.alloc (.cells D 101)).alloc (.cells zeros32 26)):=((Kept.refl _ _ _).alloc (Nat.le_refl _) _).alloc (by simp) _
 have s1:((w.alloc (.cells D 101)).alloc (.cells zeros32 26)).heap.size = w.heap.size + 2:=by simp
 have hM:((w.alloc (.cells D 101)).alloc (.cells zeros32 26)).rangeAt w.heap.size 2 M:=by
  have hz:w.heap.size < (w.alloc (.cells D 101)).heap.size:=by simp
  exact rangeAt_kept ((Kept.refl _ _ _).alloc (Nat.le_refl _) _) (HD0.out w) hz (Nat.ne_of_lt hz)
 generalize (w.alloc (.cells D 101)).alloc (.cells zeros32 26) = w1 at hR k1 s1 hM |-
 obtain⟨wa,hwa⟩:∃ wa,wa = w.heap.size:=⟨_,rfl⟩;rw [<- hwa] at hR k1 s1 hM |-;have hrow:∀ w',Kept w1.heap.size w1.heap.size w1 w'->w'.heap[wa + 1]? = some (.cells zeros32 26 (0,0)):=λw' kk=>(kk.block (wa + 1) (by omega) (by omega)).trans hR
 have hmid:∀ w',Kept w1.heap.size w1.heap.size w1 w'->w'.rangeAt wa 2 M:=λw' kk=>rangeAt_kept kk hM (by omega) (by omega)
 have cA:=HCA.out w1 wa hM;have HROW:=hid hrow;have HMID:=hid hmid;have HK1:=hid k1;have HS1:=hid s1;have HWA:=hid hwa;clear hR k1 s1 hM hrow hmid hwa;refine wp_region_lit ?_;iterate 4 (refine wW λK hK=>?_;go_simp;apply hK;clear hK K)
 refine wW λK hK=>?_;go_simp;go_at_call 43; refine(HDV.out _).mono ?_; rintro e w3 ⟨rfl,k3⟩
 apply hK;clear hK K;have k3':Kept w1.heap.size w1.heap.size w1 w3:=((Kept.refl _ _ _).alloc (Nat.le_refl _) _).trans (k3.mono (Nat.le_succ _) (λi hi _=>by omega))
 refine wpList_alloc_k rfl 26 rfl (alloc_zero _) ?_
 simp only [Act.put,sA,sB,sC];refine wpList_store_row rfl 26 _ _ rfl (w3.heap.size) cu rfl rfl 26 zeros32 (heap_new _ _) HIU.out HZU.out HALL.out ?_
 simp only [Act.put];have K4:Kept w1.heap.size w1.heap.size w1 (w3.alloc (.cells zeros32 26)):=k3'.alloc k3'.size _
 have K5:Kept w1.heap.size w1.heap.size w1 ((w3.alloc (.cells zeros32 26)).setRow w3.heap.size cu):=Kept.ofBelow (below_setRow (K4.below (Nat.le_refl _) (Nat.le_refl _)) k3'.size cu) (Nat.le_refl _)
 have r5:=setRow_heap (w3.alloc (.cells zeros32 26)) w3.heap.size zeros32 cu _ _ (heap_new _ _)
 generalize (w3.alloc (.cells zeros32 26)).setRow w3.heap.size cu = w5 at K5 r5 |-
 have hwm:w1.heap.size<=w3.heap.size:=k3'.size;generalize w3.heap.size = wm at r5 hwm |-;clear K4 k3' k3 cA;have R5:=hid r5;have HK5:=hid K5;have HL5:=hid (HLD.out w5 wa (HMID.out w5 K5));clear r5 K5
 go_upto_region 2 with fail
 refine wp_region_lit ?_;iterate 2 (refine wW λK hK=>?_;go_simp;apply hK;clear hK K)
 refine wpList_load_known ?hwb2 26 _ rfl wa 2 rfl (.agg kc) HL5.out ?_
 case hwb2=>kernel_rfl
 simp only [Act.put,sA,sB,sC];refine wpList_load_row_g ?hwb3 26 _ rfl (wm) rfl 26 cu (0,0) _ (R5.out) Try.underlying26 rfl HIU.out ?_
 case hwb3=>kernel_rfl
 simp only [Act.put,sA,sB,sC];refine wpList_build_one_g ?hwb4 _ 23 26 rfl i0 z0 Try.underlying23 HI0.out HZ0.out cu rfl (by rw [HS0.out]; exact Hcs.out) (by rw [HS0.out]; decide) (by rw [HS0.out]; decide) ?_
 case hwb4=>kernel_rfl
 simp only [Act.put,sA,sB,sC];have k6:Kept w1.heap.size w1.heap.size w1 (w5.alloc (.cells cu 26)):=HK5.out.alloc HK5.out.size _
 have h6:(w5.alloc (.cells cu 26)).heap[w5.heap.size]? = some (.cells cu 26 (0,0)):=heap_new _ _
 have r6:(w5.alloc (.cells cu 26)).heap[wm]? = some (.cells cu 26 (0,0)):=by rw [Below.heap_alloc _ _ _ (lt_of_block R5.out)]; exact R5.out
 generalize w5.alloc (.cells cu 26) = w6 at k6 h6 r6 |-
 have kW6:Kept w.heap.size w.heap.size w w6:=by
  have e1:=HWA.out;have e2:=HS1.out;rw [<- e1];exact HK1.out.trans (k6.mono (by omega) (λk hk _=>by omega))
 have z6:=HROW.out w6 k6;have b6:=HBW.out w6 kW6;rw [<- HWA.out] at b6;have HQ:=hid (HQM.out w6 w5.heap.size (wa + 1) b6 (Nat.le_trans HBASE.out kW6.size) kW6.size (lt_of_block z6) h6);have KW6:=hid kW6;have Z6:=hid z6;clear kW6 b6 z6;generalize w5.heap.size = g5 at HQ |-;have K6:=hid k6;have R6:=hid r6;clear k6 h6 r6;refine wW λK hK=>?_;go_simp;go_at_call 106; refine HQ.out.mono ?_; rintro e w8 ⟨rfl,q8,f8⟩
 apply hK;clear hK K;have F8:=hid ((BkFr.ofKept HBASE.out KW6.out).trans f8);have R8:=hid (f8.row R6.out);have Z8:=hid (f8.row Z6.out);have B8:=hid q8;clear q8 f8
 go_upto_region 3 with fail
 refine wp_region_lit ?_;refine wpList_load_row_g ?hwl1 26 _ rfl (wm) rfl 26 cu (0,0) _ (R8.out) Try.underlying26 rfl HIU.out ?_
 case hwl1=>kernel_rfl
 simp only [Act.put,sA,sB,sC];refine wpList_store_row rfl 26 _ _ rfl (wa + 1) cu rfl rfl 26 zeros32 (Z8.out) HIU.out HZU.out HALL.out ?_
 simp only [Act.put];have t2:=setRow_heap w8 (wa + 1) zeros32 cu _ _ (Z8.out);have t1:BkFr base X w (w8.setRow (wa + 1) cu):=F8.out.put HBASE.out (wa + 1) (by have:=HWA.out; omega) cu
 have b9:InBk (w8.setRow (wa + 1) cu) base bb fs2 (n + 3) X:=(B8.out.put (wa + 1) (.inr rfl) zeros32 cu (0,0) Z8.out).less X (λk hk=>.inl hk)
 have hiu:=HIU.out
 go_wp2_with fail
 refine bodyPost_ret (results_cell_row rfl _ _ (wa + 1) 26 cu (0,0) _ rfl t2 Try.underlying26 rfl hiu) rfl ?_
 exact⟨rfl,b9,t1⟩
theorem below_bookX (base bb n:Nat)(fs:Facts)(X:Nat->Prop)(bits:Nat)(hb:bits<=32)(s:Sd)(hs:Pp.In bits s)(hl:s.level < bits)(w:World)(hB:InBk w base bb fs n X)(hbase:base<=w.heap.size)(hX:∀ k,X k->k < w.heap.size)(hm:Mild fs n):Calls Try.prog 85 #[.agg (Pp.cells s).toArray,.pointer (some ⟨bb,0,none⟩)] w λe w'=>e = .returned (.tuple #[.agg (Pp.cells (Pp.left s)).toArray,.agg (Pp.cells (Pp.right s)).toArray])/\InBk w' base bb (Bk.note fs ([s.self],[(Pp.left s).self,(Pp.right s).self])) (n + 3) X/\BkFr base X w w':=by
 obtain⟨fs2,hfs2⟩:∃ t,t = Bk.note fs ([s.self],[(Pp.left s).self,(Pp.right s).self]):=⟨_,rfl⟩;rw [<- hfs2];have HBB:=hid hB;have HBASE:=hid hbase;have HMI:=hid hm;have HFS2:=hid hfs2;have HXW:=hid (λ(w2:World) (h:w.heap.size<=w2.heap.size) (i:Nat) (hi:X i)=>Nat.lt_of_lt_of_le (hX i hi) h)
 clear hB hbase hm hfs2 hX;obtain⟨lev,pl,k⟩:=s;have h32:2 ^ lev<=2 ^ 32:=Nat.pow_le_pow_right (by decide) (Nat.le_trans hs.1 hb)
 have hpl:pl < 4294967296:=Nat.lt_of_lt_of_le hs.2.1 h32;have hlv:lev < 32:=Nat.lt_of_lt_of_le hl hb;have hk:k.length = 32:=hs.2.2
 have hl1:IntKind.i64.wrap ((lev:Int) + 1) = ((lev + 1:Nat):Int):=by
  rw [IntKind.wrap_i64]
  omega
 have hp1:IntKind.i64.wrap (2 * (pl:Int)) = ((2 * pl:Nat):Int):=by
  rw [IntKind.wrap_i64]
  omega
 have hp2:IntKind.i64.wrap (((2 * pl:Nat):Int) + 1) = ((2 * pl + 1:Nat):Int):=by
  rw [IntKind.wrap_i64]
  omega
 have hku:=keyInfo hk;have hcells:∀ w:World,(w.alloc (.cells (Pp.cells ⟨lev,pl,k⟩).toArray 101)).rangeAt w.heap.size 0 (Pp.cells ⟨lev,pl,k⟩):=λw=>by simpa using row_range (heap_new w (.cells (Pp.cells ⟨lev,pl,k⟩).toArray 101))
 have hb1:∀ w:World,(Instr.build 101 #[(0,.int .i64 ((lev + 1:Nat):Int)),(1,.int .i64 ((2 * pl:Nat):Int)),(2,.agg (bcells (Pp.left ⟨lev,pl,k⟩).self).toArray)]).run Try.prog w = .ok (.agg (Pp.cells (Pp.left ⟨lev,pl,k⟩)).toArray) w:=λw=>build_seed w _ _ ⟨_,rfl⟩ ⟨_,rfl⟩ _ (sum_length _)
 have hb2:∀ w:World,(Instr.build 101 #[(0,.int .i64 ((lev + 1:Nat):Int)),(1,.int .i64 ((2 * pl + 1:Nat):Int)),(2,.agg (bcells (Pp.right ⟨lev,pl,k⟩).self).toArray)]).run Try.prog w = .ok (.agg (Pp.cells (Pp.right ⟨lev,pl,k⟩)).toArray) w:=λw=>build_seed w _ _ ⟨_,rfl⟩ ⟨_,rfl⟩ _ (sum_length _)
 have hd1:=λw=>sum_two ⟨#[108,101,102,116]⟩ (str k) w (by decide) (by rw [str_size,hk]; decide)
 rw [show Sm.sum ((⟨#[108,101,102,116]⟩:ByteArray).data.toList ++ (str k).data.toList) = (Pp.left ⟨lev,pl,k⟩).self from rfl] at hd1;have hd2:=λw=>sum_two ⟨#[114,105,103,104,116]⟩ (str k) w (by decide) (by rw [str_size,hk]; decide)
 rw [show Sm.sum ((⟨#[114,105,103,104,116]⟩:ByteArray).data.toList ++ (str k).data.toList) = (Pp.right ⟨lev,pl,k⟩).self from rfl] at hd2;have hm1:(Pp.left ⟨lev,pl,k⟩).self.length = 32:=sum_length _;have hm2:(Pp.right ⟨lev,pl,k⟩).self.length = 32:=sum_length _;have hi1:=Pp.left_in hs hl;have hi2:=Pp.right_in hs hl;have hu1:=keyInfo hm1;have hu2:=keyInfo hm2;have hz1:(bcells (Pp.left ⟨lev,pl,k⟩).self).toArray.size = 32:=by rw [List.size_toArray,bcells_length,hm1]
 have hz2:(bcells (Pp.right ⟨lev,pl,k⟩).self).toArray.size = 32:=by rw [List.size_toArray,bcells_length,hm2]
 have hqn:∀ (w2:World) (g:Nat),InBk w2 base bb fs n X->base<=w2.heap.size->w.heap.size<=w2.heap.size->w2.heap[g]? = some (.cells (bcells (Pp.left ⟨lev,pl,k⟩).self ++ bcells (Pp.right ⟨lev,pl,k⟩).self).toArray 26 (0,0))->Calls Try.prog 106 #[.pointer (some ⟨bb,0,none⟩),.agg (bcells k).toArray,.slice (some ⟨g,0,none⟩) 2 2] w2 λe w'=>e = .returned (.tuple #[])/\InBk w' base bb fs2 (n + 3) X/\BkFr base X w2 w':=λw2 g hI h1 h9 h=>by
  rw [HFS2.out];exact qnote_bookX base bb n fs X k (hid hk) _ [(Pp.left ⟨lev,pl,k⟩).self,(Pp.right ⟨lev,pl,k⟩).self] w2 hI h1 (HXW.out w2 h9) HMI.out (by show 2 < _; decide) (hs_two hm1 hm2 h) (λ_ _ e=>by cases e)
 clear HFS2;have hsi1:(Try.prog.info? 101).map (·.size) = some (Pp.cells (Pp.left ⟨lev,pl,k⟩)).toArray.size:=by rw [seedInfo,List.size_toArray,Pp.cells_length hi1]
 have hsi2:(Try.prog.info? 101).map (·.size) = some (Pp.cells (Pp.right ⟨lev,pl,k⟩)).toArray.size:=by rw [seedInfo,List.size_toArray,Pp.cells_length hi2]
 have hsz1:zeros34.size = (Pp.cells (Pp.left ⟨lev,pl,k⟩)).toArray.size:=by rw [zeros34_size,List.size_toArray,Pp.cells_length hi1]
 have hsz2:zeros34.size = (Pp.cells (Pp.right ⟨lev,pl,k⟩)).toArray.size:=by rw [zeros34_size,List.size_toArray,Pp.cells_length hi2]
 have hone:∀ (x:Sd),(Pp.cells x).toArray.all (·.oneCell') = true:=λx=>cells_all x
 have ha1:=hone (Pp.left ⟨lev,pl,k⟩);have ha2:=hone (Pp.right ⟨lev,pl,k⟩);have hr1:∀ (w2:World) (g:Nat),w2.heap[g]? = some (.cells (Pp.cells (Pp.left ⟨lev,pl,k⟩)).toArray 101 (0,0))->(loadVar 26 ⟨g,2,none⟩).run Try.prog w2 = .ok (.agg (bcells (Pp.left ⟨lev,pl,k⟩).self).toArray) w2:=λw2 g h=>load_self hm1 (by simpa using row_range h)
 have hr2:∀ (w2:World) (g:Nat),w2.heap[g]? = some (.cells (Pp.cells (Pp.right ⟨lev,pl,k⟩)).toArray 101 (0,0))->(loadVar 26 ⟨g,2,none⟩).run Try.prog w2 = .ok (.agg (bcells (Pp.right ⟨lev,pl,k⟩).self).toArray) w2:=λw2 g h=>load_self hm2 (by simpa using row_range h)
 have hcA:∀ (w2:World) (g:Nat),w2.rangeAt g 2 (bcells k)->(convert 45 9 (.slice (some ⟨g,2,none⟩) 32 32)).run Try.prog w2 = .ok (.string (str k)) w2:=λw2 g h=>by
  have:=conv_self h 32
  rwa [hk] at this
 have hc0:∀ (w2:World) (g:Nat),w2.rangeAt g 0 (Pp.cells ⟨lev,pl,k⟩)->w2.cell? ⟨g,0,none⟩ = some (.int .i64 (lev:Int))/\w2.cell? ⟨g,1,none⟩ = some (.int .i64 (pl:Int))/\w2.rangeAt g 2 (bcells k)/\(loadVar 26 ⟨g,2,none⟩).run Try.prog w2 = .ok (.agg (bcells k).toArray) w2:=λw2 g h=>
  ⟨by simpa using h 0 _ rfl,by simpa using h 1 _ rfl,seed_self h,load_self hk h⟩
 generalize (Pp.cells (Pp.left ⟨lev,pl,k⟩)).toArray = D1 at *;generalize (Pp.cells (Pp.right ⟨lev,pl,k⟩)).toArray = D2 at *;generalize hD:(Pp.cells ⟨lev,pl,k⟩).toArray = D at *;generalize Pp.cells ⟨lev,pl,k⟩ = DL at *;generalize (Pp.left ⟨lev,pl,k⟩).self = m1 at *;generalize (Pp.right ⟨lev,pl,k⟩).self = m2 at *;generalize hmm:(bcells m1 ++ bcells m2).toArray = M12 at *;have hmm':M12 = (bcells m1).toArray ++ (bcells m2).toArray:=by rw [<- hmm]; simp
 generalize (bcells m1).toArray = c1 at *;generalize (bcells m2).toArray = c2 at *;generalize (bcells k).toArray = kc at *;generalize bcells k = kl at *;generalize str k = sk at *;have HL1:=hid hl1;have HP1:=hid hp1;have HP2:=hid hp2;have HB1:=hid hb1;have HB2:=hid hb2;have HD1:=hid hd1;have HD2:=hid hd2;have HU1:=hid hu1;have HU2:=hid hu2;have HZ1:=hid hz1;have HZ2:=hid hz2;have HQN:=hid hqn;have HI1:=hid hsi1;have HI2:=hid hsi2;have HY1:=hid hsz1;have HY2:=hid hsz2;have HA1:=hid ha1;have HA2:=hid ha2;have HR1:=hid hr1;have HR2:=hid hr2;have HCA:=hid hcA;have HC0:=hid hc0;have HCE:=hid hcells;have HMM:=hid hmm';clear hl1 hp1 hp2 hb1 hb2 hd1 hd2 hu1 hu2 hz1 hz2 hqn hsi1 hsi2 hsz1 hsz2 ha1 ha2 hr1 hr2 hcA hc0 hcells hmm hmm' hD hone hi1 hi2 hm1 hm2 hku hk hpl hlv h32 hs hl hb;obtain⟨i0,z0,hi0,hz0,hzs0,hs0,hb0⟩:=hash_info;have HI0:=hid hi0;have HZ0:=hid hz0;have HS0:=hid hs0;clear hi0 hz0 hzs0 hs0 hb0
 go_enter Try.func85,Try.ntmps85
 go_upto_region 0 with fail
 refine wp_region_lit ?_;refine wW λK hK=>?_;go_simp;apply hK;clear hK K;refine wpList_alloc_k rfl 101 rfl (alloc_seed _) ?_
 simp only [Act.put,sA,sB,sC];refine wpList_alloc_k rfl 101 rfl (alloc_seed _) ?_
 simp only [Act.put,sA,sB,sC];have hc:((w.alloc (.cells D 101)).alloc (.cells zeros34 101)).alloc (.cells zeros34 101) = ((w.alloc (.cells D 101)).alloc (.cells zeros34 101)).alloc (.cells zeros34 101):=rfl
 have e1:(w.alloc (.cells D 101)).heap.size = w.heap.size + 1:=by simp
 have e2:((w.alloc (.cells D 101)).alloc (.cells zeros34 101)).heap.size = w.heap.size + 2:=by simp
 have e3:(((w.alloc (.cells D 101)).alloc (.cells zeros34 101)).alloc (.cells zeros34 101)).heap.size = w.heap.size + 3:=by simp
 have r1:(((w.alloc (.cells D 101)).alloc (.cells zeros34 101)).alloc (.cells zeros34 101)).heap[w.heap.size + 1]? = some (.cells zeros34 101 (0,0)):=by
  rw [Below.heap_alloc _ _ _ (by rw [e2]; omega)]
  exact heap_alloc2_last w _ _
 have r2:(((w.alloc (.cells D 101)).alloc (.cells zeros34 101)).alloc (.cells zeros34 101)).heap[w.heap.size + 2]? = some (.cells zeros34 101 (0,0)):=by
  have:=heap_new ((w.alloc (.cells D 101)).alloc (.cells zeros34 101)) (.cells zeros34 101)
  rwa [e2] at this
 have k1:Kept w.heap.size w.heap.size w (((w.alloc (.cells D 101)).alloc (.cells zeros34 101)).alloc (.cells zeros34 101)):=(((Kept.refl _ _ _).alloc (Nat.le_refl _) _).alloc (by simp) _).alloc (by rw [e2]; omega) _
 have hM:(((w.alloc (.cells D 101)).alloc (.cells zeros34 101)).alloc (.cells zeros34 101)).rangeAt w.heap.size 0 DL:=by
  have hz:w.heap.size < (w.alloc (.cells D 101)).heap.size:=by simp
  exact rangeAt_kept (((Kept.refl _ _ _).alloc (Nat.le_refl _) _).alloc (by simp) _) (HCE.out w) hz (Nat.ne_of_lt hz)
 clear hc
 try rw [e1]
 try rw [e2]
 clear e1 e2;generalize ((w.alloc (.cells D 101)).alloc (.cells zeros34 101)).alloc (.cells zeros34 101) = w1 at e3 r1 r2 k1 hM |-
 obtain⟨wa,hwa⟩:∃ wa,wa = w.heap.size:=⟨_,rfl⟩;rw [<- hwa] at e3 r1 r2 k1 hM |-
 have hcl:∀ w',Kept (wa + 1) (wa + 1) w1 w'->w'.cell? ⟨wa,0,none⟩ = some (.int .i64 (lev:Int))/\w'.cell? ⟨wa,1,none⟩ = some (.int .i64 (pl:Int)):=λw' kk=>by
  have h:=HC0.out w' wa (rangeAt_kept kk hM (by omega) (by omega))
  exact⟨h.1,h.2.1⟩
 have hls:∀ w',Kept (wa + 1) (wa + 1) w1 w'->(loadVar 26 ⟨wa,2,none⟩).run Try.prog w' = .ok (.agg kc) w':=λw' kk=>(HC0.out w' wa (rangeAt_kept kk hM (by omega) (by omega))).2.2.2
 have cA:=HCA.out w1 wa (HC0.out w1 wa hM).2.2.1;have HCL:=hid hcl;have HLS:=hid hls;have HK1:=hid k1;have HSZ:=hid e3;have HWA:=hid hwa;have HRL:=hid r1;have HRR:=hid r2;clear hcl hls k1 e3 hwa r1 r2 hM
 go_upto_region 1 with fail
 refine wp_region_lit ?_;iterate 4 (refine wW λK hK=>?_;go_simp;apply hK;clear hK K)
 clear cA;have HKw1:=hid (Kept.refl (wa + 1) (wa + 1) w1)
 go_upto_region 2 with fail
 refine wp_region_noPanic ?_;have hM:∀ w9,Kept w1.heap.size w1.heap.size w1 w9->Kept (wa + 1) (wa + 1) w1 w9:=λw9 kk=>HKw1.out.trans (kk.mono (by have:=HSZ.out; have:=HKw1.out.size; omega) (λi hi _=>by have:=HSZ.out; have:=HKw1.out.size; omega))
 have HM:=hid hM;clear hM;refine wp_region_held_drew (S:=λw9=>Kept (wa + 1) (wa + 1) w1 w9) (by kernel_rfl) (HM.out _ (Kept.refl _ _ _).drew) (λhH=>?_)
 have kD:Kept w1.heap.size w1.heap.size w1 w1.drew:=(Kept.refl _ _ _).drew;have hE:w1.drew.heap.size = w1.heap.size:=rfl;obtain⟨wd,hwd⟩:∃ wd,wd = w1.drew:=⟨_,rfl⟩;rw [<- hwd] at hH hE kD |-;clear hwd;have HE:=hid hE;clear hE;refine tkA (i:=0) 10 (.pointer (some ⟨wa,0,none⟩)) rfl (.inl ⟨by kernel_rfl,λw9 h9=>by go_simp⟩) hH ?_
 simp only [sA,sB,sC];refine tkA (i:=1) 11 (.int .i64 (lev:Int)) rfl (.inl ⟨by kernel_rfl,λw9 h9=>by obtain⟨c0,c1⟩:=HCL.out w9 h9; go_simp⟩) hH ?_
 simp only [sA,sB,sC];refine tkA (i:=2) 12 (.int .i64 ((lev + 1:Nat):Int)) rfl (.inl ⟨by kernel_rfl,λw9 h9=>by have hw:=HL1.out; go_simp⟩) hH ?_
 simp only [sA,sB,sC];refine tkA (i:=3) 13 (.pointer (some ⟨wa,1,none⟩)) rfl (.inl ⟨by kernel_rfl,λw9 h9=>by go_simp⟩) hH ?_
 simp only [sA,sB,sC];refine tkA (i:=4) 14 (.int .i64 (pl:Int)) rfl (.inl ⟨by kernel_rfl,λw9 h9=>by obtain⟨c0,c1⟩:=HCL.out w9 h9; go_simp⟩) hH ?_
 simp only [sA,sB,sC];refine tkA (i:=5) 15 (.int .i64 ((2 * pl:Nat):Int)) rfl (.inl ⟨by kernel_rfl,λw9 h9=>by have hw:=HP1.out; go_simp⟩) hH ?_
 simp only [sA,sB,sC];refine tkA (i:=6) 16 (.string sk) rfl (.inl ⟨by kernel_rfl,λw9 h9=>by go_simp⟩) hH ?_
 simp only [sA,sB,sC];refine wpAnyH_ready (rs:=[7]) (by kernel_rfl) (by simp) ?_
 refine AllReadyH.cons rfl (λK hK=>?_) AllReadyH.nil
 rw [if_pos (by rfl)]
 go_simp;have kA:Kept w1.heap.size w1.heap.size w1 (wd.alloc (.cells #[.string ⟨#[108,101,102,116]⟩,.string sk] 9)):=kD.alloc (by have:=HE.out; omega) _
 refine hK.out _ _ (HM.out _ kA) (λhH=>?_)
 clear hK K;refine wpAnyH_ready (rs:=[8]) (by kernel_rfl) (by simp) ?_
 refine AllReadyH.cons rfl (λK hK=>?_) AllReadyH.nil
 rw [if_pos (by rfl)]
 go_simp
 go_wp2_with (go_at_call 43; refine(HD1.out _).mono ?_; rintro e w3 ⟨rfl,k3⟩)
 have kB:Kept w1.heap.size w1.heap.size w1 w3:=kA.trans (k3.mono (by have:=HE.out; omega) (λi hi _=>by have:=HE.out; omega))
 refine hK.out _ _ (HM.out _ kB) (λhH=>?_)
 clear hK K k3 kA;refine wpAnyH_ready (rs:=[9]) (by kernel_rfl) (by simp) ?_
 refine AllReadyH.cons rfl (λK hK=>?_) AllReadyH.nil
 rw [if_pos (by rfl)]
 refine wp_build_three 101 _ _ _ rfl _ _ _ rfl rfl rfl (HB1.out _) ?_
 simp only [Act.put,List.setIfInBounds_toArray];refine hK.out _ _ (HM.out _ kB) (λhH=>?_)
 clear hK K;refine wpAnyH_ready (rs:=[10]) (by kernel_rfl) (by simp) ?_
 refine AllReadyH.cons rfl (λK hK=>?_) AllReadyH.nil
 rw [if_pos (by rfl)]
 have hz:w3.heap[wa + 1]? = some (.cells zeros34 101 (0,0)):=(kB.block _ (lt_of_block HRL.out) (Nat.ne_of_lt (lt_of_block HRL.out))).trans HRL.out
 refine wp_store_row 101 _ _ rfl (wa + 1) D1 rfl rfl 101 zeros34 hz HI1.out HY1.out HA1.out ?_
 simp only [Act.put];have kC:Kept (wa + 1) (wa + 1) w1 (w3.setRow (wa + 1) D1):=(HM.out _ kB).trans ⟨rfl,rfl,rfl,by simp [World.setRow],λk hk _=>setRow_other w3 (wa + 1) k D1 (by omega)⟩
 refine hK.out _ _ kC (λhH=>?_)
 clear hK K hH;refine wpAnyH_done (by kernel_rfl) ?_ _
 refine NoPanic.normal ?_;have rN:=setRow_heap w3 (wa + 1) zeros34 D1 _ _ hz;have oN:∀ k,k≠wa + 1->(w3.setRow (wa + 1) D1).heap[k]? = w3.heap[k]?:=λk hk=>setRow_other w3 (wa + 1) k D1 hk
 have zN:(w3.setRow (wa + 1) D1).heap[wa + 2]? = some (.cells zeros34 101 (0,0)):=(oN _ (by omega)).trans (rk HRR.out kB)
 generalize w3.setRow (wa + 1) D1 = w4 at kC rN zN |-;clear oN kB kD hz HE HM;have HKw4:=hid kC;have HRL':=hid rN;have HRR':=hid zN;clear HRL HRR kC rN zN;have HRL:=HRL';have HRR:=HRR';clear HRL' HRR'
 go_upto_region 3 with fail
 refine wp_region_noPanic ?_;have hM:∀ w9,Kept w4.heap.size w4.heap.size w4 w9->Kept (wa + 1) (wa + 1) w1 w9:=λw9 kk=>HKw4.out.trans (kk.mono (by have:=HSZ.out; have:=HKw4.out.size; omega) (λi hi _=>by have:=HSZ.out; have:=HKw4.out.size; omega))
 have HM:=hid hM;clear hM;refine wp_region_held_drew (S:=λw9=>Kept (wa + 1) (wa + 1) w1 w9) (by kernel_rfl) (HM.out _ (Kept.refl _ _ _).drew) (λhH=>?_)
 have kD:Kept w4.heap.size w4.heap.size w4 w4.drew:=(Kept.refl _ _ _).drew;have hE:w4.drew.heap.size = w4.heap.size:=rfl;obtain⟨wd,hwd⟩:∃ wd,wd = w4.drew:=⟨_,rfl⟩;rw [<- hwd] at hH hE kD |-;clear hwd;have HE:=hid hE;clear hE;refine tkA (i:=0) 20 (.pointer (some ⟨wa,0,none⟩)) rfl (.inl ⟨by kernel_rfl,λw9 h9=>by go_simp⟩) hH ?_
 simp only [sA,sB,sC];refine tkA (i:=1) 21 (.int .i64 (lev:Int)) rfl (.inl ⟨by kernel_rfl,λw9 h9=>by obtain⟨c0,c1⟩:=HCL.out w9 h9; go_simp⟩) hH ?_
 simp only [sA,sB,sC];refine tkA (i:=2) 22 (.int .i64 ((lev + 1:Nat):Int)) rfl (.inl ⟨by kernel_rfl,λw9 h9=>by have hw:=HL1.out; go_simp⟩) hH ?_
 simp only [sA,sB,sC];refine tkA (i:=3) 23 (.pointer (some ⟨wa,1,none⟩)) rfl (.inl ⟨by kernel_rfl,λw9 h9=>by go_simp⟩) hH ?_
 simp only [sA,sB,sC];refine tkA (i:=4) 24 (.int .i64 (pl:Int)) rfl (.inl ⟨by kernel_rfl,λw9 h9=>by obtain⟨c0,c1⟩:=HCL.out w9 h9; go_simp⟩) hH ?_
 simp only [sA,sB,sC];refine tkA (i:=5) 25 (.int .i64 ((2 * pl:Nat):Int)) rfl (.inl ⟨by kernel_rfl,λw9 h9=>by have hw:=HP1.out; go_simp⟩) hH ?_
 simp only [sA,sB,sC];refine tkA (i:=6) 26 (.int .i64 ((2 * pl + 1:Nat):Int)) rfl (.inl ⟨by kernel_rfl,λw9 h9=>by have hw:=HP2.out; go_simp; simpa using hw⟩) hH ?_
 simp only [sA,sB,sC];refine tkA (i:=7) 27 (.string sk) rfl (.inl ⟨by kernel_rfl,λw9 h9=>by go_simp⟩) hH ?_
 simp only [sA,sB,sC];refine wpAnyH_ready (rs:=[8]) (by kernel_rfl) (by simp) ?_
 refine AllReadyH.cons rfl (λK hK=>?_) AllReadyH.nil
 rw [if_pos (by rfl)]
 go_simp;have kA:Kept w4.heap.size w4.heap.size w4 (wd.alloc (.cells #[.string ⟨#[114,105,103,104,116]⟩,.string sk] 9)):=kD.alloc (by have:=HE.out; omega) _
 refine hK.out _ _ (HM.out _ kA) (λhH=>?_)
 clear hK K;refine wpAnyH_ready (rs:=[9]) (by kernel_rfl) (by simp) ?_
 refine AllReadyH.cons rfl (λK hK=>?_) AllReadyH.nil
 rw [if_pos (by rfl)]
 go_simp
 go_wp2_with (go_at_call 43; refine(HD2.out _).mono ?_; rintro e w3 ⟨rfl,k3⟩)
 have kB:Kept w4.heap.size w4.heap.size w4 w3:=kA.trans (k3.mono (by have:=HE.out; omega) (λi hi _=>by have:=HE.out; omega))
 refine hK.out _ _ (HM.out _ kB) (λhH=>?_)
 clear hK K k3 kA;refine wpAnyH_ready (rs:=[10]) (by kernel_rfl) (by simp) ?_
 refine AllReadyH.cons rfl (λK hK=>?_) AllReadyH.nil
 rw [if_pos (by rfl)]
 refine wp_build_three 101 _ _ _ rfl _ _ _ rfl rfl rfl (HB2.out _) ?_
 simp only [Act.put,List.setIfInBounds_toArray];refine hK.out _ _ (HM.out _ kB) (λhH=>?_)
 clear hK K;refine wpAnyH_ready (rs:=[11]) (by kernel_rfl) (by simp) ?_
 refine AllReadyH.cons rfl (λK hK=>?_) AllReadyH.nil
 rw [if_pos (by rfl)]
 have hz:w3.heap[wa + 2]? = some (.cells zeros34 101 (0,0)):=(kB.block _ (lt_of_block HRR.out) (Nat.ne_of_lt (lt_of_block HRR.out))).trans HRR.out
 refine wp_store_row 101 _ _ rfl (wa + 2) D2 rfl rfl 101 zeros34 hz HI2.out HY2.out HA2.out ?_
 simp only [Act.put];have kC:Kept (wa + 1) (wa + 1) w1 (w3.setRow (wa + 2) D2):=(HM.out _ kB).trans ⟨rfl,rfl,rfl,by simp [World.setRow],λk hk _=>setRow_other w3 (wa + 2) k D2 (by omega)⟩
 refine hK.out _ _ kC (λhH=>?_)
 clear hK K hH;refine wpAnyH_done (by kernel_rfl) ?_ _
 refine NoPanic.normal ?_;have rN:=setRow_heap w3 (wa + 2) zeros34 D2 _ _ hz;have oN:∀ k,k≠wa + 2->(w3.setRow (wa + 2) D2).heap[k]? = w3.heap[k]?:=λk hk=>setRow_other w3 (wa + 2) k D2 hk
 have zN:(w3.setRow (wa + 2) D2).heap[wa + 1]? = some (.cells D1 101 (0,0)):=(oN _ (by omega)).trans (rk HRL.out kB)
 generalize w3.setRow (wa + 2) D2 = w6 at kC rN zN |-;clear oN kB kD hz HE HM;have HKw6:=hid kC;have HRR':=hid rN;have HRL':=hid zN;clear HRL HRR kC rN zN;have HRL:=HRL';have HRR:=HRR';clear HRL' HRR';have HL6:=hid (HLS.out w6 HKw6.out);have HQ1:=hid (HR1.out w6 (wa + 1) HRL.out);have HQ2:=hid (HR2.out w6 (wa + 2) HRR.out)
 go_upto_region 4 with fail
 refine wp_region_lit ?_;iterate 2 (refine wW λK hK=>?_;go_simp;apply hK;clear hK K)
 refine wpList_load_known ?hwd2 26 _ rfl wa 2 rfl (.agg kc) HL6.out ?_
 case hwd2=>kernel_rfl
 simp only [Act.put,sA,sB,sC];refine wW λK hK=>?_;go_simp;apply hK;clear hK K;refine wpList_load_known ?hwd4 26 _ rfl (wa + 1) 2 rfl (.agg c1) HQ1.out ?_
 case hwd4=>kernel_rfl
 simp only [Act.put,sA,sB,sC];refine wW λK hK=>?_;go_simp;apply hK;clear hK K;refine wpList_load_known ?hwd6 26 _ rfl (wa + 2) 2 rfl (.agg c2) HQ2.out ?_
 case hwd6=>kernel_rfl
 simp only [Act.put,sA,sB,sC];refine wpList_build_two_g ?hwd7 _ _ 23 26 rfl i0 z0 Try.underlying23 HI0.out HZ0.out c1 c2 rfl rfl (by rw [HS0.out]; exact HZ1.out) (by rw [HS0.out]; exact HZ2.out) (by rw [HS0.out]; decide) (by rw [HS0.out]; decide) ?_
 case hwd7=>kernel_rfl
 simp only [Act.put,sA,sB,sC];have h6:(w6.alloc (.cells (c1 ++ c2) 26)).heap[w6.heap.size]? = some (.cells M12 26 (0,0)):=by rw [HMM.out]; exact heap_new _ _
 have k6:Kept w6.heap.size w6.heap.size w6 (w6.alloc (.cells (c1 ++ c2) 26)):=(Kept.refl _ _ _).alloc (Nat.le_refl _) _
 generalize w6.alloc (.cells (c1 ++ c2) 26) = w7 at k6 h6 |-
 have K7:=hid k6
 have kW7:Kept w.heap.size w.heap.size w w7:=by
  have e1:=HWA.out;have e2:=HSZ.out;have e3:=HKw6.out.size;rw [<- e1];exact HK1.out.trans ((HKw6.out.trans (k6.mono (by omega) (λk hk _=>by omega))).mono (by omega) (λk hk _=>by omega))
 have HQ:=hid (HQN.out w7 w6.heap.size (HBB.out.kept kW7) (Nat.le_trans HBASE.out kW7.size) kW7.size h6);have KW7:=hid kW7;clear kW7;obtain⟨g6,hg6⟩:∃ g6,g6 = w6.heap.size:=⟨_,rfl⟩;rw [<- hg6] at HQ |-;clear k6 h6 hg6;refine wW λK hK=>?_;go_simp;go_at_call 106; refine HQ.out.mono ?_; rintro e w8 ⟨rfl,q8,f8⟩
 apply hK;clear hK K;have RL8:=hid (f8.oth _ _ _ _ ((K7.out.block _ (lt_of_block HRL.out) (Nat.ne_of_lt (lt_of_block HRL.out))).trans HRL.out) (by decide) (by decide) (by decide))
 have RR8:=hid (f8.oth _ _ _ _ ((K7.out.block _ (lt_of_block HRR.out) (Nat.ne_of_lt (lt_of_block HRR.out))).trans HRR.out) (by decide) (by decide) (by decide))
 have F8:=hid ((BkFr.ofKept HBASE.out KW7.out).trans f8);have B8:=hid q8;clear q8 f8
 go_upto_region 5 with fail
 have hld:∀ w9:World,(w9.heap[wa + 1]? = some (.cells D1 101 (0,0))/\w9.heap[wa + 2]? = some (.cells D2 101 (0,0)))->(loadVar 101 ⟨wa + 1,0,none⟩).run Try.prog w9 = .ok (.agg D1) w9/\(loadVar 101 ⟨wa + 2,0,none⟩).run Try.prog w9 = .ok (.agg D2) w9:=λw9 h9=>
  ⟨run_loadVar_row w9 (wa + 1) 101 101 D1 (0,0) _ h9.1 Try.underlying101 rfl HI1.out,run_loadVar_row w9 (wa + 2) 101 101 D2 (0,0) _ h9.2 Try.underlying101 rfl HI2.out⟩
 have HLD:=hid hld;clear hld;refine wp_region_noPanic ?_;have kD:BkFr base X w w8.drew:=F8.out.trans (BkFr.ofKept (F8.out.base HBASE.out) (Kept.refl _ _ _).drew);have bD:InBk w8.drew base bb fs2 (n + 3) X:=B8.out.kept (Kept.refl _ _ _).drew;have rD1:w8.drew.heap[wa + 1]? = some (.cells D1 101 (0,0)):=RL8.out
 have rD2:w8.drew.heap[wa + 2]? = some (.cells D2 101 (0,0)):=RR8.out
 refine wp_region_held_drew (S:=λw9=>w9.heap[wa + 1]? = some (.cells D1 101 (0,0))/\w9.heap[wa + 2]? = some (.cells D2 101 (0,0))) (by kernel_rfl) ⟨rD1,rD2⟩ (λhH=>?_)
 obtain⟨wd,hwd⟩:∃ wd,wd = w8.drew:=⟨_,rfl⟩;rw [<- hwd] at hH kD bD rD1 rD2 |-;clear hwd;refine tkA (i:=0) 40 (.agg D1) rfl (yieldsIf_load_known (by rfl) 101 _ rfl (wa + 1) 0 rfl (.agg D1) (λw9 h9=>(HLD.out w9 h9).1)) hH ?_
 simp only [sA,sB,sC];refine tkA (i:=1) 41 (.agg D2) rfl (yieldsIf_load_known (by rfl) 101 _ rfl (wa + 2) 0 rfl (.agg D2) (λw9 h9=>(HLD.out w9 h9).2)) hH ?_
 simp only [sA,sB,sC];refine wpAnyH_ready (rs:=[2]) (by kernel_rfl) (by simp) ?_
 refine AllReadyH.cons rfl (λK hK=>?_) AllReadyH.nil
 rw [if_pos (by rfl)]
 refine wp_store_row 101 _ _ rfl (wa + 1) D1 rfl rfl 101 D1 rD1 HI1.out rfl HA1.out ?_
 simp only [Act.put];have kE:BkFr base X w (wd.setRow (wa + 1) D1):=kD.put HBASE.out (wa + 1) (by have:=HWA.out; omega) D1
 have bE:InBk (wd.setRow (wa + 1) D1) base bb fs2 (n + 3) X:=bD.stayG (StayG.setRow rD1 D1) (by decide) (by decide) (by decide) (by decide)
 have rE1:=setRow_heap wd (wa + 1) D1 D1 _ _ rD1;have rE2:=(setRow_other wd (wa + 1) (wa + 2) D1 (by omega)).trans rD2
 generalize wd.setRow (wa + 1) D1 = we at kE bE rE1 rE2 |-;refine hK.out _ _ ⟨rE1,rE2⟩ (λhH=>?_)
 clear hK K;refine wpAnyH_ready (rs:=[3]) (by kernel_rfl) (by simp) ?_
 refine AllReadyH.cons rfl (λK hK=>?_) AllReadyH.nil
 rw [if_pos (by rfl)]
 refine wp_store_row 101 _ _ rfl (wa + 2) D2 rfl rfl 101 D2 rE2 HI2.out rfl HA2.out ?_
 simp only [Act.put];have kF:BkFr base X w (we.setRow (wa + 2) D2):=kE.put HBASE.out (wa + 2) (by have:=HWA.out; omega) D2
 have bF:InBk (we.setRow (wa + 2) D2) base bb fs2 (n + 3) X:=bE.stayG (StayG.setRow rE2 D2) (by decide) (by decide) (by decide) (by decide)
 have rF2:=setRow_heap we (wa + 2) D2 D2 _ _ rE2;have rF1:=(setRow_other we (wa + 2) (wa + 1) D2 (by omega)).trans rE1
 generalize we.setRow (wa + 2) D2 = wf at kF bF rF1 rF2 |-;refine hK.out _ _ ⟨rF1,rF2⟩ (λhH=>?_)
 clear hK K hH;refine wpAnyH_done (by kernel_rfl) ?_ _
 refine NoPanic.normal ?_;have hi1:=HI1.out;have hi2:=HI2.out
 go_wp2_with fail
 refine bodyPost_ret (results_two_rows rfl _ _ (wa + 1) (wa + 2) _ _ D1 D2 (0,0) (0,0) _ rfl rfl rF1 rF2 Try.underlying101 rfl hi1 hi2) rfl ?_
 exact⟨rfl,bF,kF⟩
structure WkB (base bb n:Nat) (fs:Facts) (X:Nat->Prop) (w0 w:World) (wa rb bits:Nat) (sl v10 v11:Value) (D:Array Value) (lf rt:List Sd):Prop where
 cur:w.heap[wa]? = some (.cells D 101 (0,0))
 res:w.heap[wa + 1]? = some (.cells zeros32 26 (0,0))
 row:w.heap[rb]? = some (.cells #[.int .i64 (bits:Int),sl] 104 (0,0))
 lefts:OwnS w (wa + 2) v10 lf
 rights:OwnS w (wa + 2) v11 rt
 apart:∀ k,v10.ownBlock = some k->v11.ownBlock≠some k
 frame:BkFr base X w0 w
 bk:InBk w base bb fs n (λi=>X i\/i = wa + 1)
 size:wa + 2<=w.heap.size
 below:rb < wa
 w0s:wa = w0.heap.size
 lo:base<=w0.heap.size
variable {base bb n n':Nat} {fs fs':Facts} {X:Nat->Prop} {w0 w w':World} {wa rb bits:Nat} {sl v10 v11 u:Value} {D:Array Value} {lf rt M:List Sd}
theorem WkB.lob (h:WkB base bb n fs X w0 w wa rb bits sl v10 v11 D lf rt):base<=w.heap.size:=h.frame.base h.lo
theorem WkB.xlt (h:WkB base bb n fs X w0 w wa rb bits sl v10 v11 D lf rt)(hX:∀ k,X k->k < w0.heap.size):∀ k,(X k\/k = wa + 1)->k < w.heap.size:=λk hk=>by
 have h1:=h.frame.kept.size;have h2:=h.size
 rcases hk with hk | rfl
 ·have:=hX k hk; omega
 ·omega
theorem WkB.stepB (h:WkB base bb n fs X w0 w wa rb bits sl v10 v11 D lf rt)(hB:InBk w' base bb fs' n' (λi=>X i\/i = wa + 1))(f:BkFr base (λi=>X i\/i = wa + 1) w w'):WkB base bb n' fs' X w0 w' wa rb bits sl v10 v11 D lf rt where
 cur:=f.oth _ _ _ _ h.cur (by decide) (by decide) (by decide)
 res:=f.oth _ _ _ _ h.res (by decide) (by decide) (by decide)
 row:=f.oth _ _ _ _ h.row (by decide) (by decide) (by decide)
 lefts:=h.lefts.bk f.old
 rights:=h.rights.bk f.old
 apart:=h.apart
 frame:=h.frame.trans (f.less (λ_ h=>.inl h))
 bk:=hB
 size:=Nat.le_trans h.size f.kept.size
 below:=h.below
 w0s:=h.w0s
 lo:=h.lo
theorem WkB.step (h:WkB base bb n fs X w0 w wa rb bits sl v10 v11 D lf rt)(k:Kept w.heap.size w.heap.size w w'):WkB base bb n fs X w0 w' wa rb bits sl v10 v11 D lf rt:=
 h.stepB (h.bk.kept k) (BkFr.ofKept h.lob k)
theorem WkB.alloc (h:WkB base bb n fs X w0 w wa rb bits sl v10 v11 D lf rt)(o:Obj):WkB base bb n fs X w0 (w.alloc o) wa rb bits sl v10 v11 D lf rt:=h.step ((Kept.refl _ _ _).alloc (Nat.le_refl _) o)
theorem WkB.setcur (h:WkB base bb n fs X w0 w wa rb bits sl v10 v11 D lf rt)(D':Array Value):WkB base bb n fs X w0 (w.setRow wa D') wa rb bits sl v10 v11 D' lf rt where
 cur:=setRow_heap w wa D D' _ _ h.cur
 res:=(setRow_other w wa (wa + 1) D' (by omega)).trans h.res
 row:=(setRow_other w wa rb D' (by have:=h.below; omega)).trans h.row
 lefts:=h.lefts.stay (λk hk=>setRow_other w wa k D' (by have:=(h.lefts.lt k hk).1; omega))
 rights:=h.rights.stay (λk hk=>setRow_other w wa k D' (by have:=(h.rights.lt k hk).1; omega))
 apart:=h.apart
 frame:=h.frame.put h.lo wa (by have:=h.w0s; omega) D'
 bk:=h.bk.stayG (StayG.setRow h.cur D') (by decide) (by decide) (by decide) (by decide)
 size:=by have:=h.size; simpa [World.setRow] using this
 below:=h.below
 w0s:=h.w0s
 lo:=h.lo
theorem WkB.setnew (h:WkB base bb n fs X w0 w wa rb bits sl v10 v11 D lf rt)(b:Nat)(hb:wa + 2<=b)(h1:v10.ownBlock≠some b)(h2:v11.ownBlock≠some b){old:Array Value}(hr:w.heap[b]? = some (.cells old 101 (0,0)))(cs:Array Value):WkB base bb n fs X w0 (w.setRow b cs) wa rb bits sl v10 v11 D lf rt where
 cur:=(setRow_other w b wa cs (by omega)).trans h.cur
 res:=(setRow_other w b (wa + 1) cs (by omega)).trans h.res
 row:=(setRow_other w b rb cs (by have:=h.below; omega)).trans h.row
 lefts:=h.lefts.stay (λk hk=>setRow_other w b k cs (λe=>h1 (by rw [hk,e])))
 rights:=h.rights.stay (λk hk=>setRow_other w b k cs (λe=>h2 (by rw [hk,e])))
 apart:=h.apart
 frame:=h.frame.put h.lo b (by have:=h.w0s; omega) cs
 bk:=h.bk.stayG (StayG.setRow hr cs) (by decide) (by decide) (by decide) (by decide)
 size:=by have:=h.size; simpa [World.setRow] using this
 below:=h.below
 w0s:=h.w0s
 lo:=h.lo
theorem WkB.left (h:WkB base bb n fs X w0 w wa rb bits sl v10 v11 D lf rt)(ho:OwnS w' (wa + 2) u M)(hg:w.grownBy w' v10.ownBlock)(hb:u.ownBlock = v10.ownBlock\/u.ownBlock = some w.heap.size):WkB base bb n fs X w0 w' wa rb bits sl u v11 D M rt where
 cur:=(hg.block wa (lt_of_block h.cur) (λe=>by have:=(h.lefts.lt _ e.symm).1; omega)).trans h.cur
 res:=(hg.block (wa + 1) (lt_of_block h.res) (λe=>by have:=(h.lefts.lt _ e.symm).1; omega)).trans h.res
 row:=(hg.block rb (lt_of_block h.row) (λe=>by have:=(h.lefts.lt _ e.symm).1; have:=h.below; omega)).trans h.row
 lefts:=ho
 rights:=h.rights.stay (λk hk=>hg.block k (h.rights.lt k hk).2 (λe=>h.apart k e.symm hk))
 apart:=λk hk hk2=>by
  rcases hb with hb | hb
  ·exact h.apart k (hb ▸ hk) hk2
  ·rw [hb] at hk
   have:=(h.rights.lt k hk2).2
   cases hk
   omega
 frame:=h.frame.high h.lo hg (λk e=>by have:=(h.lefts.lt _ e).1; have:=h.w0s; omega)
 bk:=h.bk.stayG (StayG.grown h.lefts.2 hg) (by decide) (by decide) (by decide) (by decide)
 size:=Nat.le_trans h.size hg.size
 below:=h.below
 w0s:=h.w0s
 lo:=h.lo
theorem WkB.right (h:WkB base bb n fs X w0 w wa rb bits sl v10 v11 D lf rt)(ho:OwnS w' (wa + 2) u M)(hg:w.grownBy w' v11.ownBlock)(hb:u.ownBlock = v11.ownBlock\/u.ownBlock = some w.heap.size):WkB base bb n fs X w0 w' wa rb bits sl v10 u D lf M where
 cur:=(hg.block wa (lt_of_block h.cur) (λe=>by have:=(h.rights.lt _ e.symm).1; omega)).trans h.cur
 res:=(hg.block (wa + 1) (lt_of_block h.res) (λe=>by have:=(h.rights.lt _ e.symm).1; omega)).trans h.res
 row:=(hg.block rb (lt_of_block h.row) (λe=>by have:=(h.rights.lt _ e.symm).1; have:=h.below; omega)).trans h.row
 lefts:=h.lefts.stay (λk hk=>hg.block k (h.lefts.lt k hk).2 (λe=>h.apart k hk e.symm))
 rights:=ho
 apart:=λk hk hk2=>by
  rcases hb with hb | hb
  ·exact h.apart k hk (hb ▸ hk2)
  ·rw [hb] at hk2
   have:=(h.lefts.lt k hk).2
   cases hk2
   omega
 frame:=h.frame.high h.lo hg (λk e=>by have:=(h.rights.lt _ e).1; have:=h.w0s; omega)
 bk:=h.bk.stayG (StayG.grown h.rights.2 hg) (by decide) (by decide) (by decide) (by decide)
 size:=Nat.le_trans h.size hg.size
 below:=h.below
 w0s:=h.w0s
 lo:=h.lo
theorem wkb_start (base bb n:Nat)(fs:Facts)(X:Nat->Prop)(w:World)(D:Array Value)(rb bits:Nat)(sl:Value)(hr:w.heap[rb]? = some (.cells #[.int .i64 (bits:Int),sl] 104 (0,0)))(hB:InBk w base bb fs n X)(hbase:base<=w.heap.size):
  WkB base bb n fs X w ((w.alloc (.cells D 101)).alloc (.cells zeros32 26)) w.heap.size rb bits sl (.slice none 0 0) (.slice none 0 0) D [] [] where
 cur:=(Below.heap_alloc _ _ _ (by simp)).trans (heap_new _ _)
 res:=by
  have:=heap_new (w.alloc (.cells D 101)) (.cells zeros32 26)
  rwa [World.size_alloc] at this
 row:=(Below.heap_alloc _ _ _ (by have:=lt_of_block hr; simp; omega)).trans ((Below.heap_alloc _ _ _ (lt_of_block hr)).trans hr)
 lefts:=OwnS.nil _ _
 rights:=OwnS.nil _ _
 apart:=λk h=>by cases h
 frame:=BkFr.ofKept hbase (((Kept.refl _ _ _).alloc (Nat.le_refl _) _).alloc (by simp) _)
 bk:=(hB.freshOr (λi=>i = w.heap.size + 1) (λi hi=>by omega)).kept (((Kept.refl _ _ _).alloc (Nat.le_refl _) _).alloc (by simp) _)
 size:=by simp
 below:=lt_of_block hr
 w0s:=rfl
 lo:=hbase
theorem walk_bookX (base bb n0:Nat)(fs0:Facts)(X:Nat->Prop)(bits:Nat)(hb:bits<=32)(s0:Sd)(hs0:Pp.In bits s0)(pl:Nat)(rb:Nat)(sl:Value)(w:World)(hr:w.heap[rb]? = some (.cells #[.int .i64 (bits:Int),sl] 104 (0,0)))(hbk:InBk w base bb fs0 n0 X)(hbase:base<=w.heap.size)(hX:∀ k,X k->k < w.heap.size)(hmk:MildK (3 * (bits - s0.level) + 3) fs0 n0):
  Calls Try.prog 60 #[.pointer (some ⟨rb,0,none⟩),.pointer (some ⟨bb,0,none⟩),.agg (Pp.cells s0).toArray,.int .i64 (pl:Int)] w λe w'=>∃ v,e = .returned (.tuple #[.agg (bcells (Pp.key (Pp.leaf bits pl (bits - s0.level) s0).self)).toArray,v])/\Ss w' v (Pp.beside bits pl (bits - s0.level) s0)/\InBk w' base bb (Pp.wfacts bits pl (bits - s0.level) s0 fs0) (n0 + (3 * (bits - s0.level) + 3)) X/\BkFr base X w w':=by
 obtain⟨FW,hFW⟩:∃ FW,FW = Pp.wfacts bits pl (bits - s0.level) s0 fs0:=⟨_,rfl⟩;obtain⟨NT,hNT⟩:∃ NT,NT = n0 + (3 * (bits - s0.level) + 3):=⟨_,rfl⟩;rw [<- hFW,<- hNT];have HFW0:=hid hFW;have HNT0:=hid hNT;have HMK0:=hid hmk;have HXX:=hid hX;have HBASE:=hid hbase;have hleaf:=Pp.walk_leaf bits pl (bits - s0.level) s0 [] [];have hbes:=Pp.walk_beside bits pl (bits - s0.level) s0 [] [];rw [List.nil_append,List.reverse_nil,List.append_nil] at hbes;rw [<- hleaf,<- hbes];obtain⟨WK,hWK⟩:∃ WK,WK = Pp.walk bits pl (bits - s0.level) s0 [] []:=⟨_,rfl⟩;rw [<- hWK];have hD34':=cells_array hs0;have hW0:=wkb_start base bb n0 fs0 X w (Pp.cells s0).toArray rb bits sl hr hbk hbase;obtain⟨D0,hD0⟩:∃ D0,D0 = (Pp.cells s0).toArray:=⟨_,rfl⟩;rw [<- hD0] at hD34' hW0 |-;obtain⟨i0,z0,hi0,hz0,hzs0,his0,hby0⟩:=seed_full;have HI0:=hid hi0;have HZ0:=hid hz0;have HIS:=hid his0;have HD0:=hid hD0;have HWK0:=hid hWK;have H34:=hid hD34';have HIN0:=hid hs0;have HW0:=hid hW0;have HB:=hid hb;clear hleaf hbes hWK hD34' hW0 hD0 hi0 hz0 hzs0 his0 hby0 hs0 hb hr hFW hNT hmk hX hbase hbk
 go_enter Try.func60,Try.ntmps60
 go_upto_region 1 with fail
 rw [zeros32_eq];generalize (w.alloc (.cells D0 101)).alloc (.cells zeros32 26) = w1 at HW0 |-
 obtain⟨wa,hwa⟩:∃ wa,wa = w.heap.size:=⟨_,rfl⟩;rw [<- hwa] at HW0 |-;have HWA:=hid hwa;clear hwa
 go_wp2_with fail
 go_loopw [10,11] (λs10 s11 wr=>∃ (n:Nat) (s:Sd) (lf rt:List Sd) (D:Array Value) (fs:Facts) (nn:Nat),Hid (D = (Pp.cells s).toArray)/\Hid (s.level + n = bits)/\Hid (Pp.In bits s)/\Hid (Pp.walk bits pl n s lf rt = WK)/\Hid (lf.length + rt.length + n<=32)/\Hid (MildK (3 * n + 3) fs nn)/\Hid (nn + (3 * n + 3) = NT)/\Hid (Pp.wfacts bits pl n s fs = FW)/\Hid (WkB base bb nn fs X w wr wa rb bits sl s10 s11 D lf rt)) (λ_ _ wr=>bits - levAt wr wa)
 case atStart=>exact⟨bits - s0.level,s0,[],[],D0,fs0,n0,HD0,hid (by have:=HIN0.out.1; omega),HIN0,hid HWK0.out.symm,hid (by have:=HB.out; simp; omega),HMK0,hid HNT0.out.symm,hid HFW0.out.symm,HW0⟩
 case round=>
  clear HD0 HWK0 H34 HIN0 HW0 HFW0 HNT0 HMK0;obtain⟨n,s,lf,rt,D,fs,nn,HD,HN,HIN,HWK,HLEN,HMK,HNT,HFW,HW⟩:=hrel;have HD34:=hid (show D.size = 34 by rw [HD.out]; exact cells_array HIN.out)
  have c0:wr.cell? ⟨wa,0,none⟩ = some (.int .i64 (s.level:Int)):=by rw [cell_of_row wr wa 0 _ _ _ HW.out.cur,HD.out]; rfl
  have c1:=two_cell0 HW.out.row
  cases n with
  | zero=>
   have hlev:s.level = bits:=by have:=HN.out; omega
   have hlt:¬ (s.level:Int) < (bits:Int):=by omega
   have HLV:=hid hlev;clear hlev
   go_upto_region 2 with fail
   go_region
   have hWd:WkB base bb nn fs X w wr.drew wa rb bits sl u10 u11 D lf rt:=HW.out.step (Kept.refl _ _ _).drew;generalize wr.drew = wd at hWd |-;have HWd:=hid hWd;clear hWd
   go_upto_region 9 with fail
   refine wp_region_lit ?_;refine wW λK hK=>?_;go_simp;apply hK;clear hK K;refine wW λK hK=>?_;go_simp;go_at_call 86
   refine(reverse_calls wd (wa + 2) u11 rt HWd.out.rights).mono ?_;rintro e w4 ⟨rfl,ho4,hg4⟩;apply hK;clear hK K;have HW4:=hid (HWd.out.right ho4 hg4 (.inl rfl));clear ho4 hg4;have hkey:=λw hI h1 h2=>key_bookX base bb nn fs (λi=>X i\/i = wa + 1) s bits HIN.out w hI h1 h2 HMK.out.mild
   rw [<- HD.out] at hkey;have HKL:=hid (show(Pp.key s.self).length = 32 from sum_length _);obtain⟨KD,hKD⟩:∃ KD,KD = (bcells (Pp.key s.self)).toArray:=⟨_,rfl⟩;have HKS:=hid (show KD.size = 32 by rw [hKD,List.size_toArray,bcells_length]; exact HKL.out)
   have HKA:=hid (show KD.all (·.oneCell') = true by rw [hKD]; exact bcells_all _)
   have HKI:=hid (show(Try.prog.info? 26).map (·.size) = some KD.size by rw [HKS.out]; kernel_rfl)
   simp only [<- hKD] at hkey;have HKEY:=hid hkey;have HKD:=hid hKD;clear hkey hKD
   go_upto_region 10 with fail
   refine wp_region_lit ?_;refine wpList_load_row rfl 101 (.tmp 6) rfl (wa) rfl 101 D (0,0) _ (HW4.out.cur) Try.underlying101 rfl (by rw [seedInfo,HD34.out]) ?_
   simp only [Act.put,sA,sB,sC];refine wW λK hK=>?_;go_simp;apply hK;clear hK K;refine wW λK hK=>?_;go_simp;go_at_call 87
   refine(HKEY.out _ HW4.out.bk HW4.out.lob (HW4.out.xlt HXX.out)).mono ?_;rintro e w5 ⟨rfl,q5,f5⟩;apply hK;clear hK K;have HW5:=hid (HW4.out.stepB q5 f5);clear q5 f5;iterate 2 (refine wW λK hK=>?_;go_simp;apply hK;clear hK K)
   obtain⟨v6,w6,hrun,hown,hgrow⟩:=append_rows w5 (wa + 2) u10 u11 lf rt.reverse HW5.out.lefts HW5.out.rights HW5.out.size (by have:=HLEN.out; simp; omega)
   refine wpList_append_known rfl (.tmp 47) (.tmp 48) 102 102 102 rfl rfl u10 u11 rfl rfl hrun ?_
   simp only [Act.put,sA,sB,sC];have hres:w6.heap[wa + 1]? = some (.cells zeros32 26 (0,0)):=(hgrow.block (wa + 1) (lt_of_block HW5.out.res) (λe=>by have:=(HW5.out.lefts.lt _ e.symm).1; omega)).trans HW5.out.res
   have hk6:BkFr base X w w6:=HW5.out.frame.high HW5.out.lo hgrow (λk e=>by have:=(HW5.out.lefts.lt _ e).1; have:=HW5.out.w0s; omega)
   have hb6:=HW5.out.bk.stayG (StayG.grown HW5.out.lefts.2 hgrow) (by decide) (by decide) (by decide) (by decide)
   have HRES:=hid hres;have HK6:=hid hk6;have HB6:=hid hb6;have HOWN:=hid hown;clear hres hk6 hb6 hown hgrow hrun;refine wpList_store_row rfl 26 _ _ rfl (wa + 1) KD rfl rfl 26 zeros32 (HRES.out) (HKI.out) (by rw [zeros32_size,HKS.out]) (HKA.out) ?_
   simp only [Act.put];have hr7:=setRow_heap w6 (wa + 1) zeros32 KD _ _ HRES.out;have hk7:BkFr base X w (w6.setRow (wa + 1) KD):=HK6.out.put HW5.out.lo (wa + 1) (by have:=HW5.out.w0s; omega) KD
   have hb7:=(HB6.out.put (wa + 1) (.inr rfl) zeros32 KD (0,0) HRES.out).less X (λk hk=>.inl hk)
   have ho7:=HOWN.out.stay (w':=w6.setRow (wa + 1) KD) (λk hk=>setRow_other w6 (wa + 1) k KD (by have:=(HOWN.out.lt k hk).1; omega))
   have HR7:=hid hr7;have HK7:=hid hk7;have HB7:=hid hb7;have HO7:=hid ho7;clear hr7 hk7 hb7 ho7;refine wW λK hK=>?_;go_simp;apply hK;clear hK K;go_wp2;refine named_ret rfl (wa + 1) KD rfl HR7.out HKS.out rfl ?_;have hwk:=HWK.out;refine⟨v6,?_,?_,by rw [<- HFW.out,<- HNT.out]; exact HB7.out,HK7.out⟩
   ·rw [<- hwk,HKD.out]
    rfl
   ·rw [<- hwk]
    exact HO7.out.ss
  | succ n=>
   have hlev:s.level < bits:=by have:=HN.out; omega
   have hlt:(s.level:Int) < (bits:Int):=by omega
   have HMKN:Hid (MildK (3 * n + 3) (Bk.note fs ([s.self],[(Pp.left s).self,(Pp.right s).self])) (nn + 3)):=hid (MildK.more (c:=3 * n + 3) (by have:=HMK.out; rwa [show 3 * (n + 1) + 3 = 3 * n + 3 + 3 by omega] at this) _ (by show 1 < _; decide) (by show 2 < _; decide))
   have HIL:=hid (Pp.left_in HIN.out hlev);have HIR:=hid (Pp.right_in HIN.out hlev);have hbelow:=λw hI h1 h2=>below_bookX base bb nn fs (λi=>X i\/i = wa + 1) bits HB.out s HIN.out hlev w hI h1 h2 HMK.out.mild
   have hstart:=λw h=>start_calls bits HB.out (Pp.right s) HIR.out rb sl w h
   obtain⟨D1,hD1⟩:∃ D1,D1 = (Pp.cells (Pp.left s)).toArray:=⟨_,rfl⟩;obtain⟨D2,hD2⟩:∃ D2,D2 = (Pp.cells (Pp.right s)).toArray:=⟨_,rfl⟩;simp only [<- HD.out,<- hD1,<- hD2] at hbelow;simp only [<- hD2] at hstart;have HBELOW:=hid hbelow;have HSTART:=hid hstart;have HID1:=HIL;have HID2:=HIR;have HSD1:=hid (show D1.size = 34 by rw [hD1]; exact cells_array HIL.out)
   have HSD2:=hid (show D2.size = 34 by rw [hD2]; exact cells_array HIR.out)
   have HAD1:=hid (show D1.all (·.oneCell') = true by rw [hD1]; exact cells_all _)
   have HAD2:=hid (show D2.all (·.oneCell') = true by rw [hD2]; exact cells_all _)
   have HLD1:=hid (show D1.toList = Pp.cells (Pp.left s) by rw [hD1])
   have HLD2:=hid (show D2.toList = Pp.cells (Pp.right s) by rw [hD2])
   have HPD1:=hid HIL.out.2.2;have HPD2:=hid HIR.out.2.2;have HTD1:=hid hD1;have HTD2:=hid hD2;clear hbelow hstart hD1 hD2 hlev
   go_upto_region 2 with fail
   go_region
   have hWd:WkB base bb nn fs X w wr.drew wa rb bits sl u10 u11 D lf rt:=HW.out.step (Kept.refl _ _ _).drew;generalize wr.drew = wd at hWd |-;have HWd:=hid hWd;clear hWd
   go_upto_region 3 with fail
   refine wp_region_lit ?_;refine wpList_load_row rfl 101 (.tmp 6) rfl (wa) rfl 101 D (0,0) _ (HWd.out.cur) Try.underlying101 rfl (by rw [seedInfo,HD34.out]) ?_
   simp only [Act.put,sA,sB,sC];refine wW λK hK=>?_;go_simp;apply hK;clear hK K;refine wW λK hK=>?_;go_simp;go_at_call 85
   refine(HBELOW.out _ HWd.out.bk HWd.out.lob (HWd.out.xlt HXX.out)).mono ?_;rintro e w4 ⟨rfl,q4,f4⟩;apply hK;clear hK K;have HW4:=hid (HWd.out.stepB q4 f4);have HO10:=hid (λk (hk:u10.ownBlock = some k)=>(HWd.out.lefts.lt k hk).2)
   have HO11:=hid (λk (hk:u11.ownBlock = some k)=>(HWd.out.rights.lt k hk).2)
   have hsz4:=f4.kept.size;have HSZ4:=hid hsz4;clear q4 f4 hsz4;iterate 3 (refine wW λK hK=>?_;go_simp;apply hK;clear hK K)
   refine wpList_alloc_k rfl 101 rfl (alloc_seed _) ?_
   simp only [Act.put,sA,sB,sC];refine wpList_alloc_k rfl 101 rfl (alloc_seed _) ?_
   simp only [Act.put,sA,sB,sC];have hW4b:=(HW4.out.alloc (.cells zeros34 101)).alloc (.cells zeros34 101)
   have hr1:((w4.alloc (.cells zeros34 101)).alloc (.cells zeros34 101)).heap[w4.heap.size]? = some (.cells zeros34 101 (0,0)):=(Below.heap_alloc _ _ _ (by simp)).trans (heap_new _ _)
   have hr2:=heap_new (w4.alloc (.cells zeros34 101)) (.cells zeros34 101)
   rw [World.size_alloc] at hr2 |-;generalize (w4.alloc (.cells zeros34 101)).alloc (.cells zeros34 101) = w4b at hW4b hr1 hr2 |-
   obtain⟨b1,hb1⟩:∃ b1,b1 = w4.heap.size:=⟨_,rfl⟩;rw [<- hb1] at hr1 hr2 |-;have HB1:=hid hb1
   replace HO10:=hid (λk (hk:u10.ownBlock = some k)=>show k < b1 by have:=HO10.out k hk; have:=HSZ4.out; have:=HB1.out; omega)
   replace HO11:=hid (λk (hk:u11.ownBlock = some k)=>show k < b1 by have:=HO11.out k hk; have:=HSZ4.out; have:=HB1.out; omega)
   have HB1W:=hid (show wa + 2<=b1 by have:=HW4.out.size; have:=HB1.out; omega)
   have HW4B:=hid hW4b;have Z1:=hid hr1;have Z2:=hid hr2;clear hW4b hr1 hr2 hb1;refine wpList_store_row rfl 101 _ _ rfl (b1) D1 rfl rfl 101 zeros34 (Z1.out) (by rw [seedInfo,HSD1.out]) (by rw [zeros34_size,HSD1.out]) (HAD1.out) ?_
   simp only [Act.put];have HW5A:=hid (HW4B.out.setnew b1 HB1W.out (λe=>by have:=HO10.out _ e; omega) (λe=>by have:=HO11.out _ e; omega) Z1.out D1)
   have RA:=hid (setRow_heap w4b b1 zeros34 D1 _ _ Z1.out);have ZB:=hid ((setRow_other w4b b1 (b1 + 1) D1 (by omega)).trans Z2.out)
   generalize w4b.setRow b1 D1 = w5a at HW5A RA ZB |-;refine wpList_store_row rfl 101 _ _ rfl (b1 + 1) D2 rfl rfl 101 zeros34 (ZB.out) (by rw [seedInfo,HSD2.out]) (by rw [zeros34_size,HSD2.out]) (HAD2.out) ?_
   simp only [Act.put];have HW5:=hid (HW5A.out.setnew (b1 + 1) (by have:=HB1W.out; omega) (λe=>by have:=HO10.out _ e; omega) (λe=>by have:=HO11.out _ e; omega) ZB.out D2)
   have R2:=hid (setRow_heap w5a (b1 + 1) zeros34 D2 _ _ ZB.out);have R1:=hid ((setRow_other w5a (b1 + 1) b1 D2 (by omega)).trans RA.out)
   generalize w5a.setRow (b1 + 1) D2 = w5 at HW5 R1 R2 |-;clear HW5A RA ZB Z1 Z2 HW4B
   go_upto_region 4 with fail
   refine wp_region_lit ?_;iterate 2 (refine wW λK hK=>?_;go_simp;apply hK;clear hK K)
   refine wpList_load_row rfl 101 (.tmp 13) rfl (b1 + 1) rfl 101 D2 (0,0) _ (R2.out) Try.underlying101 rfl (by rw [seedInfo,HSD2.out]) ?_
   simp only [Act.put,sA,sB,sC];refine wW λK hK=>?_;go_simp;go_at_call 84
   refine(HSTART.out _ HW5.out.row).mono ?_;rintro e w5' ⟨rfl,k5⟩;apply hK;clear hK K
   replace HW5:=hid (HW5.out.step k5)
   replace R1:=hid (rk R1.out k5)
   replace R2:=hid (rk R2.out k5)
   clear k5;clear w5
   rename World=>w5
   by_cases hc:pl < Pp.start bits (Pp.right s)
   ·have hci:(pl:Int) < (Pp.start bits (Pp.right s):Int):=by omega
    have HC:=hid hc;clear hc;refine wW λK hK=>?_;go_simp;apply hK;clear hK K
    go_upto_region 5 with fail
    refine wp_region_lit ?_;refine wW λK hK=>?_;go_simp;apply hK;clear hK K;refine wpList_load_row rfl 101 (.tmp 13) rfl (b1 + 1) rfl 101 D2 (0,0) _ (R2.out) Try.underlying101 rfl (by rw [seedInfo,HSD2.out]) ?_
    simp only [Act.put,sA,sB,sC];refine wpList_build_one rfl (.tmp 33) 102 101 rfl i0 z0 Try.underlying102 HI0.out HZ0.out D2 rfl (by rw [HSD2.out,HIS.out]) (by rw [HIS.out]; decide) (by rw [HIS.out]; decide) ?_
    simp only [Act.put,sA,sB,sC];have hW6:=HW5.out.alloc (.cells D2 101)
    obtain⟨v6,w6,hrun,hown,hgrow,hblk⟩:=append_seed_at (w5.alloc (.cells D2 101)) (wa + 2) u11 rt hW6.rights hW6.size w5.heap.size 1 (Pp.right s) HPD2.out (by have:=row_range (heap_new w5 (.cells D2 101)); rwa [HLD2.out] at this) (by have:=HLEN.out; omega)
    refine wpList_append_known rfl (.tmp 32) (.tmp 34) 102 102 102 rfl rfl u11 (.slice (some ⟨w5.heap.size,0,none⟩) 1 1) rfl rfl hrun ?_
    simp only [Act.put,sA,sB,sC];have hW7:=hW6.right hown hgrow hblk;have hg1:w6.heap[b1]? = some (.cells D1 101 (0,0)):=(hgrow.block b1 (by have:=lt_of_block R1.out; simp; omega) (λe=>by have:=HO11.out _ e.symm; omega)).trans ((Below.heap_alloc _ _ _ (lt_of_block R1.out)).trans R1.out)
    have hg2:w6.heap[b1 + 1]? = some (.cells D2 101 (0,0)):=(hgrow.block (b1 + 1) (by have:=lt_of_block R2.out; simp; omega) (λe=>by have:=HO11.out _ e.symm; omega)).trans ((Below.heap_alloc _ _ _ (lt_of_block R2.out)).trans R2.out)
    have HW7:=hid hW7;have G1:=hid hg1;have G2:=hid hg2;clear hW6 hW7 hg1 hg2 hrun hown hgrow hblk;refine wW λK hK=>?_;go_simp;apply hK;clear hK K
    go_upto_region 6 with fail
    refine wp_region_lit ?_;refine wpList_load_row rfl 101 (.tmp 12) rfl (b1) rfl 101 D1 (0,0) _ (G1.out) Try.underlying101 rfl (by rw [seedInfo,HSD1.out]) ?_
    simp only [Act.put,sA,sB,sC];refine wpList_store_row rfl 101 _ _ rfl (wa) D1 rfl rfl 101 D (HW7.out.cur) (by rw [seedInfo,HSD1.out]) (by rw [HD34.out,HSD1.out]) (HAD1.out) ?_
    simp only [Act.put];have hW8:=HW7.out.setcur D1;have HW8:=hid hW8;clear hW8
    go_wp2_with fail
    go_roundw
    case rel=>exact⟨n,Pp.left s,lf,rt ++ [Pp.right s],D1,Bk.note fs ([s.self],[(Pp.left s).self,(Pp.right s).self]),nn + 3,HTD1,hid (by show s.level + 1 + n = bits; have:=HN.out; omega),HID1,hid (by rw [<- HWK.out,Pp.walk,if_pos HC.out]),hid (by have:=HLEN.out; simp; omega),hid (HMKN.out),hid (by have:=HNT.out; omega),hid (by rw [<- HFW.out,Pp.wfacts,if_pos HC.out]),HW8⟩
    case measure=>
     rw [levAt_of HW8.out.cur HTD1.out,levAt_of HW.out.cur HD.out];show bits - (s.level + 1) < bits - s.level;have:=HN.out
     omega
   ·have hci:¬ (pl:Int) < (Pp.start bits (Pp.right s):Int):=by omega
    have HC:=hid hc;clear hc;refine wW λK hK=>?_;go_simp;apply hK;clear hK K
    go_upto_region 7 with fail
    refine wp_region_lit ?_;refine wW λK hK=>?_;go_simp;apply hK;clear hK K;refine wpList_load_row rfl 101 (.tmp 12) rfl (b1) rfl 101 D1 (0,0) _ (R1.out) Try.underlying101 rfl (by rw [seedInfo,HSD1.out]) ?_
    simp only [Act.put,sA,sB,sC];refine wpList_build_one rfl (.tmp 38) 102 101 rfl i0 z0 Try.underlying102 HI0.out HZ0.out D1 rfl (by rw [HSD1.out,HIS.out]) (by rw [HIS.out]; decide) (by rw [HIS.out]; decide) ?_
    simp only [Act.put,sA,sB,sC];have hW6:=HW5.out.alloc (.cells D1 101)
    obtain⟨v6,w6,hrun,hown,hgrow,hblk⟩:=append_seed_at (w5.alloc (.cells D1 101)) (wa + 2) u10 lf hW6.lefts hW6.size w5.heap.size 1 (Pp.left s) HPD1.out (by have:=row_range (heap_new w5 (.cells D1 101)); rwa [HLD1.out] at this) (by have:=HLEN.out; omega)
    refine wpList_append_known rfl (.tmp 37) (.tmp 39) 102 102 102 rfl rfl u10 (.slice (some ⟨w5.heap.size,0,none⟩) 1 1) rfl rfl hrun ?_
    simp only [Act.put,sA,sB,sC];have hW7:=hW6.left hown hgrow hblk;have hg1:w6.heap[b1]? = some (.cells D1 101 (0,0)):=(hgrow.block b1 (by have:=lt_of_block R1.out; simp; omega) (λe=>by have:=HO10.out _ e.symm; omega)).trans ((Below.heap_alloc _ _ _ (lt_of_block R1.out)).trans R1.out)
    have hg2:w6.heap[b1 + 1]? = some (.cells D2 101 (0,0)):=(hgrow.block (b1 + 1) (by have:=lt_of_block R2.out; simp; omega) (λe=>by have:=HO10.out _ e.symm; omega)).trans ((Below.heap_alloc _ _ _ (lt_of_block R2.out)).trans R2.out)
    have HW7:=hid hW7;have G1:=hid hg1;have G2:=hid hg2;clear hW6 hW7 hg1 hg2 hrun hown hgrow hblk;refine wW λK hK=>?_;go_simp;apply hK;clear hK K
    go_upto_region 8 with fail
    refine wp_region_lit ?_;refine wpList_load_row rfl 101 (.tmp 13) rfl (b1 + 1) rfl 101 D2 (0,0) _ (G2.out) Try.underlying101 rfl (by rw [seedInfo,HSD2.out]) ?_
    simp only [Act.put,sA,sB,sC];refine wpList_store_row rfl 101 _ _ rfl (wa) D2 rfl rfl 101 D (HW7.out.cur) (by rw [seedInfo,HSD2.out]) (by rw [HD34.out,HSD2.out]) (HAD2.out) ?_
    simp only [Act.put];have hW8:=HW7.out.setcur D2;have HW8:=hid hW8;clear hW8
    go_wp2_with fail
    go_roundw
    case rel=>exact⟨n,Pp.right s,lf ++ [Pp.left s],rt,D2,Bk.note fs ([s.self],[(Pp.left s).self,(Pp.right s).self]),nn + 3,HTD2,hid (by show s.level + 1 + n = bits; have:=HN.out; omega),HID2,hid (by rw [<- HWK.out,Pp.walk,if_neg HC.out]),hid (by have:=HLEN.out; simp; omega),hid (HMKN.out),hid (by have:=HNT.out; omega),hid (by rw [<- HFW.out,Pp.wfacts,if_neg HC.out]),HW8⟩
    case measure=>
     rw [levAt_of HW8.out.cur HTD2.out,levAt_of HW.out.cur HD.out];show bits - (s.level + 1) < bits - s.level;have:=HN.out
     omega
structure BkBut (base:Nat) (X:Nat->Prop) (rb:Nat) (w w':World):Prop extends Go.Proofs.Ytanfnafiofkihaa.BkBut base rb w w' where
 ints:∀ (k:Nat) (cs:Array Value) (fr:Nat × Nat),X k->k≠rb->w.heap[k]? = some (.cells cs 3 fr)->w'.heap[k]? = some (.cells cs 3 fr)
theorem BkBut.old {base rb:Nat}{X:Nat->Prop}{w w':World}(h:BkBut base X rb w w'):Go.Proofs.Ytanfnafiofkihaa.BkBut base rb w w':=h.toBkBut
theorem BkFr.but {base rb:Nat}{X:Nat->Prop}{w w':World}(h:BkFr base X w w'):BkBut base X rb w w':=⟨h.old.but,λk cs fr hx _ hh=>h.ints k cs fr hx hh⟩
theorem BkBut.trans {base rb:Nat}{X:Nat->Prop}{w1 w2 w3:World}(h:BkBut base X rb w1 w2)(k:BkBut base X rb w2 w3):BkBut base X rb w1 w3:=⟨h.old.trans k.old,λi cs fr hx hn hh=>k.ints i cs fr hx hn (h.ints i cs fr hx hn hh)⟩
theorem BkBut.of {base rb:Nat}{X:Nat->Prop}{w w':World}(hb:base<=w.heap.size)(hr:base<=rb)(k:Kept w.heap.size rb w w'):BkBut base X rb w w':=⟨Go.Proofs.Ytanfnafiofkihaa.BkBut.of hb hr k,λi _cs _fr _ hn hh=>(k.block i (lt_of_block hh) hn).trans hh⟩
theorem BkBut.put {base rb:Nat}{X:Nat->Prop}{w w':World}(h:BkBut base X rb w w')(hb:base<=w.heap.size)(g:Nat)(hg:w.heap.size<=g)(cs:Array Value):BkBut base X rb w (w'.setRow g cs):=
 ⟨h.old.put hb g hg cs,λk xs fr hx hn r=>by
  rw [setRow_other w' g k cs (λe=>by have:=lt_of_block r; omega)]
  exact h.ints k xs fr hx hn r⟩
theorem take_bookX (base bb n0:Nat)(fs:Facts)(X:Nat->Prop)(bits:Nat)(hb:bits<=32)(A B:List Sd)(s:Sd)(rb:Nat)(sl:Value)(pl:Nat)(w:World)(hR:RowIs w rb bits sl (A ++ s :: B))(hG:Pp.Good bits (A ++ s :: B))(hn:(A ++ s :: B).length < 1000000)(hp1:pl < 2 ^ bits)(h1:Pp.start bits s<=pl)(h2:pl < Pp.stop bits s)(hbk:InBk w base bb fs n0 X)(hbase:base<=w.heap.size)(hX:∀ k,X k->k < w.heap.size)(hmk:MildK (3 * (bits - s.level) + 3) fs n0)(hty:Typ w sl)(hbr:base<=rb):
  Calls Try.prog 29 #[.pointer (some ⟨rb,0,none⟩),.pointer (some ⟨bb,0,none⟩),.int .i64 (pl:Int)] w λe w'=>e = .returned (.tuple #[.agg (bcells (Pp.key (Pp.leaf bits pl (bits - s.level) s).self)).toArray,.int .i64 0])/\∃ sl',RowIs w' rb bits sl' (A ++ Pp.beside bits pl (bits - s.level) s ++ B)/\InBk w' base bb (Pp.wfacts bits pl (bits - s.level) s fs) (n0 + (3 * (bits - s.level) + 3)) X/\BkBut base X rb w w'/\NearT w w' sl sl':=by
 have hsin:Pp.In bits s:=hG.1 s (by simp)
 have hgs:(A ++ s :: B)[A.length]? = some s:=by simp
 have hil:A.length < (A ++ s :: B).length:=by simp
 have hge:(A ++ s :: B)[A.length] = s:=by simp
 have hfind:∀ w1,Kept w.heap.size w.heap.size w w1->Calls Try.prog 59 #[.pointer (some ⟨rb,0,none⟩),.int .i64 (pl:Int)] w1 λe w'=>e = .returned (.tuple #[.int .i64 (A.length:Int),.int .i64 0])/\Kept w1.heap.size w1.heap.size w1 w':=λw1 k=>by
  have:=find_at bits hb (A ++ s :: B) rb sl (pl:Int) w1 (hR.kept k) hG (by omega) (by omega) (by omega) A.length hil (by rw [hge]; omega) (by rw [hge]; omega)
  exact this
 have hwalk:=λw1 h hI h1 h2=>walk_bookX base bb n0 fs (λi=>X i\/i = w.heap.size) bits hb s hsin pl rb sl w1 h hI h1 h2 hmk
 obtain⟨ad,g,o,c,rfl,hss,hcap⟩:=hR.2;obtain⟨had,hgl,hgr⟩:=hss A.length hil;subst had;have HBKW:=hid (λ(w1:World) (k:Kept w.heap.size w.heap.size w w1)=>(hbk.freshOr (λi=>i = w.heap.size) (λi hi=>by omega)).kept k)
 have HBASE:=hid hbase;have HXW:=hid (λ(w1:World) (h:w.heap.size < w1.heap.size) (i:Nat) (hi:X i\/i = w.heap.size)=>(show i < w1.heap.size from hi.elim (λh9=>Nat.lt_trans (hX i h9) h) (λh9=>by rw [h9]; exact h)))
 have HTY:=hid hty;have HBR:=hid hbr;obtain⟨FW,hFW⟩:∃ FW,FW = Pp.wfacts bits pl (bits - s.level) s fs:=⟨_,rfl⟩;obtain⟨NT,hNT⟩:∃ NT,NT = n0 + (3 * (bits - s.level) + 3):=⟨_,rfl⟩;simp only [<- hFW,<- hNT] at hwalk;rw [<- hFW,<- hNT];clear hbk hbase hX hty hmk hbr hFW hNT;rw [hge] at hgr;have hKL:(Pp.key (Pp.leaf bits pl (bits - s.level) s).self).length = 32:=sum_length _;obtain⟨KD,hKD⟩:∃ KD,KD = (bcells (Pp.key (Pp.leaf bits pl (bits - s.level) s).self)).toArray:=⟨_,rfl⟩;have HKS:=hid (show KD.size = 32 by rw [hKD,List.size_toArray,bcells_length]; exact hKL)
 have HKA:=hid (show KD.all (·.oneCell') = true by rw [hKD]; exact bcells_all _)
 have HKI:=hid (show(Try.prog.info? 26).map (·.size) = some KD.size by rw [HKS.out]; kernel_rfl)
 simp only [<- hKD] at hwalk;rw [<- hKD];have hsi:(Try.prog.info? 101).map (·.size) = some (Pp.cells s).length:=by rw [seedInfo,Pp.cells_length hsin]
 obtain⟨ln,hln⟩:∃ ln,ln = (A ++ s :: B).length:=⟨_,rfl⟩;have hlt:(A.length:Int) < (ln:Int):=by omega
 have hln30:(ln:Int) < 1000000:=by omega
 obtain⟨BES,hBES⟩:∃ BES,BES = Pp.beside bits pl (bits - s.level) s:=⟨_,rfl⟩;simp only [<- hBES,<- hln] at hwalk;have hbl:BES.length<=32:=by rw [hBES,Pp.beside_length]; omega
 have hbg:=(Pp.beside_good bits pl (bits - s.level) s hsin (by have:=hsin.1; omega)).1
 rw [<- hBES] at hbg |-;have HREP:=hid (λ(w1:World) (v:Value) (hr:RowIs w1 rb bits (.slice (some ⟨g,o,none⟩) (A ++ s :: B).length c) (A ++ s :: B)) (hv:Ss w1 v BES)=>replace_callsT bits A B BES s (λx hx=>(hG.1 x (by simp [hx])).2.2) (λx hx=>(hbg.1 x hx).2.2) (λx hx=>(hG.1 x (by simp [hx])).2.2) rb _ v w1 hr hv (by simp at hn; omega))
 have HALL:=hid (show ∀ x∈A ++ BES ++ B,x.self.length = 32 from λx hx=>by
  simp only [List.mem_append] at hx
  rcases hx with (hx | hx) | hx
  ·exact(hG.1 x (by simp [hx])).2.2
  ·exact(hbg.1 x hx).2.2
  ·exact(hG.1 x (by simp [hx])).2.2)
 have HBALL:=hid (show ∀ x∈BES,x.self.length = 32 from λx hx=>(hbg.1 x hx).2.2)
 have HLALL:=hid (show ∀ x∈A ++ s :: B,x.self.length = 32 from λx hx=>(hG.1 x hx).2.2)
 clear hbl hbg;have HROW:=hid hR;simp only [<- hln] at HROW HREP;have HFIND:=hid hfind;have HWALK:=hid hwalk;have HGR:=hid hgr;have HGL:=hid hgl;have HSI:=hid hsi;have HRBL:=hid (lt_of_block hR.1);obtain⟨D,hDD⟩:∃ D,D = (Pp.cells s).toArray:=⟨_,rfl⟩;have HDD:=hid hDD.symm;rw [<- hDD] at HWALK;clear hDD hfind hwalk hgr hgl hsi hR hG hss hsin hgs hge hil hn hKL hKD hBES hln hcap hp1 h1 h2;generalize A.length = ia at hlt HFIND HGR HREP |-
 go_enter Try.func29,Try.ntmps29
 go_upto_region 1 with fail
 rw [zeros32_eq];have k1:Kept w.heap.size w.heap.size w (w.alloc (.cells zeros32 26)):=(Kept.refl _ _ _).alloc (Nat.le_refl _) _
 have r1:(w.alloc (.cells zeros32 26)).heap[w.heap.size]? = some (.cells zeros32 26 (0,0)):=heap_new _ _
 generalize w.alloc (.cells zeros32 26) = w1 at k1 r1 |-
 have HK1:=hid k1;have R1:=hid r1;have HFF:=hid (HFIND.out w1 k1);obtain⟨wa,hwa⟩:∃ wa,wa = w.heap.size:=⟨_,rfl⟩;rw [<- hwa] at R1 HK1 HRBL |-;have HWA:=hid hwa;clear k1 r1 hwa
 go_upto_region 4 with (go_at_call 59; refine HFF.out.mono ?_; rintro e w2 ⟨rfl,k2⟩)
 have hs1:wa<=w1.heap.size:=by have:=HK1.out.size; have:=HWA.out; omega
 have K2:=hid (HK1.out.trans (k2.mono hs1 (λi hi _=>Nat.ne_of_lt (Nat.lt_of_lt_of_le hi hs1))))
 have R2:=hid (rk R1.out k2);clear k2 hs1;have K2W:=hid (show Kept w.heap.size w.heap.size w w2 by rw [<- HWA.out]; exact K2.out)
 have HROW2:=hid (HROW.out.kept K2W.out);have c1:=two_cell1 HROW2.out.1;have hgr2:w2.rangeAt g (o + ia * 34) (Pp.cells s):=rangeAt_kept K2W.out HGR.out HGL.out (Nat.ne_of_lt HGL.out);have HGR2:=hid hgr2;clear hgr2;refine wp_region_lit ?_;iterate 8 (refine wW λK hK=>?_;go_simp;apply hK;clear hK K)
 refine wpList_load_mid rfl 101 (.tmp 30) rfl g (o + ia * 34) rfl (Pp.cells s) _ HGR2.out Try.underlying101 rfl HSI.out ?_
 simp only [Act.put,sA,sB,sC];rw [HDD.out];refine wW λK hK=>?_;go_simp;apply hK;clear hK K;refine wW λK hK=>?_;go_simp;go_at_call 60
 refine(HWALK.out w2 HROW2.out.1 (by have:=HBKW.out w2 K2W.out; rwa [<- HWA.out] at this |-) (Nat.le_trans HBASE.out K2W.out.size) (by have:=HXW.out w2 (by have:=lt_of_block R2.out; have:=HWA.out; omega); rwa [<- HWA.out] at this |-)).mono ?_
 rintro e w3 ⟨v,rfl,hv3,q3,f3⟩;apply hK;clear hK K;have R3:=hid (f3.row R2.out);have F3:=hid ((BkFr.ofKept HBASE.out K2W.out).trans (f3.less (λ_ h=>Or.inl h):BkFr base X _ _))
 have HROW3:=hid (HROW2.out.bk (HTY.out.kept K2W.out) f3.old);rw [<- HWA.out] at q3;have B3:=hid (q3.freshOr (λi=>i = w3.heap.size) (λi hi=>by omega))
 have HV3:=hid hv3;clear f3 q3 hv3 c1;iterate 3 (refine wW λK hK=>?_;go_simp;apply hK;clear hK K)
 refine wpList_alloc_k rfl 26 rfl (alloc_hash _) ?_
 simp only [Act.put,sA,sB,sC];have hR4:(w3.alloc (.cells zeros32 26)).heap[w3.heap.size]? = some (.cells zeros32 26 (0,0)):=heap_new _ _
 have hk4:Kept w3.heap.size w3.heap.size w3 (w3.alloc (.cells zeros32 26)):=(Kept.refl _ _ _).alloc (Nat.le_refl _) _
 have hs3:wa < w3.heap.size:=lt_of_block R3.out;obtain⟨wb,hwb⟩:∃ wb,wb = w3.heap.size:=⟨_,rfl⟩;generalize w3.alloc (.cells zeros32 26) = w4 at hR4 hk4 |-
 have F4:=hid (F3.out.trans (BkFr.ofKept (Nat.le_trans HBASE.out F3.out.kept.size) hk4));have b4:=B3.out.kept hk4;rw [<- hwb] at b4;have B4:=hid b4;have R4:=hid ((hk4.block wa hs3 (Nat.ne_of_lt hs3)).trans R3.out);have HROW4:=hid (HROW3.out.kept hk4);have HV4:=hid (HV3.out.kept hk4);rw [<- hwb] at hR4 |-;have Q4:=hid hR4;have HWB:=hid (show wa < wb by omega)
 have HWRB:=hid (show rb < wb by have:=HRBL.out; omega)
 clear hR4 hk4 hs3 hwb HROW3 HV3 b4 B3;refine wpList_store_row rfl 26 _ _ rfl (wb) KD rfl rfl 26 zeros32 (Q4.out) (HKI.out) (by rw [zeros32_size,HKS.out]) (HKA.out) ?_
 simp only [Act.put];have F5:=hid (F4.out.put HBASE.out wb (by have:=HWB.out; have:=HWA.out; omega) KD)
 have B5:=hid (B4.out.put wb (.inr rfl) zeros32 KD (0,0) Q4.out);have R5:=hid ((setRow_other w4 wb wa KD (by have:=HWB.out; omega)).trans R4.out)
 have Q5:=hid (setRow_heap w4 wb zeros32 KD _ _ Q4.out);have HV5:=hid (ss_setRow Q4.out (by rw [zeros32_size]; decide) HBALL.out HV4.out KD)
 have HROW5:Hid (RowIs (w4.setRow wb KD) rb bits (.slice (some ⟨g,o,none⟩) ln c) (A ++ s :: B)):=hid ⟨(setRow_other w4 wb rb KD (by have:=HWRB.out; omega)).trans HROW4.out.1,ss_setRow Q4.out (by rw [zeros32_size]; decide) HLALL.out HROW4.out.2 KD⟩
 generalize w4.setRow wb KD = w5 at F5 B5 R5 Q5 HV5 HROW5 |-;refine wW λK hK=>?_;go_simp;apply hK;clear hK K
 go_upto_region 5 with fail
 refine wp_region_lit ?_;iterate 3 (refine wW λK hK=>?_;go_simp;apply hK;clear hK K)
 refine wW λK hK=>?_;go_simp;go_at_call 61
 refine(HREP.out w5 v HROW5.out HV5.out).mono ?_;rintro e w6 ⟨rfl,sl',hr6,k6,hn6⟩;apply hK;clear hK K;have hsw:wa < w5.heap.size:=lt_of_block R5.out;have R6:=hid ((k6.block wa hsw (by have:=HRBL.out; omega)).trans R5.out)
 have Q6:=hid ((k6.block wb (lt_of_block Q5.out) (by have:=HWRB.out; omega)).trans Q5.out)
 have F6:=hid (F5.out.but.trans (BkBut.of (Nat.le_trans HBASE.out F5.out.kept.size) HBR.out k6));have B6:=hid (B5.out.stayG (StayG.but HROW5.out.1 k6) (by decide) (by decide) (by decide) (by decide))
 have HS5:=hid (show w.heap.size<=wa/\wa < w5.heap.size from⟨by have:=HWA.out; omega,hsw⟩);have HR6:=hid hr6;have HN6:=hid hn6;clear k6 hr6 hsw hn6
 go_upto_region 6 with fail
 refine wp_region_lit ?_;refine wpList_load_row rfl 26 (.tmp 10) rfl (wb) rfl 26 KD (0,0) _ (Q6.out) Try.underlying26 rfl (HKI.out) ?_
 simp only [Act.put,sA,sB,sC];refine wpList_store_row rfl 26 _ _ rfl (wa) KD rfl rfl 26 zeros32 (R6.out) (HKI.out) (by rw [zeros32_size,HKS.out]) (HKA.out) ?_
 simp only [Act.put];have F7:=hid (F6.out.put HBASE.out wa HS5.out.1 KD);have B7:=hid ((B6.out.put wa (.inl (.inr rfl)) zeros32 KD (0,0) R6.out).less X (λk hk=>.inl (.inl hk)))
 have HN7:Hid (NearT w (w6.setRow wa KD) (.slice (some ⟨g,o,none⟩) ln c) sl'):=hid (λk hk=>(HN6.out k hk).imp id (λh=>⟨by have:=HS5.out; omega,by
  obtain⟨cs,fr,hh⟩:=h.2
  exact⟨cs,fr,(setRow_other w6 wa k KD (by have:=HS5.out; have:=h.1; omega)).trans hh⟩⟩))
 have r7:=setRow_heap w6 wa zeros32 KD _ _ R6.out;have hr7:RowIs (w6.setRow wa KD) rb bits sl' (A ++ BES ++ B):=⟨(setRow_other w6 wa rb KD (by have:=HRBL.out; omega)).trans HR6.out.1,ss_setRow R6.out (by rw [zeros32_size]; decide) HALL.out HR6.out.2 KD⟩
 generalize w6.setRow wa KD = w7 at F7 B7 HN7 r7 hr7 |-;have R7:=hid r7;have HR7:=hid hr7;clear r7 hr7;refine wW λK hK=>?_;go_simp;apply hK;clear hK K;go_wp2;refine named_ret rfl wa KD rfl R7.out HKS.out rfl ?_;exact⟨rfl,sl',HR7.out,B7.out,F7.out,HN7.out⟩
theorem play_take_book (base bb n0:Nat)(fs:Facts)(X:Nat->Prop)(n:Nat)(hn:n<=31)(P:List Nat)(hP:P.length<=1000)(l:List UInt8)(hl:l.length = 32)(rb:Nat)(pl:Int){k:List UInt8}{er:Int}{P':List Nat}(ho:Pp.Out n P l pl k er P')(sl:Value)(w:World)(hR:RowIs w rb n sl (Pp.low n P n ⟨0,0,l⟩))(hbk:InBk w base bb fs n0 X)(hbase:base<=w.heap.size)(hX:∀ k,X k->k < w.heap.size)(hmk:MildK 99 fs n0)(hty:Typ w sl)(hbr:base<=rb):
  Calls Try.prog 29 #[.pointer (some ⟨rb,0,none⟩),.pointer (some ⟨bb,0,none⟩),.int .i64 pl] w λe w'=>e = .returned (.tuple #[.agg (bcells k).toArray,.int .i64 er])/\∃ sl',RowIs w' rb n sl' (Pp.low n P' n ⟨0,0,l⟩)/\InBk w' base bb (Pp.noted n P l pl fs) (n0 + 99) X/\BkBut base X rb w w'/\NearT w w' sl sl':=by
 have hn2:n<=32:=by omega
 have hG:=(Pp.low_good n P n ⟨0,0,l⟩ ⟨Nat.zero_le _,Nat.one_pos,hl⟩ (Nat.zero_add _)).1;have hlen:=Pp.low_len32 n hn2 P hP l
 cases ho with
 | out h=>
  rw [Pp.noted_out n P l pl fs h];refine(take_no (some ⟨rb,0,none⟩) (.pointer (some ⟨bb,0,none⟩)) pl 0 1 (by decide) w (λw2 k=>find_out n hn2 _ rb sl pl w2 (hR.kept k) h)).mono ?_
  rintro e w' ⟨rfl,k⟩;exact⟨by rw [zeros_bcells],sl,hR.kept k,(hbk.kept k).upTo (by omega),(BkFr.ofKept hbase k).but,λ_ hk=>.inl hk⟩
 | gone p e hp hm=>
  subst e;rw [Pp.noted_gone n P l p fs hm];refine(take_no (some ⟨rb,0,none⟩) (.pointer (some ⟨bb,0,none⟩)) p 0 10 (by decide) w (λw2 k=>find_gone n hn2 _ rb sl p w2 (hR.kept k) hG (by omega) (by omega) (by omega) (λi hi hh=>Pp.low_none n P p hm n _ _ (List.getElem_mem hi) ⟨by omega,by omega⟩))).mono ?_
  rintro e w' ⟨rfl,k⟩;exact⟨by rw [zeros_bcells],sl,hR.kept k,(hbk.kept k).upTo (by omega),(BkFr.ofKept hbase k).but,λ_ hk=>.inl hk⟩
 | fresh p e hp hm=>
  subst e;rw [Pp.noted_fresh n P l p fs hp hm];obtain⟨A,x,B,h1,h2,h3⟩:=Pp.low_at n P l p hp hm;have hxm:x∈Pp.low n P n ⟨0,0,l⟩:=by rw [h1]; simp
  have hff:=Pp.found_facts n P p l hl hp x hxm h2 fs;have hkk:=Pp.key_at hl hp hm h1 h2;have hlt:=(hG.1 x hxm).1;rw [h1] at hR hG hlen;refine(take_bookX base bb n0 fs X n hn2 A B x rb sl p w hR hG (by omega) hp h2.1 h2.2 hbk hbase hX ⟨by have:=hmk.1; omega,by have:=hmk.2.1; omega,hmk.2.2⟩ hty hbr).mono ?_
  rintro e w' ⟨rfl,sl',hr,q,f,hn'⟩;rw [hff] at q;rw [<- h3] at hr;exact⟨by rw [hkk],sl',hr,q.upTo (by omega),f,hn'⟩
end Go.Proofs.Ytanfnafiofkihaa.Bx
