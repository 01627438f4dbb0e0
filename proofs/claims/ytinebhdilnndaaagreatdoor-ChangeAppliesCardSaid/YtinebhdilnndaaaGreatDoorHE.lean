/-
 Opening a tree that comes in.
-/
import Derived.Test.YtinebhdilnndaaaGreatDoorTreeRight
import Derived.Test.YtinebhdilnndaaaGreatDoorGD
import Derived.Test.YtinebhdilnndaaaGreatDoorGS
import Derived.Lib.SmallJoins
namespace Go.Proofs.YtinebhdilnndaaaGreatDoor
open Go.ChangeShapes Go.WideShapes Go.ChangeAt Go.RowKit Go.Deep Go.Lib Go.Joins
instance:Inhabited Lf:=⟨Lf.zero⟩
instance:Inhabited Pr:=⟨Pr.zero⟩
theorem leafCells:Tryz.prog.cellsOf 48 = 97:=by kernel_rfl
theorem parentCells:Tryz.prog.cellsOf 68 = 66:=by kernel_rfl
theorem treeCells:Tryz.prog.cellsOf 25 = 2:=by kernel_rfl
theorem leavesCells:Tryz.prog.cellsOf 22 = 1:=by kernel_rfl
theorem parentsCells:Tryz.prog.cellsOf 23 = 1:=by kernel_rfl
theorem intCells8:Tryz.prog.cellsOf 3 = 1:=by kernel_rfl
theorem intsCells8:Tryz.prog.cellsOf 38 = 1:=by kernel_rfl
theorem boolCells8:Tryz.prog.cellsOf 4 = 1:=by kernel_rfl
section
variable {H:Type} {enc:TypeId × Value->H} {w:World} {fuel:Nat} {cs:List Value} {x:DataW H × List MemPlace}
theorem slice_cap {t e:TypeId}(ht:Tryz.prog.underlying t = some (.slice e))(h:DataW.trod enc Tryz.prog w 0 (λ_=>true) true fuel t cs = some x):∀ ad n c,cs = [.slice ad n c]->n<=c:=λad n c hc=>by
 subst hc
 rcases DataW.trod_slice ht h with ⟨h0,_⟩ | ⟨a,len,cap,elems,rest,m,_,h0,h1,_,h2,_⟩
 ·simp at h0
  obtain⟨rfl,rfl,rfl⟩:=h0;exact Nat.le_refl _
 ·simp at h0
  obtain⟨rfl,rfl,rfl⟩:=h0;exact h2
theorem open_nums_cells (h:DataW.trod enc Tryz.prog w 0 (λ_=>true) true fuel 38 cs = some x):∃ v L,cs = [v]/\Nums w v L:=by
 rcases open_ints Tryz.underlying38 Tryz.underlying3 intCells8 h with ⟨hcs,_⟩ | ⟨a,len',cap',zs,hcs,_,hl,hm,hz,_,hcell,_⟩
 ·exact⟨_,[],hcs,none,0,0,0,rfl,λj hj=>absurd hj (Nat.not_lt_zero _)⟩
 ·simp only [if_true] at hz
  have hlen:(zs.take len').length = len':=by rw [List.length_take]; omega
  obtain⟨g,o,spot⟩:=a;refine⟨_,zs.take len',hcs,some ⟨g,o,spot⟩,cap',g,o,by rw [hlen],λj hj=>?_⟩
  have hj':j < zs.length:=by rw [hlen] at hj; omega
  have h1:=hcell j hj';have h00:=hcell 0 (by omega)
  have hspot:spot = none:=by simpa [Addr.add] using World.cell?_spot h00
  clear h00;subst hspot;rw [Addr.add_lit] at h1;refine⟨rfl,World.block_lt_of_cell? _ _ h1,?_⟩;rw [h1,List.getElem_take,List.getD_eq_getElem?_getD,List.getElem?_eq_getElem hj']
  rfl
theorem open_leaves_cells (h:DataW.trod enc Tryz.prog w 0 (λ_=>true) true fuel 22 cs = some x):∃ v L,cs = [v]/\Lvs w v L:=by
 have hcap:=slice_cap Tryz.underlying22 h
 rcases open_slice Tryz.underlying22 h with rfl | ⟨a,len,cap,rfl,n,EE,RR,hEE,hel⟩
 ·exact⟨_,[],rfl,none,0,0,0,rfl,λi hi=>absurd hi (Nat.not_lt_zero _),Nat.le_refl _⟩
 ·have hlc:=hcap _ _ _ rfl
  rw [leafCells] at hel
  have key:∀ i,i < len->∃ l:Lf,l.Ok/\a.spot = none/\a.block < w.heap.size/\w.rangeAt a.block (a.off + i * 97) l.cells:=λi hi=>by
   obtain⟨es,y,h1,h2,_⟩:=hel i hi;obtain⟨y0,y1,y2,y3,m,_,hl,g0,g1,g2,g3⟩:=trod_struct4 Tryz.underlying48 h2
   rw [leafCells] at hl;simp only at g0 g1 g2 g3;rw [intCells8] at g0;rw [hashCells30] at g1 g2 g3;obtain⟨nm,hn,_⟩:=DataW.trod_int Tryz.underlying3 g0
   obtain⟨la,hla,ha⟩:=open_hash_cells g1;obtain⟨lb,hlb,hb⟩:=open_hash_cells g2;obtain⟨lc,hlc2,hc⟩:=open_hash_cells g3
   have e1:a.spot = none:=by
    obtain⟨_,_,h0,_⟩:=hel 0 (by omega)
    exact spot_of (by decide) h0
   obtain⟨e2,_,e3⟩:=cells_spot e1 (by decide) h1
   refine⟨⟨nm,la,lb,lc⟩,⟨hla,hlb,hlc2⟩,e1,e2,λj u hj=>e3 j u ?_⟩
   have hsplit:es = (es.drop 0).take 1 ++ ((es.drop 1).take 32 ++ ((es.drop 33).take 32 ++ (es.drop 65).take 32)):=by
    have e65:(es.drop 65).take 32 = es.drop 65:=List.take_of_length_le (by rw [List.length_drop]; omega)
    rw [e65,show es.drop 65 = (es.drop 33).drop 32 by rw [List.drop_drop],List.take_append_drop,show es.drop 33 = (es.drop 1).drop 32 by rw [List.drop_drop],List.take_append_drop,List.drop_zero,List.take_append_drop]
   rw [hsplit,hn,ha,hb,hc];exact hj
  obtain⟨f,hf⟩:=choose_lt (α:=Lf) key;refine⟨_,(List.range len).map f,rfl,some a,a.block,a.off,cap,by simp,λi hi=>?_,by simpa using hlc⟩
  have hi':i < len:=by simpa using hi
  obtain⟨hok,e1,e2,e3⟩:=hf i hi';refine⟨?_,e2,?_,?_⟩
  ·obtain⟨g,o,s⟩:=a
   simp only at e1;subst e1
   rfl
  ·simpa using hok
  ·simpa using e3
theorem open_parents_cells (h:DataW.trod enc Tryz.prog w 0 (λ_=>true) true fuel 23 cs = some x):∃ v L,cs = [v]/\Pts w v L:=by
 have hcap:=slice_cap Tryz.underlying23 h
 rcases open_slice Tryz.underlying23 h with rfl | ⟨a,len,cap,rfl,n,EE,RR,hEE,hel⟩
 ·exact⟨_,[],rfl,none,0,0,0,rfl,λi hi=>absurd hi (Nat.not_lt_zero _),Nat.le_refl _⟩
 ·have hlc:=hcap _ _ _ rfl
  rw [parentCells] at hel
  have key:∀ i,i < len->∃ p:Pr,p.Ok/\a.spot = none/\a.block < w.heap.size/\∃ sl,w.rangeAt a.block (a.off + i * 66) (p.cells sl)/\Nums w sl p.loose:=λi hi=>by
   obtain⟨es,y,h1,h2,_⟩:=hel i hi;obtain⟨y0,y1,y2,y3,m,_,hl,g0,g1,g2,g3⟩:=trod_struct4 Tryz.underlying68 h2
   rw [parentCells] at hl;simp only at g0 g1 g2 g3;rw [boolCells8] at g0;rw [hashCells30] at g1 g2;rw [intsCells8] at g3;obtain⟨st,hn,_⟩:=DataW.trod_bool Tryz.underlying4 g0
   obtain⟨la,hla,ha⟩:=open_hash_cells g1;obtain⟨lb,hlb,hb⟩:=open_hash_cells g2;obtain⟨sl,ls,hc,hs⟩:=open_nums_cells g3
   have e1:a.spot = none:=by
    obtain⟨_,_,h0,_⟩:=hel 0 (by omega)
    exact spot_of (by decide) h0
   obtain⟨e2,_,e3⟩:=cells_spot e1 (by decide) h1
   refine⟨⟨st,la,lb,ls⟩,⟨hla,hlb⟩,e1,e2,sl,λj u hj=>e3 j u ?_,hs⟩
   have hsplit:es = (es.drop 0).take 1 ++ ((es.drop 1).take 32 ++ ((es.drop 33).take 32 ++ (es.drop 65).take 1)):=by
    have e65:(es.drop 65).take 1 = es.drop 65:=List.take_of_length_le (by rw [List.length_drop]; omega)
    rw [e65,show es.drop 65 = (es.drop 33).drop 32 by rw [List.drop_drop],List.take_append_drop,show es.drop 33 = (es.drop 1).drop 32 by rw [List.drop_drop],List.take_append_drop,List.drop_zero,List.take_append_drop]
   rw [hsplit,hn,ha,hb,hc];exact hj
  obtain⟨f,hf⟩:=choose_lt (α:=Pr) key;refine⟨_,(List.range len).map f,rfl,some a,a.block,a.off,cap,by simp,λi hi=>?_,by simpa using hlc⟩
  have hi':i < len:=by simpa using hi
  obtain⟨hok,e1,e2,sl,e3,hs⟩:=hf i hi';refine⟨?_,e2,?_,sl,?_,?_⟩
  ·obtain⟨g,o,s⟩:=a
   simp only at e1;subst e1
   rfl
  ·simpa using hok
  ·simpa using e3
  ·simpa using hs
end
end Go.Proofs.YtinebhdilnndaaaGreatDoor
