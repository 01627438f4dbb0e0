/-
 Opening vertices that come in.
-/
import Derived.Test.YtfbfdaeagpdaiaaGA
import Derived.Test.YtfbfdaeagpdaiaaDagHeadMem
import Derived.Lib.SmallJoins
namespace Go.Proofs.Ytfbfdaeagpdaiaa
open Go.ChangeShapes Go.WideShapes Go.ChangeAt Go.RowKit Go.Deep Go.Lib Go.Joins
section
variable {H:Type} {enc:TypeId × Value→H} {P:Program} {w:World} {base:Nat} {spare:Nat→Bool} {held:Bool}
theorem open_slice {t e:TypeId}(ht:P.underlying t = some (.slice e)){fuel:Nat}{cs:List Value}{x:DataW H × List MemPlace}(h:DataW.trod enc P w base spare held fuel t cs = some x):
  cs = [.slice none 0 0]∨∃ a len cap,cs = [.slice (some a) len cap]∧∃ n E R,x.1 = .slice E R∧∀ i,i < len→∃ es y,w.cells? base (a.add (i * P.cellsOf e)) (P.cellsOf e) = some es∧DataW.trod enc P w base spare held n e es = some y∧y.1∈E:=by
 rcases DataW.trod_slice ht h with ⟨h0,_⟩ | ⟨a,len,cap,elems,rest,n,_,rfl,rfl,_,_,_,hlen,hel,_,_⟩
 ·exact .inl h0
 ·refine .inr ⟨a,len,cap,rfl,n,_,_,rfl,fun i hi=>?_⟩
  have h1:=hel i hi;rw [List.getElem?_eq_getElem (by omega)] at h1
  obtain⟨es,h2,h3⟩:=Option.bind_eq_some_iff.1 h1;exact⟨es,_,h2,h3,List.mem_map_of_mem (List.getElem_mem _)⟩
theorem spot_of {a:Addr}{m n:Nat}{es:List Value}(hn:0 < n)(h:w.cells? base (a.add (0 * m)) n = some es):a.spot = none:=by
 obtain⟨_,hl,hc⟩:=World.cells?_some h;have h0:=hc 0 hn;rw [List.getElem?_eq_getElem (by omega),Nat.zero_mul] at h0
 simpa [Addr.add] using World.cell?_spot h0
theorem cells_spot {a:Addr}{k n:Nat}{es:List Value}(hs:a.spot = none)(hn:0 < n)(h:w.cells? base (a.add k) n = some es):a.block < w.heap.size∧es.length = n∧∀ j v,es[j]? = some v→w.cell? ⟨a.block,a.off + k + j,none⟩ = some v:=by
 obtain⟨_,hl,hc⟩:=World.cells?_some h;have h0:=hc 0 hn;rw [List.getElem?_eq_getElem (by omega)] at h0
 obtain⟨g,o,s⟩:=a;simp only at hs;subst hs;rw [Addr.add_lit,Addr.add_lit] at h0;have hg:g < w.heap.size:=World.block_lt_of_cell? w ⟨g,o + k + 0,none⟩ h0;refine⟨hg,hl,fun j v hj=>?_⟩
 have hj':j < n:=by
  have:=(List.getElem?_eq_some_iff.1 hj).1
  omega
 have h1:=hc j hj';rw [Addr.add_lit,Addr.add_lit] at h1;rw [← hj,← h1]
end
instance:Inhabited Vx:=⟨Vx.zero⟩
theorem vertexCells15:Try.prog.cellsOf 32 = 66:=by kernel_rfl
theorem intCells15:Try.prog.cellsOf 3 = 1:=by kernel_rfl
theorem open_vertices15 {H:Type}{enc:TypeId × Value→H}{w:World}{v:Value}{d:DataW H}{p:List MemPlace}(hv:∃ ao len cap,v = .slice ao len cap)(h:DataW.Trod enc Try.prog w 0 (fun _=>true) true 22 v d p):∃ M,Va w v M:=by
 obtain⟨ao,len0,cap0,rfl⟩:=hv;obtain⟨fuel,hf⟩:=h
 rcases open_slice Try.underlying22 hf with hc | ⟨a,len,cap,hc,n,EE,RR,hEE,hel⟩
 ·simp [Value.cells] at hc
  obtain⟨rfl,rfl,rfl⟩:=hc;exact⟨[],(fun x hx=>nomatch hx),none,0,0,0,rfl,fun i hi=>absurd hi (Nat.not_lt_zero _)⟩
 ·simp [Value.cells] at hc
  obtain⟨rfl,rfl,rfl⟩:=hc;rw [vertexCells15] at hel
  have key:∀ i,i < len0→∃ l:Vx,l.Ok∧a.spot = none∧a.block < w.heap.size∧w.rangeAt a.block (a.off + i * 66) l.cells:=fun i hi=>by
   obtain⟨es,y,h1,h2,_⟩:=hel i hi;obtain⟨y0,y1,y2,y3,m,_,hl,g0,g1,g2,g3⟩:=trod_struct4 Try.underlying32 h2
   rw [vertexCells15] at hl;simp only at g0 g1 g2 g3;rw [hashCells30] at g0 g1;rw [intCells15] at g2 g3;obtain⟨la,hla,ha⟩:=open_hash_cells g0;obtain⟨lb,hlb,hb⟩:=open_hash_cells g1;obtain⟨dn,hd,_⟩:=DataW.trod_int Try.underlying3 g2
   obtain⟨tn,ht,_⟩:=DataW.trod_int Try.underlying3 g3
   have e1:a.spot = none:=by
    obtain⟨_,_,h0,_⟩:=hel 0 (by omega)
    exact spot_of (by decide) h0
   obtain⟨e2,_,e3⟩:=cells_spot e1 (by decide) h1
   refine⟨⟨la,lb,dn,tn⟩,⟨hla,hlb⟩,e1,e2,fun j u hj=>e3 j u ?_⟩
   have hsplit:es = (es.drop 0).take 32 ++ ((es.drop 32).take 32 ++ ((es.drop 64).take 1 ++ (es.drop 65).take 1)):=by
    have e65:(es.drop 65).take 1 = es.drop 65:=List.take_of_length_le (by rw [List.length_drop]; omega)
    rw [e65,show es.drop 65 = (es.drop 64).drop 1 by rw [List.drop_drop],List.take_append_drop,show es.drop 64 = (es.drop 32).drop 32 by rw [List.drop_drop],List.take_append_drop,List.drop_zero,List.take_append_drop]
   rw [hsplit,ha,hb,hd,ht];exact hj
  obtain⟨f,hf⟩:=choose_lt (α:=Vx) key;refine⟨(List.range len0).map f,fun x hx=>?_,some a,a.block,a.off,cap0,by simp,fun i hi=>?_⟩
  ·obtain⟨i,hi,rfl⟩:=List.mem_map.1 hx
   exact(hf i (List.mem_range.1 hi)).1
  ·have hi':i < len0:=by simpa using hi
   obtain⟨hok,e1,e2,e3⟩:=hf i hi';refine⟨?_,e2,?_⟩
   ·obtain⟨g,o,s⟩:=a
    simp only at e1;subst e1
    rfl
   ·simpa using e3
end Go.Proofs.Ytfbfdaeagpdaiaa
