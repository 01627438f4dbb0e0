/-
 Opening bytes that come in, for the law DagOrders.
-/
import Derived.Test.YtfbfdaeagpdaiaaDagOpen
import Derived.Test.YtfbfdaeagpdaiaaDagOrdMem
namespace Go.Proofs.Ytfbfdaeagpdaiaa
open Go.ChangeShapes Go.WideShapes Go.ChangeAt Go.RowKit Go.Deep Go.Lib Go.Joins
theorem u8Cells15:Try.prog.cellsOf 5 = 1:=by kernel_rfl
theorem open_bytes15 {H:Type}{enc:TypeId × Value→H}{w:World}{v:Value}{d:DataW H}{p:List MemPlace}(hv:∃ ao len cap,v = .slice ao len cap)(h:DataW.Trod enc Try.prog w 0 (fun _=>true) true 23 v d p):∃ n,Bs15 w v n:=by
 obtain⟨ao,len,cap,rfl⟩:=hv;obtain⟨fuel,hf⟩:=h
 rcases open_ints Try.underlying23 Try.underlying5 u8Cells15 hf with ⟨hcs,_⟩ | ⟨a,len',cap',zs,hcs,_,hl,hm,hz,_,hcell,hwz⟩
 ·simp [Value.cells] at hcs
  obtain⟨rfl,rfl,rfl⟩:=hcs;exact⟨0,none,0,0,0,rfl,fun i hi=>absurd hi (Nat.not_lt_zero _)⟩
 ·simp [Value.cells] at hcs
  obtain⟨rfl,rfl,rfl⟩:=hcs;simp at hz
  have hb:∀ i,i < zs.length→0≤zs.getD i 0∧zs.getD i 0≤255:=fun i hi=>by
   rw [List.getD_eq_getElem?_getD,List.getElem?_eq_getElem hi];exact bounds_u8 (hwz _ (List.getElem_mem hi))
  rcases Nat.eq_zero_or_pos len with h0 | h0
  ·subst h0
   exact⟨0,some a,0,0,_,rfl,fun i hi=>absurd hi (Nat.not_lt_zero _)⟩
  ·obtain⟨g,o,rfl,hc⟩:=ints_at hcell (by omega)
   refine⟨len,some ⟨g,o,none⟩,g,o,_,rfl,fun i hi=>⟨zs.getD i 0,rfl,World.block_lt_of_cell? _ _ (hc 0 (by omega)),?_,(hb i (by omega)).1,(hb i (by omega)).2⟩⟩
   rw [hc i (by omega)]
end Go.Proofs.Ytfbfdaeagpdaiaa
