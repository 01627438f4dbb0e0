/-
 BookAwakeMath; BookAwakeRow; BookNoted; BookFewMath: several texts in one.
-/
import Derived.Test.YtanfnafiofkihaaGD
import Derived.Test.YtanfnafiofkihaaGG
import Derived.Test.YtanfnafiofkihaaGF
import Derived.OwnWalk
namespace Go.Proofs.Ytanfnafiofkihaa
def dg (i:UInt8):List UInt8:=i :: List.replicate 31 0
def exf1:List (List UInt8) × List (List UInt8):=([dg 1],[dg 2])
def exf2:List (List UInt8) × List (List UInt8):=([dg 2,dg 3],[dg 4])
end Go.Proofs.Ytanfnafiofkihaa
namespace Go.Proofs.Ytanfnafiofkihaa
open Go.RowKit Go.Lib
open List renaming setIfInBounds_toArray -> sA, set_cons_zero -> sB, set_cons_succ -> sC
open BigFrame renaming wpList_want -> wQ
section
variable {P:Program} {ops:Array Oper} {rest:List Oper} {o:Oper} {a:Act} {w w':World} {Q:Exit->Act->World->Prop}
theorem wpList_build_k (hgd:o.guard = none)(t:TypeId)(x:Operand)(ho:o.op = .build t #[(0,x)])(v:Value){u:Value}(hx:a.eval x = v)(hr:(Instr.build t #[(0,v)]).run P w = .ok u w)(hk:wpList P ops Q rest (a.put o.dst u) w):wpList P ops Q (o :: rest) a w:=by
 refine wpList_plain hgd λK hK=>?_
 unfold Oper.wp execOp;simp only [ho,List.map_toArray,List.map_cons,List.map_nil,hx,Sem.run_bind,hr,Result.andThen_ok,Sem.run_pure];exact hK _ _ hk
theorem wpList_alloc_k (hgd:o.guard = none)(t:TypeId)(ho:o.op = .alloc t){u:Value}(hr:(Instr.alloc t true (.tuple #[])).run P w = .ok u w')(hk:wpList P ops Q rest (a.put o.dst u) w'):wpList P ops Q (o :: rest) a w:=by
 refine wpList_plain hgd λK hK=>?_
 unfold Oper.wp execOp;simp only [ho,Sem.run_bind,hr,Result.andThen_ok,Sem.run_pure];exact hK _ _ hk
end
theorem alloc_zero (w:World):(Instr.alloc 26 true (.tuple #[])).run Try.prog w = .ok (.pointer (some ⟨w.heap.size,0,none⟩)) (w.alloc (.cells zeros32 26)):=by
 rw [<- zeros32_eq];kernel_rfl
theorem hs_one {w:World}{g c:Nat}{l:List UInt8}(hl:l.length = 32)(h:w.heap[g]? = some (.cells (bcells l).toArray 26 (0,0))):Hs w (.slice (some ⟨g,0,none⟩) 1 c) [l]:=⟨λx hx=>by rw [List.mem_singleton.1 hx]; exact hl,some ⟨g,0,none⟩,g,0,c,rfl,λi hi=>by
 obtain rfl:i = 0:=by simp at hi; omega
 exact⟨rfl,lt_of_block h,λj v hv=>by rw [Nat.zero_mul,Nat.zero_add]; exact cells_get h hv⟩⟩
theorem hs_two {w:World}{g c:Nat}{l m:List UInt8}(hl:l.length = 32)(hm:m.length = 32)(h:w.heap[g]? = some (.cells (bcells l ++ bcells m).toArray 26 (0,0))):Hs w (.slice (some ⟨g,0,none⟩) 2 c) [l,m]:=by
 refine⟨λx hx=>?_,some ⟨g,0,none⟩,g,0,c,rfl,λi hi=>?_⟩
 ·rcases List.mem_cons.1 hx with rfl | hx
  ·exact hl
  ·rw [List.mem_singleton.1 hx]
   exact hm
 ·have hi2:i = 0\/i = 1:=by simp at hi; omega
  rcases hi2 with rfl | rfl
  ·refine⟨rfl,lt_of_block h,λj v hv=>?_⟩
   rw [Nat.zero_mul,Nat.zero_add];refine cells_get h ?_;have hv2:(bcells l)[j]? = some v:=hv;rw [List.getElem?_append_left (List.getElem?_eq_some_iff.1 hv2).1];exact hv2
  ·refine⟨rfl,lt_of_block h,λj v hv=>?_⟩
   rw [Nat.one_mul,Nat.zero_add];refine cells_get h ?_;have hbl:(bcells l).length = 32:=by rw [bcells_length,hl]
   rw [List.getElem?_append_right (by omega),hbl,Nat.add_sub_cancel_left]
   exact hv
theorem OwnF.bk {w w':World}{base b:Nat}{v:Value}{L:List (List (List UInt8) × List (List UInt8))}(h:OwnF w base v L)(k:BkFr b w w'):OwnF w' base v L:=by
 obtain⟨ps,hl,ho,hp⟩:=h
 have one:∀ {B:Nat} {u:Value} {M:List (List UInt8)},Own w B u M->Own w' B u M:=fun {B u M} h=>by
  refine⟨h.1,h.2.1,?_⟩
  rcases h.2.2 with h1 | ⟨g,cap,cur,rfl,hb2,hh,rest⟩
  ·exact .inl h1
  ·exact .inr ⟨g,cap,cur,rfl,hb2,k.oth _ _ _ _ hh (by decide) (by decide) (by decide),rest⟩
 refine⟨ps,hl,⟨ho.1,?_⟩,λi hi hpi=>⟨one (hp i hi hpi).1,one (hp i hi hpi).2⟩⟩
 rcases ho.2 with h1 | ⟨g,cap,cur,rfl,hb2,hh,rest⟩
 ·exact .inl h1
 ·exact .inr ⟨g,cap,cur,rfl,hb2,k.oth _ _ _ _ hh (by decide) (by decide) (by decide),rest⟩
def notes (L:List (List (List UInt8) × List (List UInt8))):List (List (List UInt8) × List (List UInt8)):=L.foldl Bk.note []
theorem bknote_length (fs:List (List (List UInt8) × List (List UInt8)))(f:List (List UInt8) × List (List UInt8)):(Bk.note fs f).length<=fs.length + 1:=by
 unfold Bk.note
 split
 ·omega
 ·split
  ·omega
  ·simp
theorem bknote_mem (fs:List (List (List UInt8) × List (List UInt8)))(f g:List (List UInt8) × List (List UInt8))(h:g∈Bk.note fs f):g∈fs\/g = f:=by
 unfold Bk.note at h
 split at h
 ·exact .inl h
 ·split at h
  ·exact .inl h
  ·simpa using h
def NotedPost (L:List (List (List UInt8) × List (List UInt8)))(w:World)(e:Ending)(w':World):Prop:=
 ∃ bb u,e = .returned (.tuple #[.pointer (some ⟨bb,0,none⟩),u,.bool true])/\(∃ n,n<=62 * L.length/\∃ S,Bok w' w.heap.size bb (notes L) n (λ_=>none) S)/\OwnF w' w.heap.size u (notes L)/\Kept w.heap.size w.heap.size w w'
theorem outs_le (b:Nat):∀ (fs:List (List (List UInt8) × List (List UInt8))),(∀ f∈fs,f.2.length<=b)->(Bk.outs fs).length<=fs.length * b
 | [],_=>by simp [Bk.outs]
 | f :: fs,h=>by
  have h1:=outs_le b fs (λg hg=>h g (by simp [hg]))
  have h2:=h f (by simp)
  simp only [Bk.outs,List.flatMap_cons,List.length_append,List.length_cons] at h1 |-;rw [Nat.add_mul]
  omega
theorem is_length {fs:List (List (List UInt8) × List (List UInt8))}{fr M:List (List UInt8)}(h:Bk.Is fs fr M):M.length<=fr.length + (Bk.outs fs).length:=by
 have hn:M.Nodup:=h.rising.imp fun {a b} hab e=>by
  subst e;rw [Bk.less_irrefl] at hab
  cases hab
 have:=Bk.nodup_le M (fr ++ Bk.outs fs) hn (λx hx=>Bk.cl_mem ((h.mem x).1 hx))
 rwa [List.length_append] at this
theorem Bok.low {w w':World}{base bb n:Nat}{fs:List (List (List UInt8) × List (List UInt8))}{nmf:Lit->Option Value}(h:∃ S,Bok w base bb fs n nmf S)(k:Kept w.heap.size w.heap.size w w'):∃ S,Bok w' base bb fs n nmf S:=by
 obtain⟨S,hB⟩:=h;exact⟨S,hB.kept k⟩
end Go.Proofs.Ytanfnafiofkihaa
