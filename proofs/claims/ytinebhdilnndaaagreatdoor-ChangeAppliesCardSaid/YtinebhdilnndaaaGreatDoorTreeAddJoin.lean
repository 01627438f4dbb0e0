/-
 Add of a right tree: what is made, where, and the error's number, by the program and by the document alike.
-/
import Derived.Test.YtinebhdilnndaaaGreatDoorTreeRefAdd
import Derived.Test.YtinebhdilnndaaaGreatDoorTreeJoinMath
import Derived.Test.YtinebhdilnndaaaGreatDoorTreeAwake
import Derived.Test.YtinebhdilnndaaaGreatDoorTreeRefRight
namespace Go.Proofs.YtinebhdilnndaaaGreatDoor
open Go.RowKit Go.Lib
open List renaming setIfInBounds_toArray -> sA, set_cons_zero -> sB, set_cons_succ -> sC
open BigFrame renaming wpList_want -> wQ
namespace Tt
def addErr (L:List Lf)(n:Int):Int:=if (decide (1<=n) && decide (n<=64)) = true then (if 0<=index L n then 8 else if firstBlank L = 64 then 9 else 0) else 1
def addAt (L:List Lf)(n:Int):Int:=if addErr L n = 0 then (firstBlank L:Int) else 0
def putL (L:List Lf)(l:Lf):List Lf:=if addErr L l.name = 0 then addL L l else []
def putP (L:List Lf)(P:List Pr)(n:Int):List Pr:=if addErr L n = 0 then addP L P else []
theorem index_or (L:List Lf)(n:Int):0<=index L n\/index L n = -1:=by
 unfold index
 cases L.findIdx? (λl=>l.name == n) with
 | none=>exact .inr rfl
 | some k=>exact .inl (Int.natCast_nonneg k)
theorem loose_rises (L:List Lf)(b:Int):∀ (l:List Int) (f:Int),looseOk L b f l = true->l.Pairwise (·<=·)/\∀ x∈l,f<=x
 | [],_,_=>⟨List.Pairwise.nil,λ_ h=>nomatch h⟩
 | x :: xs,f,h=>by
  unfold looseOk at h;simp only [Bool.and_eq_true,decide_eq_true_eq] at h;obtain⟨h1,_,_,h3⟩:=h;obtain⟨h4,h5⟩:=loose_rises L b xs (x + 1) h3;refine⟨List.pairwise_cons.2 ⟨λy hy=>by have:=h5 y hy; omega,h4⟩,λy hy=>?_⟩
  rcases List.mem_cons.1 hy with e | e
  ·omega
  ·have:=h5 y e; omega
theorem parents_rise {L:List Lf}:∀ (P:List Pr) (i:Nat),parentsOk L i P = true->∀ p∈P,p.loose.Pairwise (·<=·)
 | [],_,_=>λ_ h=>nomatch h
 | q :: P,i,h=>by
  unfold parentsOk at h;rw [Bool.and_eq_true] at h;intro p hp
  rcases List.mem_cons.1 hp with e | e
  ·have h1:=h.1
   unfold parentOk at h1;rw [e]
   split at h1
   ·exact(loose_rises L _ _ _ h1).1
   ·simp only [Bool.and_eq_true,beq_iff_eq] at h1
    rw [List.length_eq_zero_iff.1 h1.2.2];exact List.Pairwise.nil
  ·exact parents_rise P (i + 1) h.2 p e
theorem addWays (L:List Lf)(n:Int):((decide (1<=n) && decide (n<=64)) = false/\addErr L n = 1)\/((decide (1<=n) && decide (n<=64)) = true/\0<=index L n/\addErr L n = 8)\/((decide (1<=n) && decide (n<=64)) = true/\index L n = -1/\firstBlank L = 64/\addErr L n = 9)\/((decide (1<=n) && decide (n<=64)) = true/\index L n = -1/\firstBlank L≠64/\addErr L n = 0):=by
 unfold addErr
 cases h:(decide (1<=n) && decide (n<=64)) with
 | false=>exact .inl ⟨rfl,rfl⟩
 | true=>
  rw [if_pos rfl]
  rcases index_or L n with h1 | h1
  ·rw [if_pos h1]
   exact .inr (.inl ⟨rfl,h1,rfl⟩)
  ·rw [h1,if_neg (by decide)]
   by_cases h2:firstBlank L = 64
   ·rw [if_pos h2]
    exact .inr (.inr (.inl ⟨rfl,rfl,h2,rfl⟩))
   ·rw [if_neg h2]
    exact .inr (.inr (.inr ⟨rfl,rfl,h2,rfl⟩))
end Tt
section
variable (lv pv:Value) (L:List Lf) (P:List Pr) (l:Lf) (hlo:l.Ok) (w:World) (hL:Lvs w lv L) (hP:Pts w pv P) (hpl:∀ p∈P,p.loose.length<=1000) (hr:Tt.right L P = true)
include hL hP hpl hr hlo
theorem add_any:Calls Tryz.prog 83 #[.agg #[lv,pv],.agg l.cells.toArray] w λe w'=>∃ lv' pv',e = .returned (.tuple #[.agg #[lv',pv'],.int .i64 (Tt.addAt L l.name),.int .i64 (Tt.addErr L l.name)])/\Kept w.heap.size w.heap.size w w'/\∃ SL,Mine (λk=>k < w.heap.size) w' lv' pv' (Tt.putL L l) (Tt.putP L P l.name) SL:=by
 obtain⟨h64,hpe,hpo⟩:=Tt.right_parts hr;have hn:L.length<=1000:=by omega
 have hp:P.length<=1000:=by omega
 have hbad:∀ (c:Int),c≠0->Tt.addErr L l.name = c->∀ (e:Ending) (w':World),e = .returned (.tuple #[.agg #[.slice none 0 0,.slice none 0 0],.int .i64 0,.int .i64 c])/\Kept w.heap.size w.heap.size w w'->∃ lv' pv',e = .returned (.tuple #[.agg #[lv',pv'],.int .i64 (Tt.addAt L l.name),.int .i64 (Tt.addErr L l.name)])/\Kept w.heap.size w.heap.size w w'/\∃ SL,Mine (λk=>k < w.heap.size) w' lv' pv' (Tt.putL L l) (Tt.putP L P l.name) SL:=λc hc he e w' h=>by
  obtain⟨rfl,k⟩:=h;refine⟨_,_,by unfold Tt.addAt; rw [he,if_neg hc],k,[],?_⟩
  unfold Tt.putL Tt.putP;rw [he,if_neg hc,if_neg hc];exact Mine.empty (λk=>k < w.heap.size) w' (λj hj=>Nat.lt_of_lt_of_le hj k.size)
 rcases Tt.addWays L l.name with ⟨h1,he⟩ | ⟨h1,h2,he⟩ | ⟨h1,h2,h3,he⟩ | ⟨h1,h2,h3,he⟩
 ·exact(add_bad1 lv pv L P l w hL hP hn hp hpl hlo hr h1).mono (λe w' h=>hbad 1 (by decide) he e w' h)
 ·exact(add_bad8 lv pv L P l w hL hP hn hp hpl hlo hr h1 h2).mono (λe w' h=>hbad 8 (by decide) he e w' h)
 ·exact(add_bad9 lv pv L P l w hL hP hn hp hpl hlo hr h1 h2 h3).mono (λe w' h=>hbad 9 (by decide) he e w' h)
 ·have h5:1<=l.name/\l.name<=64:=by
   rw [Bool.and_eq_true,decide_eq_true_eq,decide_eq_true_eq] at h1;exact h1
  refine(add_ok lv pv L P l w hL hP hn hp hpl hlo hr h5.1 h5.2 h2 h3 (λj p=>66<=j\/(p.loose.Pairwise (·<=·)/\p.loose.length<=64 + j)) (λp hp=>.inr ⟨Tt.parents_rise P 0 hpo p hp,Tt.parents_loose h64 P 0 hpo p hp⟩) (.inr ⟨List.Pairwise.nil,Nat.zero_le _⟩) (λj p hc=>?_) (loosen_any _)).mono ?_
  ·rcases hc with hc | ⟨c1,c2⟩
   ·exact⟨.inl (by omega),.inl (by omega)⟩
   ·refine⟨.inr ⟨c1,by omega⟩,.inr ?_⟩
    unfold Tt.loosened
    split
    ·refine⟨put_rises _ _ c1,?_⟩
     show(Tt.put p.loose _).length<=_;rw [put_length]
     omega
    ·exact⟨c1,by omega⟩
  ·rintro e w' ⟨lv',pv',rfl,hkk,SL,hm⟩
   refine⟨lv',pv',by unfold Tt.addAt; rw [he,if_pos rfl],hkk,SL,?_⟩
   unfold Tt.putL Tt.putP;rw [he,if_pos rfl,if_pos rfl];exact hm
theorem refadd_any:Calls Tryz.prog 41 #[.agg #[lv,pv],.agg l.cells.toArray] w λe w'=>∃ lv' pv',e = .returned (.tuple #[.agg #[lv',pv'],.int .i64 (Tt.addAt L l.name),.int .i64 (Tt.addErr L l.name)])/\Kept w.heap.size w.heap.size w w'/\∃ SL,Mine (λk=>k < w.heap.size) w' lv' pv' (Tt.putL L l) (Tt.putP L P l.name) SL:=by
 obtain⟨h64,hpe,hpo⟩:=Tt.right_parts hr;have hn:L.length<=1000:=by omega
 have hp:P.length<=1000:=by omega
 have hbad:∀ (c:Int),c≠0->Tt.addErr L l.name = c->∀ (e:Ending) (w':World),e = .returned (.tuple #[.agg #[.slice none 0 0,.slice none 0 0],.int .i64 0,.int .i64 c])/\Kept w.heap.size w.heap.size w w'->∃ lv' pv',e = .returned (.tuple #[.agg #[lv',pv'],.int .i64 (Tt.addAt L l.name),.int .i64 (Tt.addErr L l.name)])/\Kept w.heap.size w.heap.size w w'/\∃ SL,Mine (λk=>k < w.heap.size) w' lv' pv' (Tt.putL L l) (Tt.putP L P l.name) SL:=λc hc he e w' h=>by
  obtain⟨rfl,k⟩:=h;refine⟨_,_,by unfold Tt.addAt; rw [he,if_neg hc],k,[],?_⟩
  unfold Tt.putL Tt.putP;rw [he,if_neg hc,if_neg hc];exact Mine.empty (λk=>k < w.heap.size) w' (λj hj=>Nat.lt_of_lt_of_le hj k.size)
 rcases Tt.addWays L l.name with ⟨h1,he⟩ | ⟨h1,h2,he⟩ | ⟨h1,h2,h3,he⟩ | ⟨h1,h2,h3,he⟩
 ·exact(refadd_bad1 lv pv L P l w hL hP hn hlo h1).mono (λe w' h=>hbad 1 (by decide) he e w' h)
 ·exact(refadd_bad8 lv pv L P l w hL hP hn hlo h1 h2).mono (λe w' h=>hbad 8 (by decide) he e w' h)
 ·exact(refadd_bad9 lv pv L P l w hL hP hn hp hpl hlo h1 h2 h3).mono (λe w' h=>hbad 9 (by decide) he e w' h)
 ·refine(refadd_ok lv pv L P l w hL hP hn hp hpl hlo h64 hpe (Tt.parents_loose h64 P 0 hpo) h1 h2 h3).mono ?_
  rintro e w' ⟨lv',pv',rfl,hkk,SL,hm⟩;refine⟨lv',pv',by unfold Tt.addAt; rw [he,if_pos rfl],hkk,SL,?_⟩
  unfold Tt.putL Tt.putP;rw [he,if_pos rfl,if_pos rfl];exact hm
end
end Go.Proofs.YtinebhdilnndaaaGreatDoor
