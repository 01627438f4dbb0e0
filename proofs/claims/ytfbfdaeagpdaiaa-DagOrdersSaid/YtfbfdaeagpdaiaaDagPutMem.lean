/-
 A store with one vertex more: what the memory is behind it.
-/
import Derived.Test.YtfbfdaeagpdaiaaDagCheck
import Derived.Test.YtfbfdaeagpdaiaaGD
namespace Go.Proofs.Ytfbfdaeagpdaiaa
open Go.RowKit Go.Lib
open List renaming setIfInBounds_toArray → sA, set_cons_zero → sB, set_cons_succ → sC
open BigFrame renaming wpList_want → wQ
def Tch (a b c d:Nat)(k:Nat):Prop:=k = a∨k = b∨k = c∨k = d
theorem turned_other {w w':World}{b:Nat}(h:w.mapTurned w' b){k:Nat}(hk:k≠b):w'.heap[k]? = w.heap[k]?:=by
 obtain⟨es,clock,es',clock',hb,rfl⟩:=h;exact ChangeMaps.heap_setBlock_other hb _ hk
theorem In15.lt {w:World}{b n:Nat}(h:In15 w b n):b < w.heap.size:=by
 obtain⟨D,h1⟩:=h;exact h1.lt
section
variable {w x:World} {sb vb bb n tb:Nat} {F:Nat→Prop} {keep:Int} {L:List Vx} {h:Option Vx} {P:List (List UInt8)} {hd hd':List UInt8} {G G':Lit→Option Value} {v:Vx}
def PutP (w:World)(sb:Nat)(F:Nat→Prop)(keep:Int)(n:Nat)(L:List Vx)(h:Option Vx)(P:List (List UInt8))(v:Vx)(e:Ending)(w':World):Prop:=
 e = .returned (.tuple #[])∧∃ F':Nat→Prop,(∀ k,F' k→F k∨w.heap.size≤k)∧Dfr F w w'∧Dst w' sb F' keep (n + 1) (v :: L) (some (Dg.newTop h v)) (v.par :: P)
theorem put_done (d:Ds w sb F keep n L h P vb bb hd)(hGv:∀ l y,G l = some y→Gv F vb bb n P w l y)(hv:v.Ok)(hn:Need keep L h v)(hm:n + 1≤100000)
  (h1:x.heap[sb]? = some (.cells (scells keep vb hd' bb).toArray 49 (0,0))) (h2:hd' = (Dg.newTop h v).id) (h3:Vp x vb (n + 1) (v :: L)) (h4:Mp x 30 bb (n + 1) G')
  (h5:G' (.string v.par) = some (.map (some tb))) (h6:∀ l,l≠.string v.par→G' l = G l) (h7:In15 x tb (n + 1)) (h8:tb≠vb) (h9:tb≠bb) (h10:F tb∨w.heap.size≤tb) (h11:Dfr (Tch sb vb bb tb) w x) :
  PutP w sb F keep n L h P v (.returned (.tuple #[])) x:=by
 have htm:=Dg.newTop_mem h v d.st.top;have hok:(Dg.newTop h v).Ok:=(d.st.cons hv hn.1 hn.2.1 hn.2.2.1).ok _ htm |>.1
 refine⟨rfl,fun k=>F k∨k = tb,?_,?_,vb,bb,hd',?_⟩
 ·rintro k (hk | rfl)
  ·exact .inl hk
  ·exact h10
 ·refine⟨h11.os,h11.tape,h11.output,h11.size,fun k hk hn=>h11.block k hk ?_⟩
  rintro (rfl | rfl | rfl | rfl)
  ·exact hn d.fs
  ·exact hn d.fv
  ·exact hn d.fb
  ·rcases h10 with h | h
   ·exact hn h
   ·omega
 ·refine⟨h1,by rw [h2]; exact hok.1,h3,⟨G',h4,fun l y hl=>?_⟩,.inl d.fs,.inl d.fv,.inl d.fb,d.ne,?_,?_,d.st.cons hv hn.1 hn.2.1 hn.2.2.1,d.kp,hm⟩
  ·by_cases hlp:l = .string v.par
   ·subst hlp
    rw [h5] at hl;obtain rfl:=Option.some.inj hl;exact⟨⟨v.par,List.mem_cons_self,rfl⟩,tb,rfl,.inr rfl,h8,h9,h7⟩
   ·rw [h6 l hlp] at hl
    obtain⟨⟨p,hp,e⟩,ib,e2,f1,n1,n2,hi⟩:=hGv l y hl;refine⟨⟨p,List.mem_cons_of_mem _ hp,e⟩,ib,e2,.inl f1,n1,n2,?_⟩
    by_cases hib:ib = tb
    ·subst hib; exact h7
    ·refine(hi.same (h11.block ib (d.lt ib f1) ?_)).mono (Nat.le_succ n)
     rintro (rfl | rfl | rfl | rfl)
     ·obtain⟨D,es,clock,hb,_⟩:=hi
      rw [d.blk] at hb
      cases hb
     ·exact n1 rfl
     ·exact n2 rfl
     ·exact hib rfl
  ·rintro k (hk | rfl)
   ·exact Nat.lt_of_lt_of_le (d.lt k hk) h11.size
   ·exact h7.lt
  ·intro u hu
   rw [h2,← Option.some.inj hu]
end
end Go.Proofs.Ytfbfdaeagpdaiaa
