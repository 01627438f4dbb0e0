/-
 A region that draws its order, in a round of a range over a function: shown as one outside is. No function of the program is named here.
-/
import Derived.RangeFuncCalls
import Derived.OwnWalkIn
import Derived.OrdersIn
import Derived.Deep.RegionHeld3
import Derived.Test.YtfbfdaeagpdaiaaProg
namespace Go.Proofs.Ytfbfdaeagpdaiaa
open Go
def OnlyN (Q:Exit→Act→World→Prop):Exit→Act→World→Prop
 | .normal,a,w=>Q .normal a w
 | _,_,_=>False
theorem OnlyN.normal {Q:Exit→Act→World→Prop}{a:Act}{w:World}(h:Q .normal a w):OnlyN Q .normal a w:=h
theorem OnlyN.imp {Q:Exit→Act→World→Prop}:∀ (e:Exit) (a:Act) (w:World),OnlyN Q e a w→Q e a w:=fun e a w h=>by
 cases e <;> first | exact h | exact(h:False).elim
theorem OnlyN.noOut {Q:Exit→Act→World→Prop}(h:LetsOut (OnlyN Q)):False:=by
 obtain⟨a,w,h⟩:=h;exact h
def noDefer (o:Oper):Bool:=match o.op with
 | .defer _=>false
 | _=>true
section
variable {l m:Nat} {P:Program} {ops:Array Oper} {Q:Exit→Act→World→Prop} {md:Region.Mode}
theorem oper_round {o:Oper}{a:Act}{w:World}{K:Act→World→Prop}(hd:noDefer o = true)(h:o.wp P a w K (OnlyN Q)):o.wpIn (Fence.wide.inRound l) m P a w K (OnlyN Q):=by
 unfold Oper.wp at h;unfold Oper.wpIn;refine⟨fun _ _=>trivial,?_⟩
 rw [Oper.semAt_plain _ _ _ (fun c hc=>by unfold noDefer at hd; rw [hc] at hd; cases hd)]
 generalize (execOp a.eval o).run P w = r at h
 cases r with
 | ok x w'=>
  cases x with
  | value v=>exact h
  | skip=>exact h
  | defer d=>exact h
  | enter f args=>
   refine⟨fun hx=>(by cases hx),?_⟩
   exact CallsIn.inRound l ((callsIn_wide (n:=m - 1)).2 h)
  | row r args=>
   refine⟨fun hx=>(by cases hx),fun c cs _=>?_⟩
   obtain⟨v,w',r1,s⟩:=(show Rows P r args _ _ from h) c cs;exact⟨v,w',r1,stepsIn_wide.2 s⟩
  | _=>exact(h:False).elim
 | halt x w'=>
  cases x <;> exact(h:False).elim
theorem opIn_round {i:Nat}{a:Act}{w:World}{K K':Act→World→Prop}(hd:ops.all noDefer = true)(hK:∀ a w,K a w→K' a w)(h:wpOp P ops (OnlyN Q) i K a w):wpOpIn (Fence.wide.inRound l) m P ops (OnlyN Q) i K' a w:=by
 unfold wpOp at h;unfold wpOpIn
 cases ho:ops[i]? with
 | none=>rw [ho] at h; exact hK _ _ h
 | some o=>
  rw [ho] at h;simp only at h ⊢
  split
  ·rename_i hw
   rw [if_pos hw] at h
   rcases h with h | ⟨_,h⟩
   ·have hdo:noDefer o = true:=by
     obtain⟨hi,e⟩:=Array.getElem?_eq_some_iff.1 ho;rw [← e];exact(Array.all_eq_true.1 hd) i hi
    exact Oper.wpIn_mono hK (oper_round hdo h)
   ·exact(OnlyN.noOut h).elim
  ·rename_i hw
   rw [if_neg hw] at h;exact⟨fun _ _=>trivial,hK _ _ h⟩
theorem anyIn_round (hd:ops.all noDefer = true):∀ (fuel:Nat) (listed:Array Bool) (a:Act) (w:World),wpAny P md ops (OnlyN Q) fuel listed a w→wpAnyIn (Fence.wide.inRound l) m P md ops (OnlyN Q) fuel listed a w
 | 0,_,_,_,h=>h
 | fuel + 1,_,_,_,h=>⟨h.1,fun i hi=>opIn_round hd (fun a w=>anyIn_round hd fuel _ a w) (h.2 i hi)⟩
theorem region_round {id:Nat}{a:Act}{w:World}{S:World→Prop}(hm:P.follows .mixedOrders = true)(hd:ops.all noDefer = true)(hS:S w.drew)
  (h:S w.drew→wpAnyH P .any ops (OnlyN Q) S ops.size (Array.replicate ops.size false) a w.drew):(Code.region id ops true).wpIn (Fence.wide.inRound l) m P Q a w:=
 Code.wpIn_mono OnlyN.imp (wpIn_region_any hm (anyIn_round hd _ _ _ _ (wpAny_of_held _ _ _ _ (h hS))))
end
end Go.Proofs.Ytfbfdaeagpdaiaa
