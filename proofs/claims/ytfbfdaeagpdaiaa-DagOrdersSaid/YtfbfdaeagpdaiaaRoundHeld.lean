/-
 A region that draws its order, in a round of a range over a function: shown as one outside is. No function of the program is named here.
-/
import Derived.RangeFuncCalls
import Derived.OwnWalkIn
import Derived.OrdersIn
import Derived.Deep.RegionHeld3
import Derived.Test.YtfbfdaeagpdaiaaProg
namespace Go.Proofs.Ytfbfdaeagpdaiaa
open Go
def OnlyN (Q:Exit→Act→World→Prop):Exit→Act→World→Prop
 | .normal,a,w=>Q .normal a w
 | _,_,_=>False
theorem OnlyN.normal {Q:Exit→Act→World→Prop}{a:Act}{w:World}(h:Q .normal a w):OnlyN Q .normal a w:=h
theorem OnlyN.imp {Q:Exit→Act→World→Prop}:∀ (e:Exit) (a:Act) (w:World),OnlyN Q e a w→Q e a w:=fun e a w h=>by
 cases e <;> first | exact h | exact(h:False).elim
theorem OnlyN.noOut {Q:Exit→Act→World→Prop}(h:LetsOut (OnlyN Q)):False:=by
 obtain⟨a,w,h⟩:=h;exact h
def noDefer (o:Oper):Bool:=match o.op with
 | .defer _=>false
 | _=>true
section
variable {l m:Nat} {P:Program} {ops:Array Oper} {Q:Exit→Act→World→Prop} {md:Region.Mode}
theorem oper_round {o:Oper}{a:Act}{w:World}{K:Act→World→Prop}(hd:noDefer o = true)(h:o.wp P a w K (OnlyN Q)):o.wpIn (Fence.wide.inRound l) m P a w K (OnlyN Q):=by
 unfold Oper.wp at h;unfold Oper.wpIn;refine⟨fun _ _=>trivial,?_⟩
 rw [Oper.semAt_plain _ _ _ (fun c hc=>by unfold noDefer at hd; rw [hc] at hd; cases hd)]
 generalize (execOp a.eval o).run P w = r at h
 cases r with
 | ok x w'=>
  cases x with
  | value v=>exact h
  | skip=>exact h
  | defer d=>exact h
  | enter f args=>
   refine⟨fun hx=>(by cases hx),?_⟩
   exact CallsIn.inRound l ((callsIn_wide (n:=m - 1)).2 h)
  | row r args=>
   refine⟨fun hx=>(by cases hx),fun c cs _=>?_⟩
   obtain⟨v,w',r1,s⟩:=(show Rows P r args _ _ from h) c cs;exact⟨v,w',r1,stepsIn_wide.2 s⟩
  | _=>exact(h:False).elim
 | halt x w'=>
  cases x <;> exact(h:False).elim
end
end Go.Proofs.Ytfbfdaeagpdaiaa
