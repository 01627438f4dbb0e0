/-
 Keep; KeyMath; KeySmall: several texts in one.
-/
import Derived.Test.YtanfnafiofkihaaHeldEx
import Derived.Test.YtanfnafiofkihaaGA
import Derived.Lib.Hide
import Derived.Deep.MidRow
import Derived.Test.YtanfnafiofkihaaGL
import Derived.Test.YtanfnafiofkihaaGV
import Derived.Deep.RegionWith
import Derived.Deep.Cut
namespace Go.Proofs.Ytanfnafiofkihaa
open Go.RowKit
theorem Kept.onto {w w1 w2:World}(k:Kept w.heap.size w.heap.size w w1)(k2:Kept w1.heap.size w1.heap.size w1 w2):Kept w.heap.size w.heap.size w w2:=k.trans (k2.mono k.size (λ_ hi _=>Nat.ne_of_lt (Nat.lt_of_lt_of_le hi k.size)))
section
variable {P:Program} {ops:Array Oper} {a:Act} {S:World->Prop} {rest:List Oper} {o:Oper} {w:World} {Q:Exit->Act->World->Prop}
theorem heldTo_take_ex {md:Region.Mode}{k i:Nat}{oi:Oper}(d:Tmp){n:Nat}{listed:Array Bool}{tm:Array Value}{df:List Deferred}(hi:ops[i]? = some oi)(hd:oi.dst = some d)
  (hs:Region.noSelect ops = true) (hf:Region.free md ops listed i = true) (hr:(Region.ready md ops listed).contains i = true) (hk:waitsFor md ops k i = true)
  (hQ:∀ (c:_) (a:Act) (v:Value) w,Q (.panic c) (a.put oi.dst v) w->Q (.panic c) a w) (hw:Region.wanted oi (yielded ops tm) = true) (hS:S w)
  (h:∃ v,(∀ w,S w->(execOp (Act.mk tm df).eval oi).run P w = .ok (.value v) w)/\heldTo P md ops Q S k n (listed.setIfInBounds i true) ⟨tm.setIfInBounds d v,df⟩ w):heldTo P md ops Q S k (n + 1) listed ⟨tm,df⟩ w:=by
 obtain⟨v,h1,h2⟩:=h;exact heldTo_take d v hi hd hs hf hr hk (λc a w=>hQ c a v w) (.inl ⟨hw,h1⟩) hS h2
theorem tkH {P:Program}{ops:Array Oper}{Q:Exit->Act->World->Prop}{md:Region.Mode}{S:World->Prop}{k i:Nat}{oi:Oper}(d:Tmp){n:Nat}{listed:Array Bool}{tm:Array Value}{df:List Deferred}{w:World}(hi:ops[i]? = some oi)(hS:S w)
  (h:∃ v,(∀ w,S w->(execOp (Act.mk tm df).eval oi).run P w = .ok (.value v) w)/\heldTo P md ops Q S k n (listed.setIfInBounds i true) ⟨tm.setIfInBounds d v,df⟩ w)(hd:oi.dst = some d:=by rfl)(hs:Region.noSelect ops = true:=by kernel_rfl)(hf:Region.free md ops listed i = true:=by kernel_rfl)(hr:(Region.ready md ops listed).contains i = true:=by kernel_rfl)(hk:waitsFor md ops k i = true:=by kernel_rfl)(hQ:∀ (c:_) (a:Act) (v:Value) w,Q (.panic c) (a.put oi.dst v) w->Q (.panic c) a w:=by exact λ_ _ _ _ h=>h)(hw:Region.wanted oi (yielded ops tm) = true:=by kernel_rfl):heldTo P md ops Q S k (n + 1) listed ⟨tm,df⟩ w:=
 heldTo_take_ex d hi hd hs hf hr hk hQ hw hS h
end
section
variable {P:Program} {ops:Array Oper} {rest:List Oper} {o:Oper} {a:Act} {w w':World} {Q:Exit->Act->World->Prop}
theorem wp_buildN {K:Act->World->Prop}(t:TypeId)(xs:Array (Nat × Operand))(ho:o.op = .build t xs)(vs:Array (Nat × Value))(hv:(xs.map λ(i,x)=>(i,a.eval x)) = vs){u:Value}(hr:(Instr.build t vs).run P w = .ok u w)(hk:K (a.put o.dst u) w):o.wp P a w K Q:=by
 subst hv;unfold Oper.wp execOp;simp only [ho,Sem.run_bind,hr,Result.andThen_ok,Sem.run_pure];exact hk
end
end Go.Proofs.Ytanfnafiofkihaa
namespace Go.Proofs.Ytanfnafiofkihaa
namespace Ky
def wSaid:List UInt8:=[115,97,105,100]
def wSpot:List UInt8:=[115,112,111,116]
def wTag:List UInt8:=[116,97,103]
def wApp:List UInt8:=[97,112,112]
def wWelcome:List UInt8:=[119,101,108,99,111,109,101]
def wEpoch:List UInt8:=[101,112,111,99,104]
def wInit:List UInt8:=[105,110,105,116]
def wConfirm:List UInt8:=[99,111,110,102,105,114,109]
def wApps:List UInt8:=[97,112,112,115]
def wExport:List UInt8:=[101,120,112,111,114,116]
def z32:List UInt8:=List.replicate 32 0
def said (b c:List UInt8):List UInt8:=Sm.sum (wSaid ++ b ++ c)
def tag (k s:List UInt8):List UInt8:=Mc.code k (wTag ++ s)
def spot (c:List UInt8):Nat:=Wm.valOf 0 ((Sm.sum (wSpot ++ c)).take 4)
def ctx (p:List UInt8)(n:Nat)(t s:List UInt8):List UInt8:=p ++ Wm.enc n ++ t ++ s
def app (k:List UInt8)(n:Nat):List UInt8:=Mc.derive k wApp (Wm.enc n)
def key (j c:List UInt8):Nat->List UInt8
 | 0=>j
 | 1=>Mc.derive j wWelcome []
 | 2=>Mc.derive j wEpoch c
 | 3=>Mc.derive (Mc.derive j wEpoch c) wInit []
 | 4=>Mc.derive (Mc.derive j wEpoch c) wConfirm []
 | 5=>Mc.derive (Mc.derive j wEpoch c) wApps []
 | _=>Mc.derive (Mc.derive j wEpoch c) wExport []
end Ky
end Go.Proofs.Ytanfnafiofkihaa
namespace Go.Proofs.Ytanfnafiofkihaa
open Go.RowKit Go.Lib
open List renaming setIfInBounds_toArray -> sA, set_cons_zero -> sB, set_cons_succ -> sC
open BigFrame renaming wpList_want -> wQ
end Go.Proofs.Ytanfnafiofkihaa
