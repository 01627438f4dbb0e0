/-
 What stays behind a call, and operations of which the run is known.
-/
import Derived.Test.YtfbfdaeagpdaiaaHeldEx
import Derived.Test.YtfbfdaeagpdaiaaGA
import Derived.Lib.Hide
import Derived.Deep.MidRow
namespace Go.Proofs.Ytfbfdaeagpdaiaa
open Go.RowKit
theorem row_kept {w x:World}{b:Nat}{o:Obj}(h:w.heap[b]? = some o)(k:Kept w.heap.size w.heap.size w x):x.heap[b]? = some o:=rk h k
theorem Kept.onto {w w1 w2:World}(k:Kept w.heap.size w.heap.size w w1)(k2:Kept w1.heap.size w1.heap.size w1 w2):Kept w.heap.size w.heap.size w w2:=k.trans (k2.mono k.size (fun _ hi _=>Nat.ne_of_lt (Nat.lt_of_lt_of_le hi k.size)))
theorem kept_setRow10 {w w1:World}{c:Nat}(k:Kept w.heap.size c w w1)(rb:Nat)(h:w.heap.size≤rb)(cs:Array Value):Kept w.heap.size c w (w1.setRow rb cs):=
 k.trans ⟨rfl,rfl,rfl,by simp [World.setRow],fun i hi _=>setRow_other w1 rb i cs (by omega)⟩
theorem yieldsIf_build0 {P:Program}{ops:Array Oper}{S:World→Prop}{op:Oper}{a:Act}(hw:Region.wanted op (yielded ops a.tmps) = true)(t:TypeId)(ho:op.op = .build t #[])(r:Value)(hr:∀ w,(Instr.build t #[]).run P w = .ok r w):YieldsIf P ops S op r a:=
 .inl ⟨hw,fun w _=>by
  unfold execOp
  simp only [ho,List.map_toArray,List.map_nil,Sem.run_bind,hr,Result.andThen_ok,Sem.run_pure]⟩
section
variable {P:Program} {ops:Array Oper} {a:Act} {S:World→Prop} {rest:List Oper} {o:Oper} {w:World} {Q:Exit→Act→World→Prop}
theorem wpL_eql10 (hw:Region.wanted o (yielded ops a.tmps) = true)(t t2:TypeId)(x y:Operand)(ho:o.op = .binOp .eql t x y t2)(A B:Array Value)(hx:a.eval x = .agg A)(hy:a.eval y = .agg B)(hg:P.eqGuardType P.depth t = false)(r:Bool)(hr:(Op.equalIn 10000 t (.agg A) (.agg B)).run P w = .ok r w)(hk:wpList P ops Q rest (a.put o.dst (.bool r)) w):wpList P ops Q (o :: rest) a w:=by
 refine wpList_step fun K hK=>?_
 rw [if_pos hw];unfold Oper.wp execOp;simp only [ho,hx,hy,Sem.run_bind,run_eqGuard_agg _ _ _ _ _ _ _ hg,run_eql_struct,hr,Result.andThen_ok,Sem.run_pure];exact hK _ _ hk
theorem heldTo_take_ex {md:Region.Mode}{k i:Nat}{oi:Oper}(d:Tmp){n:Nat}{listed:Array Bool}{tm:Array Value}{df:List Deferred}(hi:ops[i]? = some oi)(hd:oi.dst = some d)
  (hs:Region.noSelect ops = true) (hf:Region.free md ops listed i = true) (hr:(Region.ready md ops listed).contains i = true) (hk:waitsFor md ops k i = true)
  (hQ:∀ (c:_) (a:Act) (v:Value) w,Q (.panic c) (a.put oi.dst v) w→Q (.panic c) a w) (hw:Region.wanted oi (yielded ops tm) = true) (hS:S w)
  (h:∃ v,(∀ w,S w→(execOp (Act.mk tm df).eval oi).run P w = .ok (.value v) w)∧heldTo P md ops Q S k n (listed.setIfInBounds i true) ⟨tm.setIfInBounds d v,df⟩ w):heldTo P md ops Q S k (n + 1) listed ⟨tm,df⟩ w:=by
 obtain⟨v,h1,h2⟩:=h;exact heldTo_take d v hi hd hs hf hr hk (fun c a w=>hQ c a v w) (.inl ⟨hw,h1⟩) hS h2
theorem wp_store_row_none11 {a:Act}{K:Act→World→Prop}(ty:TypeId)(x y:Operand)(ho:o.op = .store ty x y)(hd:o.dst = none)(g:Nat)(cells:Array Value)(hx:a.eval x = .pointer (some ⟨g,0,none⟩))(hy:a.eval y = .agg cells)
  (t:TypeId) (old:Array Value) (hg:w.heap[g]? = some (.cells old t (0,0))) (hi:(P.info? ty).map (·.size) = some cells.size) (hold:old.size = cells.size) (h1:cells.all (·.oneCell') = true)
  (h:K a (w.setRow g cells)):o.wp P a w K Q:=
 wp_store_row ty x y ho g cells hx hy t old hg hi hold h1 (by rw [hd]; exact h)
theorem wp_store_mid_none11 {a:Act}{K:Act→World→Prop}(ty:TypeId)(x y:Operand)(ho:o.op = .store ty x y)(hd:o.dst = none)(b k:Nat)(cells:Array Value)(hx:a.eval x = .pointer (some ⟨b,k,none⟩))(hy:a.eval y = .agg cells)
  (ht:w.there b k cells.size) (hi:(P.info? ty).map (·.size) = some cells.size) (h1:cells.all (·.oneCell') = true) (h:K a (w.setCells b k cells.toList)):o.wp P a w K Q:=
 wp_store_mid ty x y ho b k cells hx hy ht hi h1 (by rw [hd]; exact h)
end
section
variable {P:Program} {ops:Array Oper} {rest:List Oper} {o:Oper} {a:Act} {w w':World} {Q:Exit→Act→World→Prop}
theorem wpL_buildN (hw:Region.wanted o (yielded ops a.tmps) = true)(t:TypeId)(xs:Array (Nat × Operand))(ho:o.op = .build t xs)(vs:Array (Nat × Value))(hv:(xs.map fun(i,x)=>(i,a.eval x)) = vs){u:Value}(hr:(Instr.build t vs).run P w = .ok u w)(hk:wpList P ops Q rest (a.put o.dst u) w):wpList P ops Q (o :: rest) a w:=by
 subst hv;refine wpList_step fun K hK=>?_
 rw [if_pos hw];unfold Oper.wp execOp;simp only [ho,Sem.run_bind,hr,Result.andThen_ok,Sem.run_pure];exact hK _ _ hk
end
end Go.Proofs.Ytfbfdaeagpdaiaa
