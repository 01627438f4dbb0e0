/-
 Keep; KeyMath; KeySmall: several texts in one.
-/
import Derived.Test.YtnlbgggnpoeleaaGreatDoorHeldEx
import Derived.Test.YtnlbgggnpoeleaaGreatDoorGL
import Derived.Test.YtnlbgggnpoeleaaGreatDoorGV
import Derived.Deep.RegionWith
set_option maxRecDepth 100000
namespace Go.Proofs.YtnlbgggnpoeleaaGreatDoor
open Go.RowKit
theorem rK {w x:World}{b:Nat}{o:Obj}(h:w.heap[b]?=some o)(k:Kept w.heap.size w.heap.size w x):x.heap[b]?=some o:=rk h k
theorem Kept.onto {w w1 w2:World}(k:Kept w.heap.size w.heap.size w w1)(k2:Kept w1.heap.size w1.heap.size w1 w2):Kept w.heap.size w.heap.size w w2:=k.trans (k2.mono k.size (λ_ hi _=>zD (zC hi k.size)))
theorem Qak {w w1:World}{c:Nat}(k:Kept w.heap.size c w w1)(rb:Nat)(h:w.heap.size<=rb)(cs:Array Value):Kept w.heap.size c w (w1.setRow rb cs):=
 k.trans ⟨rfl,rfl,rfl,by simp[World.setRow],λi hi _=>setRow_other w1 rb i cs (by omega)⟩
section
variable {P:Program} {ops:Array Oper} {a:Act} {S:World->Prop} {rest:List Oper} {o:Oper} {w:World} {Q:Exit->Act->World->Prop}
theorem Qkf {md:Region.Mode}{k i:Nat}{oi:Oper}(d:Tmp){n:Nat}{listed:Array Bool}{tm:Array Value}{df:List Deferred}(hi:ops[i]?=some oi)(hd:oi.dst=some d)
  (hs:Region.noSelect ops=true) (hf:Region.free md ops listed i=true) (hr:(Region.ready md ops listed).contains i=true) (hk:waitsFor md ops k i=true)
  (hQ:∀(c:_) (a:Act) (v:Value) w,Q (.panic c) (a.put oi.dst v) w->Q (.panic c) a w) (hw:Region.wanted oi (yielded ops tm)=true) (hS:S w)
  (h:∃v,(∀w,S w->(execOp (Act.mk tm df).eval oi).run P w=.ok (.value v) w)/\heldTo P md ops Q S k n (listed.setIfInBounds i true) ⟨tm.setIfInBounds d v,df⟩ w):heldTo P md ops Q S k (n+1) listed ⟨tm,df⟩ w:=by
 obtain⟨v,h1,h2⟩:=h;exact Qjm d v hi hd hs hf hr hk (λc a w=>hQ c a v w) (.inl ⟨hw,h1⟩) hS h2
theorem tkH {P:Program}{ops:Array Oper}{Q:Exit->Act->World->Prop}{md:Region.Mode}{S:World->Prop}{k i:Nat}{oi:Oper}(d:Tmp){n:Nat}{listed:Array Bool}{tm:Array Value}{df:List Deferred}{w:World}(hi:ops[i]?=some oi)(hS:S w)
  (h:∃v,(∀w,S w->(execOp (Act.mk tm df).eval oi).run P w=.ok (.value v) w)/\heldTo P md ops Q S k n (listed.setIfInBounds i true) ⟨tm.setIfInBounds d v,df⟩ w)(hd:oi.dst=some d:=by rfl)(hs:Region.noSelect ops=true:=by kernel_rfl)(hf:Region.free md ops listed i=true:=by kernel_rfl)(hr:(Region.ready md ops listed).contains i=true:=by kernel_rfl)(hk:waitsFor md ops k i=true:=by kernel_rfl)(hQ:∀(c:_) (a:Act) (v:Value) w,Q (.panic c) (a.put oi.dst v) w->Q (.panic c) a w:=by exact λ_ _ _ _ h=>h)(hw:Region.wanted oi (yielded ops tm)=true:=by kernel_rfl):heldTo P md ops Q S k (n+1) listed ⟨tm,df⟩ w:=
 Qkf d hi hd hs hf hr hk hQ hw hS h
theorem Qdi {a:Act}{K:Act->World->Prop}(ty:TypeId)(x y:Operand)(ho:o.op=.store ty x y)(hd:o.dst=none)(g:Nat)(cells:Array Value)(hx:a.eval x=.pointer (some ⟨g,0,none⟩))(hy:a.eval y=.agg cells)
  (t:TypeId) (old:Array Value) (hg:w.heap[g]?=some (.cells old t (0,0))) (hi:(P.info? ty).map (·.size)=some cells.size) (hold:old.size=cells.size) (h1:cells.all (·.oneCell')=true)
  (h:K a (w.setRow g cells)):o.wp P a w K Q:=
 wp_store_row ty x y ho g cells hx hy t old hg hi hold h1 (by rw[hd];exact h)
theorem Qdj {a:Act}{K:Act->World->Prop}(ty:TypeId)(x y:Operand)(ho:o.op=.store ty x y)(hd:o.dst=none)(b k:Nat)(cells:Array Value)(hx:a.eval x=.pointer (some ⟨b,k,none⟩))(hy:a.eval y=.agg cells)
  (ht:w.there b k cells.size) (hi:(P.info? ty).map (·.size)=some cells.size) (h1:cells.all (·.oneCell')=true) (h:K a (w.setCells b k cells.toList)):o.wp P a w K Q:=
 wp_store_mid ty x y ho b k cells hx hy ht hi h1 (by rw[hd];exact h)
end
section
variable {P:Program} {ops:Array Oper} {rest:List Oper} {o:Oper} {a:Act} {w w':World} {Q:Exit->Act->World->Prop}
theorem Qbw (hw:Region.wanted o (yielded ops a.tmps)=true)(t:TypeId)(xs:Array (Nat × Operand))(ho:o.op=.build t xs)(vs:Array (Nat × Value))(hv:(xs.map λ(i,x)=>(i,a.eval x))=vs){u:Value}(hr:(Instr.build t vs).run P w=.ok u w)(hk:wpList P ops Q rest (a.put o.dst u) w):wpList P ops Q (o::rest) a w:=by
 subst hv;refine wpList_step λK hK=>?_
 rw[zG hw];unfold Oper.wp execOp;simp only[ho,Sem.run_bind,hr,Result.andThen_ok,Sem.run_pure];exact hK _ _ hk
theorem Qg0 (hw:Region.wanted o (yielded ops a.tmps)=true)(t:TypeId)(x y:Operand)(ho:o.op=.index t x y)(A:Array Value)(i:Int)(hx:a.eval x=.agg A)(hy:a.eval y=.int .i64 i){u:Value}(hr:(Instr.index t (.agg A) (.int .i64 i)).run P w=.ok u w)(hk:wpList P ops Q rest (a.put o.dst u) w):wpList P ops Q (o::rest) a w:=by
 refine wpList_step λK hK=>?_
 rw[zG hw];unfold Oper.wp execOp;simp only[ho,hx,hy,Sem.run_bind,hr,Result.andThen_ok,Sem.run_pure];exact hK _ _ hk
end
namespace Ky
def wSaid:List UInt8:=[115,97,105,100]
def wSpot:List UInt8:=[115,112,111,116]
def wTag:List UInt8:=[116,97,103]
def wApp:List UInt8:=[97,112,112]
def wWelcome:List UInt8:=[119,101,108,99,111,109,101]
def wEpoch:List UInt8:=[101,112,111,99,104]
def wInit:List UInt8:=[105,110,105,116]
def wConfirm:List UInt8:=[99,111,110,102,105,114,109]
def wApps:List UInt8:=[97,112,112,115]
def wExport:List UInt8:=[101,120,112,111,114,116]
def z32:List UInt8:=List.replicate 32 0
def said (b c:List UInt8):List UInt8:=Sm.sum (wSaid++b++c)
def tag (k s:List UInt8):List UInt8:=Mc.code k (wTag++s)
def spot (c:List UInt8):Nat:=Wm.valOf 0 ((Sm.sum (wSpot++c)).take 4)
def ctx (p:List UInt8)(n:Nat)(t s:List UInt8):List UInt8:=p++Wm.enc n++t++s
def app (k:List UInt8)(n:Nat):List UInt8:=Mc.derive k wApp (Wm.enc n)
theorem tag_length (k s:List UInt8):(tag k s).length=32:=Mc.code_length _ _
theorem app_length (k:List UInt8)(n:Nat):(app k n).length=32:=Mc.derive_length _ _ _
def key (j c:List UInt8):Nat->List UInt8
 | 0=>j
 | 1=>Mc.derive j wWelcome []
 | 2=>Mc.derive j wEpoch c
 | 3=>Mc.derive (Mc.derive j wEpoch c) wInit []
 | 4=>Mc.derive (Mc.derive j wEpoch c) wConfirm []
 | 5=>Mc.derive (Mc.derive j wEpoch c) wApps []
 | _=>Mc.derive (Mc.derive j wEpoch c) wExport []
theorem key_length {j:List UInt8}(hj:j.length=32)(c:List UInt8)(i:Nat):(key j c i).length=32:=by
 unfold key
 split <;> first|exact hj|exact Mc.derive_length _ _ _
end Ky
open Go.RowKit Go.Lib
open List renaming setIfInBounds_toArray -> sA, set_cons_zero -> sB, set_cons_succ -> sC
open BigFrame renaming wpList_want -> wQ
theorem Qgp {l:List UInt8}(h:l.length=32):(Tryz.prog.info? 23).map (·.size)=some (bY l).toArray.size:=by rw[Qbi,List.size_toArray,bZ,h]
theorem Qgo {l:List UInt8}(h:l.length=32):(Tryz.prog.info? 22).map (·.size)=some (bY l).toArray.size:=by rw[Qgm,List.size_toArray,bZ,h]
theorem Qjh {l:List UInt8}(h:l.length=32):zY.size=(bY l).toArray.size:=by rw[Qah,List.size_toArray,bZ,h]
theorem Qje {w:World}{b:Nat}{l:List UInt8}(hl:l.length=32)(h:w.heap[b]?=some (.cells (bY l).toArray 23 (0,0))):(loadVar 23 ⟨b,0,none⟩).run Tryz.prog w=.ok (.agg (bY l).toArray) w:=
 run_loadVar_row w b 23 23 _ (0,0) _ h Tryz.underlying23 rfl (Qgp hl)
theorem Qhb {w:World}{b:Nat}{l:List UInt8}(hl:l.length=32)(h:w.heap[b]?=some (.cells (bY l).toArray 22 (0,0))):(loadVar 22 ⟨b,0,none⟩).run Tryz.prog w=.ok (.agg (bY l).toArray) w:=
 run_loadVar_row w b 22 22 _ (0,0) _ h Tryz.underlying22 rfl (Qgo hl)
theorem Qoa (w:World):(Instr.alloc 23 true (.tuple #[])).run Tryz.prog w=.ok (.pointer (some ⟨w.heap.size,0,none⟩)) (w.alloc (.cells zY 23)):=by kernel_rfl
theorem Qj5 (w:World):(Instr.alloc 22 true (.tuple #[])).run Tryz.prog w=.ok (.pointer (some ⟨w.heap.size,0,none⟩)) (w.alloc (.cells zY 22)):=by kernel_rfl
end Go.Proofs.YtnlbgggnpoeleaaGreatDoor
