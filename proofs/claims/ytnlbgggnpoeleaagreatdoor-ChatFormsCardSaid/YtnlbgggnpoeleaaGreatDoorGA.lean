/-
 Mem; Law; HeldAt; StillLoad; QuietLoad; HeldTo; Buf; HashEq; HashOpen; BuildOne: several texts in one.
-/
import Derived.WalkKit
import Derived.Deep.Draws
import Derived.Deep.WholeRow
import Derived.ProofKit
import Derived.Deep.RegionHeld3
import Derived.Deep.MidRow
import Derived.StillTailTactics
import Derived.Deep.QuietTactic
import Derived.BigQuiet
import Derived.Lib.QuietBelow
import Derived.Test.YtnlbgggnpoeleaaGreatDoorProg
import Derived.Lib.ConvBytes
import Derived.Stop.BytesEq
import Derived.Test.YtnlbgggnpoeleaaGreatDoorRows
import Derived.Deep.Slices
import Derived.OpenShut
import Derived.Laws.MakeOwn
namespace Go.Proofs.YtnlbgggnpoeleaaGreatDoor
open Go.RowKit
structure Kept (base b:Nat) (w w':World):Prop where
 os:w'.os=w.os
 tape:w'.tape=w.tape
 output:w'.output=w.output
 size:w.heap.size<=w'.heap.size
 block:∀k,k<base->k≠b->w'.heap[k]?=w.heap[k]?
theorem Kept.refl (base b:Nat)(w:World):Kept base b w w:=⟨rfl,rfl,rfl,Nat.le_refl _,λ_ _ _=>rfl⟩
theorem Kept.trans {base b:Nat}{w1 w2 w3:World}(h:Kept base b w1 w2)(k:Kept base b w2 w3):Kept base b w1 w3:=
 ⟨k.os.trans h.os,k.tape.trans h.tape,k.output.trans h.output,Nat.le_trans h.size k.size,λi hi hb=>(k.block i hi hb).trans (h.block i hi hb)⟩
theorem Kept.drew {base b:Nat}{w1 w:World}(h:Kept base b w1 w):Kept base b w1 w.drew:=⟨h.os,h.tape,h.output,h.size,h.block⟩
theorem Kept.drewN {base b:Nat}{w1 w:World}(h:Kept base b w1 w)(n:Nat):Kept base b w1 (w.drewN n):=⟨h.os,h.tape,h.output,h.size,h.block⟩
theorem Kept.mono {base b base' b':Nat}{w w':World}(h:Kept base b w w')(h1:base'<=base)(h2:∀k,k<base'->k≠b'->k≠b):Kept base' b' w w':=
 ⟨h.os,h.tape,h.output,h.size,λk hk hb=>h.block k (Nat.lt_of_lt_of_le hk h1) (h2 k hk hb)⟩
theorem Kept.alloc {base b:Nat}{w1 w:World}(h:Kept base b w1 w)(hB:base<=w.heap.size)(o:Obj):Kept base b w1 (w.alloc o):=
 h.trans ⟨rfl,rfl,rfl,by simp,λk hk _=>Below.heap_alloc _ _ _ (by omega)⟩
theorem Kept.setCell {base b:Nat}{w1 w:World}(h:Kept base b w1 w){p:Addr}(hp:p.block=b\/base<=p.block)(u:Value):Kept base b w1 (w.setCell p u):=
 h.trans ⟨rfl,rfl,rfl,by simp[World.setCell],λk hk hb=>Below.heap_setCell _ _ _ _ (by omega)⟩
theorem Kept.set {base b:Nat}{w1 w:World}(h:Kept base b w1 w){b':Nat}(hp:b'=b\/base<=b')(o:Nat)(u:Value):Kept base b w1 (w.setCell ⟨b',o,none⟩ u):=h.setCell hp u
theorem Kept.grown {base b:Nat}{w1 w w2:World}{row:Option Nat}(h:Kept base b w1 w)(hg:w.grownBy w2 row)(hB:base<=w.heap.size)(hr:∀k,row=some k->base<=k):Kept base b w1 w2:=
 h.trans ⟨hg.os,hg.tape,hg.output,hg.size,λk hk _=>hg.block k (by omega) (λe=>by have:=hr k e.symm;omega)⟩
theorem Kept.below {base b B:Nat}{w w':World}(h:Kept base b w w')(h1:B<=base)(h2:B<=b):Below B w w':=
 ⟨h.os,h.tape,h.output,h.size,λk hk=>h.block k (by omega) (by omega)⟩
theorem Kept.ofBelow {base b B:Nat}{w w':World}(h:Below B w w')(h1:base<=B):Kept base b w w':=
 ⟨h.os,h.tape,h.output,h.size,λk hk _=>h.block k (by omega)⟩
theorem Kept.cell {base b:Nat}{w w':World}(h:Kept base b w w'){p:Addr}(hp:p.block<base)(hb:p.block≠b):w'.cell? p=w.cell? p:=World.cell?_of_block (w:=w) (h.block p.block hp hb)
theorem Kept.frozen {base b:Nat}{w w':World}(h:Kept base b w w'){p:Addr}(hp:p.block<base)(hb:p.block≠b):w'.frozen? p=w.frozen? p:=World.frozen?_of_block (w:=w) (h.block p.block hp hb)
def Fr (b:Nat)(w w':World):Prop:=∀k o,w.heap[k]?=some o->k≠b->(∀cs fr,o≠.cells cs 5 fr)->w'.heap[k]?=some o
theorem Fr.refl (b:Nat)(w:World):Fr b w w:=λ_ _ h _ _=>h
theorem Fr.trans {b:Nat}{w1 w2 w3:World}(h:Fr b w1 w2)(k:Fr b w2 w3):Fr b w1 w3:=λi o h1 h2 h3=>k i o (h i o h1 h2 h3) h2 h3
theorem Fr.alloc {b:Nat}{w1 w:World}(h:Fr b w1 w)(o:Obj):Fr b w1 (w.alloc o):=λi x h1 h2 h3=>by
 have h4:=h i x h1 h2 h3;rw[Below.heap_alloc _ _ _ (lt_of_block h4)];exact h4
theorem Fr.drew {b:Nat}{w1 w:World}(h:Fr b w1 w):Fr b w1 w.drew:=h
theorem Fr.set {b:Nat}{w1 w:World}(h:Fr b w1 w)(o:Nat)(u:Value):Fr b w1 (w.setCell ⟨b,o,none⟩ u):=λi x h1 h2 h3=>by
 rw[Below.heap_setCell _ _ _ _ h2];exact h i x h1 h2 h3
theorem Fr.grown {b:Nat}{w1 w w2:World}{base n:Nat}{v:Value}{xs:List Value}(h:Fr b w1 w)(hown:w.ownsRow base 5 1 v n xs)(hg:w.grownBy w2 v.ownBlock):Fr b w1 w2:=λi x h1 h2 h3=>by
 have h4:=h i x h1 h2 h3;rw[hg.block i (lt_of_block h4) (λe=>?_)]
 ·exact h4
 ·rcases hown.2 with⟨rfl,_⟩|⟨g,cap,cur,rfl,_,hh,_⟩
  ·simp[Value.ownBlock] at e
  ·simp[Value.ownBlock] at e
   subst e;rw[hh] at h4
   cases h4
   exact h3 _ _ rfl
theorem Qac {w:World}{b:Nat}{x y:Value}{t:TypeId}(h:w.heap[b]?=some (.cells #[x,y] t (0,0))):w.cell? ⟨b,0,none⟩=some x:=by simp[World.cell?,h]
theorem Qab {w:World}{b:Nat}{x y:Value}{t:TypeId}(h:w.heap[b]?=some (.cells #[x,y] t (0,0))):w.cell? ⟨b,1,none⟩=some y:=by simp[World.cell?,h]
theorem Qay {w:World}{b:Nat}{x y:Value}{t:TypeId}(h:w.heap[b]?=some (.cells #[x,y] t (0,0)))(j:Nat):w.frozen? ⟨b,j,none⟩=false:=by simp[World.frozen?,h]
theorem Qbc {w:World}{b:Nat}{x y u:Value}{t:TypeId}(h:w.heap[b]?=some (.cells #[x,y] t (0,0))):(w.setCell ⟨b,0,none⟩ u).heap[b]?=some (.cells #[u,y] t (0,0)):=by
 have hlt:=lt_of_block h;have h':w.heap[b]=.cells #[x,y] t (0,0):=by simpa [Array.getElem?_eq_getElem hlt] using h
 show(w.heap.modify b _)[b]?=_;rw[Array.getElem?_eq_getElem (by simpa using hlt),Array.getElem_modify_self,h']
 rfl
theorem Qds {w:World}{b:Nat}{x y u:Value}{t:TypeId}(h:w.heap[b]?=some (.cells #[x,y] t (0,0))):(w.setCell ⟨b,1,none⟩ u).heap[b]?=some (.cells #[x,u] t (0,0)):=by
 have hlt:=lt_of_block h;have h':w.heap[b]=.cells #[x,y] t (0,0):=by simpa [Array.getElem?_eq_getElem hlt] using h
 show(w.heap.modify b _)[b]?=_;rw[Array.getElem?_eq_getElem (by simpa using hlt),Array.getElem_modify_self,h']
 rfl
theorem Qaa (w:World)(o:Obj):(w.alloc o).heap[w.heap.size]?=some o:=by
 show(w.heap.push o)[w.heap.size]?=_;simp
def bY (l:List UInt8):List Value:=l.map λc=>Value.int .u8 c.toNat
theorem bZ (l:List UInt8):(bY l).length=l.length:=by simp[bY]
theorem Qax (a b:List UInt8):bY (a++b)=bY a++bY b:=by simp[bY]
theorem Qan (l:List UInt8):∀u∈bY l,u.oneCell'=true:=by
 intro u hu;simp only[bY,List.mem_map] at hu;obtain⟨c,_,rfl⟩:=hu
 rfl
theorem Qbq (l:List UInt8)(j:Nat)(hj:j<l.length):(bY l)[j]?=some (.int .u8 (l[j]).toNat):=by simp[bY,hj]
abbrev str (l:List UInt8):ByteArray:=⟨l.toArray⟩
theorem Kept.out {base b:Nat}{w w1 w2:World}(h:Kept w.heap.size w.heap.size w w1)(k:Kept base b w1 w2)(h1:w.heap.size<=base)(h2:w.heap.size<=b):Kept w.heap.size w.heap.size w w2:=
 h.trans (k.mono h1 (λk hk _=>by omega))
theorem Qyb {c:Nat}{w w1 w2:World}(k1:Kept w.heap.size c w w1)(k:Kept w1.heap.size c w1 w2):Kept w.heap.size c w1 w2:=k.mono k1.size (λ_ _ h=>h)
theorem Qaj {w:World}{b:Nat}{cs:List Value}{t:TypeId}(h:w.heap[b]?=some (.cells cs.toArray t (0,0)))(j:Nat)(u:Value):(w.setCell ⟨b,j,none⟩ u).heap[b]?=some (.cells (cs.set j u).toArray t (0,0)):=by
 have hlt:=lt_of_block h;have h':w.heap[b]=.cells cs.toArray t (0,0):=by simpa [Array.getElem?_eq_getElem hlt] using h
 show(w.heap.modify b _)[b]?=_;rw[Array.getElem?_eq_getElem (by simpa using hlt),Array.getElem_modify_self,h']
 simp
theorem Qby {w:World}{b:Nat}{cs:List Value}{t:TypeId}(h:w.heap[b]?=some (.cells cs.toArray t (0,0)))(j:Nat)(hj:j<cs.length):w.cell? ⟨b,j,none⟩=some (cs[j]):=by
 simp[World.cell?,h,hj]
theorem Qa0 {w:World}{b:Nat}{cs:List Value}{t:TypeId}(h:w.heap[b]?=some (.cells cs.toArray t (0,0)))(j:Nat):w.frozen? ⟨b,j,none⟩=false:=by simp[World.frozen?,h]
theorem Qc4 (w:World)(b j:Nat)(u:Value)(k:Nat)(hk:k≠b):(w.setCell ⟨b,j,none⟩ u).heap[k]?=w.heap[k]?:=by
 simp only[World.setCell,Array.getElem?_modify];rw[if_neg (λh=>hk h.symm)]
theorem Qae (l:List UInt8):(bY l).toArray.all (·.oneCell')=true:=by
 rw[Array.all_eq_true_iff_forall_mem];intro v hv;exact Qan l v (by simpa using hv)
theorem Qa5 (a b:List UInt8):str a++str b=str (a++b):=by
 apply ByteArray.ext;simp[ByteArray.data_append]
theorem Qxu (s:ByteArray):str s.data.toList=s:=by
 apply ByteArray.ext;simp
theorem Qai (l:List UInt8):(str l).size=l.length:=by simp[ByteArray.size]
theorem Qlk (l:List UInt8)(n:Nat):(str l).extract 0 n=str (l.take n):=by
 apply ByteArray.ext;simp[ByteArray.data_extract]
theorem Qll (l:List UInt8)(n:Nat):(str l).extract n (str l).size=str (l.drop n):=by
 apply ByteArray.ext;simp[ByteArray.data_extract,ByteArray.size];exact List.take_of_length_le (by simp)
theorem Qqj (l:List UInt8)(j:Nat)(h:j<(str l).size)(h2:j<l.length):(str l)[j]'h=l[j]:=rfl
def zY:Array Value:=(bY (List.replicate 32 0)).toArray
theorem Qao : #[Value.int IntKind.u8 0,Value.int IntKind.u8 0,Value.int IntKind.u8 0,Value.int IntKind.u8 0,Value.int IntKind.u8 0,Value.int IntKind.u8 0,Value.int IntKind.u8 0,Value.int IntKind.u8 0,Value.int IntKind.u8 0,Value.int IntKind.u8 0,Value.int IntKind.u8 0,Value.int IntKind.u8 0,Value.int IntKind.u8 0,Value.int IntKind.u8 0,Value.int IntKind.u8 0,Value.int IntKind.u8 0,Value.int IntKind.u8 0,Value.int IntKind.u8 0,Value.int IntKind.u8 0,Value.int IntKind.u8 0,Value.int IntKind.u8 0,Value.int IntKind.u8 0,Value.int IntKind.u8 0,Value.int IntKind.u8 0,Value.int IntKind.u8 0,Value.int IntKind.u8 0,Value.int IntKind.u8 0,Value.int IntKind.u8 0,Value.int IntKind.u8 0,Value.int IntKind.u8 0,Value.int IntKind.u8 0,Value.int IntKind.u8 0]=zY:=rfl
theorem Qah:zY.size = 32:=rfl
theorem Qeb:zY.all (·.oneCell')=true:=Qae _
theorem Qce {P:Program}(w:World)(t:TypeId)(z cs:Array Value)(hz:z.size=cs.size)(h1:cs.all (·.oneCell')=true):(storeCells ⟨w.heap.size,0,none⟩ cs.toList).run P (w.alloc (.cells z t))=.ok () (w.alloc (.cells cs t)):=by
 have:=run_storeCells_from (P:=P) w.heap.size t cs.toList 0 z (w.alloc (.cells z t)) (Qaa w _) (by simp;omega) (λv hv=>(Array.all_eq_true_iff_forall_mem.1 h1) v (by simpa using hv))
 rw[this]
 congr 1
 rw[<-World.setRow_alloc_new w z cs t];simp
theorem Qaq (w:World)(o1 o2:Obj):((w.alloc o1).alloc o2).heap[w.heap.size+1]?=some o2:=by
 have:=Qaa (w.alloc o1) o2
 rwa[show(w.alloc o1).heap.size=w.heap.size+1 from by simp] at this
theorem Qag {w:World}{b:Nat}{cs:List Value}{t:TypeId}(h:w.heap[b]?=some (.cells cs.toArray t (0,0))){j:Nat}{v:Value}(hv:cs[j]?=some v):w.cell? ⟨b,j,none⟩=some v:=by
 simp[World.cell?,h,hv]
theorem rk {w x:World}{b:Nat}{o:Obj}(h:w.heap[b]?=some o)(k:Kept w.heap.size w.heap.size w x):x.heap[b]?=some o:=by
 have hb:=lt_of_block h;exact(k.block b hb (Nat.ne_of_lt hb)).trans h
theorem kA (w:World)(o:Obj):Kept w.heap.size w.heap.size w (w.alloc o):=(Kept.refl _ _ w).alloc (Nat.le_refl _) o
theorem wW {P:Program}{ops:Array Oper}{Q:Exit->Act->World->Prop}{a:Act}{w:World}{rest:List Oper}{o:Oper}(h:∀K:Act->World->Prop,(∀a w,wpList P ops Q rest a w->K a w)->o.wp P a w K Q)(hw:Region.wanted o (yielded ops a.tmps)=true:=by kernel_rfl):wpList P ops Q (o::rest) a w:=BigFrame.wpList_want hw h
abbrev Kp(w x:World):Prop:=Kept w.heap.size w.heap.size w x
theorem zA {P:Program}{Q:Exit->Act->World->Prop}{a:Act}{w:World}{id:Nat}{l:List Oper}(h:wpList P l.toArray Q l a w):(Code.region id l.toArray false).wp P Q a w:=wp_region_lit h
theorem zB (n:Nat):n<=n:=Nat.le_refl n
theorem zC {n m k:Nat}(h:n<m)(h2:m<=k):n<k:=Nat.lt_of_lt_of_le h h2
theorem zD {a b:Nat}(h:a<b):a≠b:=Nat.ne_of_lt h
theorem zE {α:Type _}{s t:List α}:(s++t).length=s.length+t.length:=List.length_append
theorem zF {w:World}{b:Nat}{o:Obj}(h:w.heap[b]?=some o):b<w.heap.size:=lt_of_block h
theorem zG {c:Prop}{h:Decidable c}(hc:c){α:Sort _}{t e:α}:ite c t e=t:=if_pos hc
theorem zH {α:Sort _}{p q:α->Prop}{a:α}(h:p a)(k:q a):∃x,p x/\q x:=⟨a,h,k⟩
theorem zI {b r:Nat}{w:World}:Kept b r w w:=Kept.refl _ _ _
open Go.ChangeShapes Go.WideShapes Go.ChangeAt Go.RowKit
theorem Qlj {H:Type}{enc:TypeId × Value->H}{P:Program}(hl:laidOutB P=true){W W':World}(hb:Below W.heap.size W W'):
  ∀(ts:List TypeId),(∀t∈ts,P.readableRec t=true/\t<P.types.size)->∀(vs:List Value) (ds:List (DataW H)) (p:List MemPlace),DataW.TrodAll enc P W 0 (λ_=>true) true ts vs ds p->(∀x∈p,x.block<W.heap.size) ->
   DataW.TrodAll enc P W' 0 (λb=>decide (b<W.heap.size)) true ts vs ds p:=by
 intro ts
 induction ts with
 | nil=>
  intro _ vs ds p h _
  match vs,ds,h with
  | [],[],h=>exact h
 | cons t ts ih=>
  intro hts vs ds p h hp
  match vs,ds,h with
  | v::vs,d::ds,⟨p1,q1,h1,h2,h3⟩=>
   subst h3;have ht:=hts t (by simp)
   exact⟨p1,q1,Below.trod hl ht.1 ht.2 h1 hb (λx hx=>hp x (by simp[hx])),ih (λt ht=>hts t (by simp[ht])) vs ds q1 h2 (λx hx=>hp x (by simp[hx])),rfl⟩
theorem Qwh {H:Type}{enc:TypeId × Value->H}{P:Program}{f:Func}{s:ChangeSpec}{args:Array Value}{ds gs:List (DataW H)}{before:List MemPlace}{W W':World}(hl:laidOutB P=true)(hvars:s.vars=[])
  (hW:DataW.Whole enc P f.params.toList s.vars false W args.toList ds gs before) (hb:Below W.heap.size W W') (hts:∀t∈f.params.toList,P.readableRec t=true/\t<P.types.size)
  {tb:TypeId} (htb:P.underlying tb=some .bool) (hres:f.resultTypes = #[tb]) (hspec:s.fn H (ds++[])={ results:=[.lit (.bool true)],args:=ds }) :
  ∃v,Ending.returned (.bool true)=.returned v/\s.post enc P f false true false false W args v W':=by
 have hlt:=hW.lt;have hW0:=hW;obtain⟨p,q,hA,hV,rfl,hfz,hnd⟩:=hW;rw[hvars] at hV;obtain⟨rfl,rfl⟩:=trodVars_none hV;refine⟨_,rfl,ds,[],_,[],p,[],hW0,?_,?_,?_,hb.frame _,λh=>by cases h⟩
 ·rw[hres,hspec]
  exact trodAll_mk1 (shut_bool htb _)
 ·rw[hspec]
  exact Qlj hl hb _ hts _ _ _ hA (λx hx=>hlt x (by simp[hx]))
 ·rw[hspec,hvars]
  exact rfl
theorem Qfr {P:Program}{ops:Array Oper}{Q:Exit->Act->World->Prop}{md:Region.Mode}{S:World->Prop}{i:Nat}{oi:Oper}(d:Tmp)(v:Value){fuel:Nat}{listed:Array Bool}{tm:Array Value}{df:List Deferred}{w:World}(hi:ops[i]?=some oi)(hd:oi.dst=some d)
  (hs:Region.noSelect ops=true) (hf:Region.free md ops listed i=true) (hr:(Region.ready md ops listed).contains i=true)
  (hQ:∀c a w,Q (.panic c) (a.put oi.dst v) w->Q (.panic c) a w) (hy:YieldsIf P ops S oi v ⟨tm,df⟩) (hS:S w)
  (h:wpAnyH P md ops Q S fuel (listed.setIfInBounds i true) ⟨tm.setIfInBounds d v,df⟩ w):wpAnyH P md ops Q S (fuel+1) listed ⟨tm,df⟩ w:=
 wpAnyH_take hi hs hf hr hQ hy hS (by rw[hd];exact h)
theorem tkA {P:Program}{ops:Array Oper}{Q:Exit->Act->World->Prop}{md:Region.Mode}{S:World->Prop}{i:Nat}{oi:Oper}(d:Tmp)(v:Value){fuel:Nat}{listed:Array Bool}{tm:Array Value}{df:List Deferred}{w:World}(hi:ops[i]?=some oi)(hy:YieldsIf P ops S oi v ⟨tm,df⟩)(hS:S w)
  (h:wpAnyH P md ops Q S fuel (listed.setIfInBounds i true) ⟨tm.setIfInBounds d v,df⟩ w)(hd:oi.dst=some d:=by rfl)(hs:Region.noSelect ops=true:=by kernel_rfl)(hf:Region.free md ops listed i=true:=by kernel_rfl)(hr:(Region.ready md ops listed).contains i=true:=by kernel_rfl)(hQ:∀c a w,Q (.panic c) (a.put oi.dst v) w->Q (.panic c) a w:=by exact λ_ _ _ h=>h):wpAnyH P md ops Q S (fuel+1) listed ⟨tm,df⟩ w:=
 Qfr d v hi hd hs hf hr hQ hy hS h
theorem yK {P:Program}{ops:Array Oper}{S:World->Prop}{op:Oper}{a:Act}(hw:Region.wanted op (yielded ops a.tmps)=true)(ty:TypeId)(x:Operand)(ho:op.op=.load ty x)
  (g off:Nat) (hx:a.eval x=.pointer (some ⟨g,off,none⟩)) (v:Value) (hS:∀w,S w->(loadVar ty ⟨g,off,none⟩).run P w=.ok v w):YieldsIf P ops S op v a:=
 .inl ⟨hw,λw hw'=>by
  unfold execOp
  simp only[ho,hx,Instr.loadAt,Instr.sureAddr,Sem.run_bind,Sem.run_pure,Result.andThen_ok,hS w hw']⟩
theorem Qbn {P:Program}{ops:Array Oper}{Q:Exit->Act->World->Prop}{a:Act}{w:World}{o:Oper}{rest:List Oper}(hw:Region.wanted o (yielded ops a.tmps)=true)(ty:TypeId)(x:Operand)(ho:o.op=.load ty x)
  (g off:Nat) (hx:a.eval x=.pointer (some ⟨g,off,none⟩)) (v:Value) (hr:(loadVar ty ⟨g,off,none⟩).run P w=.ok v w) (h:wpList P ops Q rest (a.put o.dst v) w):wpList P ops Q (o::rest) a w:=
 wpList_step λK hK=>by
  rw[zG hw];unfold Oper.wp execOp;simp only[ho,hx,Instr.loadAt,Instr.sureAddr,Sem.run_bind,Sem.run_pure,Result.andThen_ok,hr];exact hK _ _ h
theorem wLk {P:Program}{ops:Array Oper}{Q:Exit->Act->World->Prop}{a:Act}{w:World}{o:Oper}{rest:List Oper}(ty:TypeId)(x:Operand)(ho:o.op=.load ty x)(g off:Nat)(hx:a.eval x=.pointer (some ⟨g,off,none⟩))(v:Value)(hr:(loadVar ty ⟨g,off,none⟩).run P w=.ok v w)(h:wpList P ops Q rest (a.put o.dst v) w)(hw:Region.wanted o (yielded ops a.tmps)=true:=by kernel_rfl):wpList P ops Q (o::rest) a w:=
 Qbn hw ty x ho g off hx v hr h
theorem Qav {P:Program}{ops:Array Oper}{rest:List Oper}{o:Oper}{a:Act}{w:World}{Q:Exit->Act->World->Prop}(hw:Region.wanted o (yielded ops a.tmps)=true)(ty:TypeId)(x:Operand)(ho:o.op=.load ty x)
  (g:Nat) (hx:a.eval x=.pointer (some ⟨g,0,none⟩)) (t:TypeId) (cs:Array Value) (fr:Nat × Nat) (d:TypeDesc) (hg:w.heap[g]?=some (.cells cs t fr))
  (hu:P.underlying ty=some d) (hd:(match d with | .struct _ | .array _ _=>true|_=>false)=true) (hi:(P.info? ty).map (·.size)=some cs.size)
  (h:wpList P ops Q rest (a.put o.dst (.agg cs)) w):wpList P ops Q (o::rest) a w:=
 wpList_step λK hK=>by
  rw[zG hw];exact wp_load_row ty x ho g hx t cs fr d hg hu hd hi (hK _ _ h)
open Go
section
variable {P:Program} {ops:Array Oper} {Q:Exit->Act->World->Prop} {md:Region.Mode} {S:World->Prop} {k:Nat}
def heldTo (P:Program)(md:Region.Mode)(ops:Array Oper)(Q:Exit->Act->World->Prop)(S:World->Prop)(k:Nat):Nat->Array Bool->Act->World->Prop
 | 0,listed,a,w=>Region.ready md ops listed=[]/\Q .normal a w
 | n+1,listed,a,w=>(Region.ready md ops listed=[]->Q .normal a w) /\
  ∀j,j∈Region.ready md ops listed->wpOp P ops Q j (λb u=>(j≠k->S u)/\heldTo P md ops Q S k n (listed.setIfInBounds j true) b u) a w
theorem Qk4:∀ (n:Nat) (listed:Array Bool) (a:Act) (w:World),heldTo P md ops Q S k n listed a w->wpAny P md ops Q n listed a w
 | 0,_,_,_,h=>h
 | n+1,_,_,_,h=>⟨h.1,λj hj=>wpOp_mono (λb u hu=>Qk4 n _ b u hu.2) (h.2 j hj)⟩
def waitsFor (md:Region.Mode)(ops:Array Oper)(k i:Nat):Bool:=
 match ops[k]? with
 | some o=>o.after.any λe=>Region.binds md e&&e.on == i
 | none=>true
theorem Qod {i:Nat}{o:Oper}(h:waitsFor md ops k i=true)(ho:ops[k]?=some o):∃e∈o.after,Region.binds md e=true/\e.on=i:=by
 unfold waitsFor at h;rw[ho] at h;obtain⟨e,he,h1⟩:=Array.any_eq_true'.1 h;rw[Bool.and_eq_true,beq_iff_eq] at h1;exact⟨e,he,h1.1,h1.2⟩
theorem Qnn {i:Nat}{oi:Oper}{v:Value}(hi:ops[i]?=some oi)(hsel:∀(j:Nat) (o:Oper) cs b,ops[j]?=some o->o.op≠.select cs b)
  (hQ:∀c a w,Q (.panic c) (a.put oi.dst v) w->Q (.panic c) a w) (hk:waitsFor md ops k i=true) :
  ∀(n:Nat) (listed:Array Bool) (a:Act) (w:World),
   (∀j oj,ops[j]?=some oj->j≠i->listed.getD j true=false->(∀e∈oj.after,Region.binds md e=true->e.on≠i)->oi.apart ops oj=true) ->
   i∈Region.ready md ops listed->YieldsIf P ops S oi v a->S w->heldTo P md ops Q S k n (listed.setIfInBounds i true) (a.put oi.dst v) w->heldTo P md ops Q S k (n+1) listed a w:=by
 intro n
 induction n with
 | zero=>
  intro listed a w _ hr hy hS H;refine⟨λh=>(by rw[h] at hr;cases hr),λj hj=>?_⟩
  by_cases hji:j=i
  ·subst hji
   exact hy.wpOp hi hS ⟨λ_=>hS,H⟩
  ·have:=ready_mono hj hji
   rw[H.1] at this
   cases this
 | succ n ih=>
  intro listed a w hfree hr hy hS H;refine⟨λh=>(by rw[h] at hr;cases hr),λj hj=>?_⟩
  by_cases hji:j=i
  ·subst hji
   exact hy.wpOp hi hS ⟨λ_=>hS,H⟩
  ·have h1:=H.2 j (ready_mono hj hji)
   obtain⟨hjun,oj,hoj,hall⟩:=mem_ready.1 hj
   have hnot:∀e∈oj.after,Region.binds md e=true->e.on≠i:=λe he hb heq=>by
    have h1:=hall e he hb;have h0:=(mem_ready.1 hr).1;rw[heq] at h1
    rcases Nat.lt_or_ge i listed.size with h2|h2
    ·simp[h2] at h0 h1
     rw[h0] at h1
     cases h1
    ·simp[Array.getElem?_eq_none h2] at h1
   have hjk:j≠k:=λe=>by
    subst e;obtain⟨e,he,hb,ho⟩:=Qod hk hoj;exact hnot e he hb ho
   have h2:=wpOp_putIf hoj (hfree j oj hoj hji hjun hnot) (λcs b=>hsel i oi cs b hi) (λcs b=>hsel j oj cs b hoj) hQ hy h1
   refine wpOp_mono (λb u h3=>⟨h3.2.1,ih (listed.setIfInBounds j true) b u (λm om hm hmi hun hno=>?_) (ready_mono hr (Ne.symm hji)) h3.1 (h3.2.1 hjk) ?_⟩) h2
   ·refine hfree m om hm hmi ?_ hno
    by_cases hjm:j=m
    ·subst hjm
     exact hjun
    ·rw[getD_set_ne true hjm] at hun
     exact hun
   ·rw[Array.setIfInBounds_comm _ _ hji]
    exact h3.2.2
theorem Qjm {i:Nat}{oi:Oper}(d:Tmp)(v:Value){n:Nat}{listed:Array Bool}{tm:Array Value}{df:List Deferred}{w:World}(hi:ops[i]?=some oi)(hd:oi.dst=some d)
  (hs:Region.noSelect ops=true) (hf:Region.free md ops listed i=true) (hr:(Region.ready md ops listed).contains i=true) (hk:waitsFor md ops k i=true)
  (hQ:∀c a w,Q (.panic c) (a.put oi.dst v) w->Q (.panic c) a w) (hy:YieldsIf P ops S oi v ⟨tm,df⟩) (hS:S w)
  (h:heldTo P md ops Q S k n (listed.setIfInBounds i true) ⟨tm.setIfInBounds d v,df⟩ w):heldTo P md ops Q S k (n+1) listed ⟨tm,df⟩ w:=
 Qnn hi (Region.noSelect_spec hs) hQ hk n listed _ w (Region.free_spec hi hf) (by simpa using hr) hy hS (by rw[hd];exact h)
theorem tkT {P:Program}{ops:Array Oper}{Q:Exit->Act->World->Prop}{md:Region.Mode}{S:World->Prop}{k i:Nat}{oi:Oper}(d:Tmp)(v:Value){n:Nat}{listed:Array Bool}{tm:Array Value}{df:List Deferred}{w:World}(hi:ops[i]?=some oi)(hy:YieldsIf P ops S oi v ⟨tm,df⟩)(hS:S w)
  (h:heldTo P md ops Q S k n (listed.setIfInBounds i true) ⟨tm.setIfInBounds d v,df⟩ w)(hd:oi.dst=some d:=by rfl)(hs:Region.noSelect ops=true:=by kernel_rfl)(hf:Region.free md ops listed i=true:=by kernel_rfl)(hr:(Region.ready md ops listed).contains i=true:=by kernel_rfl)(hk:waitsFor md ops k i=true:=by kernel_rfl)(hQ:∀c a w,Q (.panic c) (a.put oi.dst v) w->Q (.panic c) a w:=by exact λ_ _ _ h=>h):heldTo P md ops Q S k (n+1) listed ⟨tm,df⟩ w:=
 Qjm d v hi hd hs hf hr hk hQ hy hS h
theorem Qa2 {i:Nat}{o:Oper}{n:Nat}{listed:Array Bool}{a:Act}{w:World}(hr:Region.ready md ops listed=[i])(ho:ops[i]?=some o)
  (h:∀K:Act->World->Prop,Shut (∀b u,S u->(S u->heldTo P md ops Q S k n (listed.setIfInBounds i true) b u)->K b u)->if Region.wanted o (yielded ops a.tmps)=true then Oper.wp P o a w K Q else K (a.put o.dst undef) w) :
  heldTo P md ops Q S k (n+1) listed a w:=
 ⟨λh0=>(by rw[hr] at h0;cases h0),λj hj=>by
  rw[hr] at hj;obtain rfl:=List.mem_singleton.1 hj
  exact wpOp_step ho (λK hK=>h K (λb u hS hW=>hK b u ⟨λ_=>hS,hW hS⟩))⟩
theorem Qb4 {o:Oper}{n:Nat}{listed:Array Bool}{a:Act}{w:World}(hr:Region.ready md ops listed=[k])(ho:ops[k]?=some o)
  (h:∀K:Act->World->Prop,Shut (∀b u,heldTo P md ops Q S k n (listed.setIfInBounds k true) b u->K b u)->if Region.wanted o (yielded ops a.tmps)=true then Oper.wp P o a w K Q else K (a.put o.dst undef) w) :
  heldTo P md ops Q S k (n+1) listed a w:=
 ⟨λh0=>(by rw[hr] at h0;cases h0),λj hj=>by
  rw[hr] at hj;obtain rfl:=List.mem_singleton.1 hj
  exact wpOp_step ho (λK hK=>h K (λb u hW=>hK b u ⟨λh=>absurd rfl h,hW⟩))⟩
theorem Qb5 {listed:Array Bool}{a:Act}{w:World}(hr:Region.ready md ops listed=[])(h:Q .normal a w):∀n,heldTo P md ops Q S k n listed a w
 | 0=>⟨hr,h⟩
 | _+1=>⟨λ_=>h,by rw[hr];simp⟩
theorem Qa9 (k:Nat){S:World->Prop}{id:Nat}{a:Act}{w:World}(hm:P.follows .mixedOrders=true)(hS:S w.drew)
  (h:S w.drew->heldTo P .any ops Q S k ops.size (Array.replicate ops.size false) a w.drew):(Code.region id ops true).wp P Q a w:=
 wp_region_any hm (Qk4 _ _ _ _ (h hS))
end
structure Buf (w:World) (base:Nat) (v:Value) (l:List UInt8):Prop where
 ex:∃g cap cur fz,v=.slice (some ⟨g,0,none⟩) l.length cap/\base<=g/\w.heap[g]?=some (.cells cur 5 fz)/\(fz=(0,0)\/cur.size<=fz.1)/\l.length<=cap/\cap<=maxLen/\cur.size=cap/\cur.toList.take l.length=bY l
theorem Buf.same {w w':World}{base:Nat}{v:Value}{l:List UInt8}(h:Buf w base v l)(hb:∀k,base<=k->k<w.heap.size->w'.heap[k]?=w.heap[k]?):Buf w' base v l:=by
 obtain⟨g,cap,cur,fz,h1,h2,h3,h4⟩:=h.ex;exact⟨g,cap,cur,fz,h1,h2,(hb g h2 (zF h3)).trans h3,h4⟩
theorem Buf.own {w:World}{base:Nat}{v:Value}{l:List UInt8}(h:Buf w base v l):∃g,v.ownBlock=some g/\base<=g/\g<w.heap.size:=by
 obtain⟨g,cap,cur,fz,rfl,h2,h3,_⟩:=h.ex;exact⟨g,rfl,h2,zF h3⟩
theorem Buf.cells {w:World}{base:Nat}{v:Value}{l:List UInt8}(h:Buf w base v l):∃g cap,v=.slice (some ⟨g,0,none⟩) l.length cap/\base<=g/\g<w.heap.size/\l.length<=cap/\∀j (hj:j<l.length),w.cell? ⟨g,j,none⟩=some (.int .u8 (l[j]).toNat):=by
 obtain⟨g,cap,cur,fz,rfl,h2,h3,_,h5,_,h7,h8⟩:=h.ex;refine⟨g,cap,rfl,h2,zF h3,h5,λj hj=>?_⟩
 have h9:=Qbq l j hj;rw[<-h8,List.getElem?_take,zG hj] at h9;rw[cell_of_row w g j cur _ fz h3]
 simpa using h9
theorem Buf.made (w:World)(s:ByteArray)(hs:s.size<=maxLen):Buf (w.drew.alloc (.cells (bytesRow s (grownCap w s.size 0 5)) 5 ((bytesRow s (grownCap w s.size 0 5)).size,(bytesRow s (grownCap w s.size 0 5)).size+1))) w.heap.size (.slice (some ⟨w.heap.size,0,none⟩) s.size (grownCap w s.size 0 5)) s.data.toList:=by
 have hge:=grownCap_ge w s.size 0 5
 have hsz:(bytesRow s (grownCap w s.size 0 5)).size=grownCap w s.size 0 5:=by
  have e1:s.data.size=s.size:=rfl;simp only[bytesRow,Array.size_append,Array.size_map,Array.size_replicate]
  omega
 refine⟨w.heap.size,_,_,_,?_,zB _,heap_alloc_new w.drew _,.inr (zB _),?_,grownCap_le_maxLen w s.size 0 _ hs,hsz,?_⟩
 ·simp
 ·simpa using hge
 ·apply List.ext_getElem?
  intro j
  by_cases hj:j<s.data.toList.length
  ·rw[List.getElem?_take,zG hj,Qbq _ _ hj]
   have:=bytesRow_at s (grownCap w s.size 0 5) j (by simpa using hj)
   simpa using this
  ·rw[List.getElem?_eq_none (by rw[List.length_take];omega),List.getElem?_eq_none (by rw[bZ];omega)]
theorem Qka (w:World)(base:Nat)(t ty:TypeId)(i:TypeInfo)(ht:Tryz.prog.underlying t=some (.slice 5))(hi:Tryz.prog.info? 5=some i)(hz:i.zero=some (.int .u8 0))(hsize:i.size=1)(hby:i.bytes=1)
  (v:Value) (l:List UInt8) (h:Buf w base v l) (ad:Addr) (c:Nat) (b:UInt8) (hc:w.cell? ad=some (.int .u8 b.toNat)) (hl:l.length<=1000000) (hbase:base<=w.heap.size) :
  ∃v' w',(Builtin.append_ #[t,t] ty #[v,.slice (some ad) 1 c]).run Tryz.prog w=.ok v' w'/\Buf w' base v' (l++[b])/\w.grownBy w' v.ownBlock:=by
 obtain⟨g,cap,cur,fz,rfl,h2,h3,h4,h5,h6,h7,h8⟩:=h.ex
 have hnews:∀j u,([Value.int .u8 b.toNat]:List Value)[j]?=some u->w.cell? (ad.add j)=some u:=λj u hu=>by
  match j with
  | 0=>
   cases hu
   rw[show ad.add 0=ad by unfold Addr.add;split <;> simp_all]
   exact hc
  | j+1=>simp at hu
 have hone:∀u∈([Value.int .u8 b.toNat]:List Value),u.oneCell'=true:=λu hu=>by
  rw[List.mem_singleton] at hu;subst hu
  rfl
 by_cases hroom:l.length+1<=cap
 ·have hlt:l.length<cur.size:=by omega
  have hf:=run_firstCells_some (P:=Tryz.prog) w i.size 1 ad 1 c [Value.int .u8 b.toNat] (by rw[hsize];rfl) hnews
  have hcell:w.cell? ⟨g,l.length,none⟩=some cur[l.length]:=by simp[World.cell?,h3,hlt]
  have hfro:w.frozen? ⟨g,l.length,none⟩=false:=by
   obtain⟨lo,hi'⟩:=fz;simp only[World.frozen?,h3,Bool.and_eq_false_iff,decide_eq_false_iff_not]
   rcases h4 with h4|h4
   ·cases h4;right;omega
   ·left;simp only at h4;omega
  have hadd:(⟨g,l.length,none⟩:Addr).add 0=⟨g,l.length,none⟩:=by unfold Addr.add;split <;> simp_all
  have hst:(storeCells ⟨g,l.length,none⟩ [Value.int .u8 b.toNat]).run Tryz.prog w=.ok () (w.setRow g (cur.setIfInBounds l.length (.int .u8 b.toNat))):=by
   have h9:(store (⟨g,l.length,none⟩:Addr) (.int .u8 b.toNat)).run Tryz.prog w=.ok () (w.setRow g (cur.setIfInBounds l.length (.int .u8 b.toNat))):=by
    rw[run_store Tryz.prog w _ _ _ rfl,hcell];simp[hfro,setCell_eq_setRow w g l.length cur _ fz _ h3]
   simp only[storeCells,Sem.run_bind,hadd,h9,Result.andThen_ok]
   rfl
  refine⟨.slice (some ⟨g,0,none⟩) (l.length+1) cap,w.setRow g (cur.setIfInBounds l.length (.int .u8 b.toNat)),?_,⟨g,cap,_,fz,?_,h2,setRow_heap w g cur _ _ _ h3,?_,?_,h6,?_,?_⟩,⟨rfl,rfl,rfl,by simp,λk _ hk=>setRow_other w g k _ (λe=>hk (by simp[Value.ownBlock,e]))⟩⟩
  ·simp[Builtin.append_,run_underlying ht,sizeOf,typeInfo,hi,hsize,Builtin.lenOf,hroom,Addr.add_lit] at hf |-
   rw[hf];simp[hst]
  ·simp
  ·rcases h4 with h4|h4
   ·exact .inl h4
   ·exact .inr (by simpa using h4)
  ·simpa using hroom
  ·simpa using h7
  ·apply List.ext_getElem?
   intro j;have h8':∀j,j<l.length->cur.toList[j]?=(bY l)[j]?:=λj hj=>by rw[<-h8,List.getElem?_take,zG hj]
   rw[Qax,Array.toList_setIfInBounds,zE,List.length_singleton,List.getElem?_take]
   by_cases hj:j<l.length
   ·rw[zG (by omega),List.getElem?_set_ne (by omega),List.getElem?_append_left (by rw[bZ];exact hj),h8' j hj]
   ·by_cases hj2:j=l.length
    ·subst hj2
     rw[zG (by omega),List.getElem?_append_right (by rw[bZ];omega),bZ,Nat.sub_self,List.getElem?_set_self (by simpa using hlt)]
     rfl
    ·rw[if_neg (by omega),List.getElem?_append_right (by rw[bZ];omega),List.getElem?_eq_none (by simp[bY];omega)]
 ·have hl2:(bY l).length=l.length*i.size:=by rw[hsize,bZ,Nat.mul_one]
  have holds:∀j u,(bY l)[j]?=some u->w.cell? ((⟨g,0,none⟩:Addr).add j)=some u:=λj u hu=>by
   have hj:j<l.length:=by
    have:=(List.getElem?_eq_some_iff.1 hu).1
    rwa[bZ] at this
   rw[<-h8,List.getElem?_take,zG hj] at hu;rw[Addr.add_lit,Nat.zero_add,cell_of_row w g j cur _ fz h3]
   simpa using hu
  have hr:=run_append_grow (P:=Tryz.prog) w t ty 5 i (.int .u8 0) ht hi hz ⟨g,0,none⟩ l.length cap (bY l) hl2 holds ad 1 c [Value.int .u8 b.toNat] (by rw[hsize];rfl) hnews (by omega) (by omega) (growslice_fits (by omega) (by rw[hby];omega))
  have hge:=grownCap_ge w (l.length+1) cap 5
  have hcm:=grownCap_le_maxLen w (l.length+1) cap 5 (by unfold maxLen;omega)
  refine⟨_,_,hr,⟨w.heap.size,_,_,(0,0),?_,hbase,heap_alloc_new w.drew _,.inl rfl,?_,hcm,?_,?_⟩,⟨rfl,rfl,rfl,by simp,λk hk _=>Below.heap_alloc w.drew _ k hk⟩⟩
  ·rw[zE,List.length_singleton]
  ·rw[zE,List.length_singleton];exact hge
  ·have hz1:(Value.int IntKind.u8 0).cells.size=1:=rfl
   simp only[Array.size_append,List.size_toArray,size_zeroCells,hz1,bZ,List.length_singleton]
   omega
  ·simp only[Array.toList_append,List.append_assoc]
   rw[Qax,<-List.append_assoc,zE,List.length_singleton];have e:(bY l++bY [b]).length=l.length+1:=by rw[zE,bZ,bZ];rfl
   rw[<-e];exact List.take_left
theorem Qb6 {ops:Array Oper}{rest:List Oper}{o:Oper}{a:Act}{w:World}{Q:Exit->Act->World->Prop}(hgd:o.guard=none)(s x:Operand)(t:TypeId)
  (ho:o.op=.call { callee:=.builtin .append,args:=#[s,x],argTypes:=#[t,t] })
  (base:Nat) (i:TypeInfo) (ht:Tryz.prog.underlying t=some (.slice 5)) (hi:Tryz.prog.info? 5=some i) (hz:i.zero=some (.int .u8 0)) (hsize:i.size=1) (hby:i.bytes=1)
  (v:Value) (l:List UInt8) (hs:a.eval s=v) (h:Buf w base v l) (ad:Addr) (c:Nat) (b:UInt8) (hx:a.eval x=.slice (some ad) 1 c) (hc:w.cell? ad=some (.int .u8 b.toNat)) (hl:l.length<=1000000) (hbase:base<=w.heap.size)
  (hk:∀v' w',Buf w' base v' (l++[b])->w.grownBy w' v.ownBlock->wpList Tryz.prog ops Q rest (a.put o.dst v') w'):wpList Tryz.prog ops Q (o::rest) a w:=by
 refine wpList_plain hgd λK hK=>?_
 obtain⟨v',w',hr,h2,h3⟩:=Qka w base t o.type i ht hi hz hsize hby v l h ad c b hc hl hbase;unfold Oper.wp execOp;simp only[ho,resolve,invoke,builtin,Sem.run_bind,Sem.run_pure,Result.andThen_ok,List.map_toArray,List.map_cons,List.map_nil,hs,hx,hr];exact hK _ _ (hk v' w' h2 h3)
theorem Qha:Tryz.prog.eqGuardType Tryz.prog.depth 23=false:=by kernel_rfl
theorem Qpb (w:World)(xs:List UInt8)(hx:xs.length=32):(Op.equalIn 10000 23 (.agg (bY xs).toArray) (.agg (bY xs).toArray)).run Tryz.prog w=.ok true w:=by
 have:=run_equalIn_bytes (P:=Tryz.prog) w 9998 23 5 32 Tryz.underlying23 Tryz.underlying5 (λw=>Tryz.sizeOf5 w) xs xs hx hx
 rw[beq_self_eq_true] at this;exact this
theorem Qdv (w:World)(xs ys:List UInt8)(hx:xs.length=32)(hy:ys.length=32):(Op.equalIn 10000 23 (.agg (bY xs).toArray) (.agg (bY ys).toArray)).run Tryz.prog w=.ok (xs == ys) w:=
 run_equalIn_bytes (P:=Tryz.prog) w 9998 23 5 32 Tryz.underlying23 Tryz.underlying5 (λw=>Tryz.sizeOf5 w) xs ys hx hy
open Go.ChangeShapes Go.WideShapes Go.ChangeAt Go.RowKit Go.Deep
theorem Qsu:Tryz.prog.cellsOf 5=1:=by kernel_rfl
theorem Qjo:Tryz.prog.cellsOf 23=32:=by kernel_rfl
theorem Qpq (cs:List Value)(i:Nat)(v:Value)(h:(cs.drop i).take 1=[v]):cs[i]?=some v:=by
 have:((cs.drop i).take 1)[0]?=some v:=by rw[h];rfl
 simpa using this
theorem Qi6 {H:Type}{enc:TypeId × Value->H}{w:World}{base:Nat}{spare:Nat->Bool}{held:Bool}{fuel:Nat}{cs:List Value}{x:DataW H × List MemPlace}(h:DataW.trod enc Tryz.prog w base spare held fuel 23 cs=some x):∃l:List UInt8,l.length=32/\cs=bY l:=by
 obtain⟨xs,m,_,_,hl,hn,hel⟩:=DataW.trod_array Tryz.underlying23 h
 rw[Qjo] at hl
 have key:∀i,i<32->∃c:UInt8,cs[i]?=some (.int .u8 c.toNat):=λi hi=>by
  have h1:=hel i hi;rw[Qsu,Nat.mul_one,List.getElem?_eq_getElem (by omega)] at h1
  obtain⟨n,h2,_,h3⟩:=DataW.trod_int Tryz.underlying5 h1
  have hw:=bounds_u8 h3;refine⟨UInt8.ofNat n.toNat,?_⟩;rw[Qpq _ _ _ h2,UInt8.toNat_ofNat']
  congr 2
  omega
 obtain⟨f,hf⟩:=choose_lt (α:=UInt8) key;refine⟨(List.range 32).map f,by simp,?_⟩
 apply List.ext_getElem?;intro i
 by_cases hi:i<32
 ·rw[hf i hi]
  simp[bY,hi]
 ·rw[List.getElem?_eq_none (by omega),List.getElem?_eq_none (by simp[bY];omega)]
theorem Qqz:∀ (l:List Value) (k:Nat) (acc:Array Value),acc.size=k+l.length->(l.zipIdx k).foldl (λcs (x:Value × Nat)=>cs.setIfInBounds (0+x.2) x.1) acc=(acc.toList.take k++l).toArray
 | [],k,acc,h=>by
  apply Array.ext';simp only[List.zipIdx_nil,List.foldl_nil,List.append_nil];rw[List.take_of_length_le (by simpa using Nat.le_of_eq h)]
 | v::l,k,acc,h=>by
  rw[List.zipIdx_cons,List.foldl_cons,Qqz l (k+1) _ (by simp at h |-;omega)]
  apply Array.ext';simp only[Nat.zero_add,Array.toList_setIfInBounds];have hk:k<acc.toList.length:=by simp at h |-;omega
  rw[List.take_succ_eq_append_getElem (by rw[List.length_set];exact hk),List.getElem_set_self,List.append_assoc]
  congr 1
  ·rw[List.take_set_of_le (zB _)]
theorem Qwp (cs old:Array Value)(h:old.size=cs.size):cs.zipIdx.foldl (λa (x:Value × Nat)=>a.setIfInBounds (0+x.2) x.1) old=cs:=by
 rw[<-Array.foldl_toList,Array.toList_zipIdx,Qqz cs.toList 0 old (by simpa using h)]
 simp
theorem Qcm {P:Program}(w:World)(t e:TypeId)(i:TypeInfo)(z:Value)(ht:P.underlying t=some (.slice e))(hi:P.info? e=some i)(hz:i.zero=some z)(cs:Array Value)(hs:cs.size=i.size)(hpos:0<i.size)(hmax:i.size<=16777216):
  (Instr.buildSlice t 1 #[(0,.agg cs)]).run P w=.ok (.slice (some ⟨w.heap.size,0,none⟩) 1 1) (w.alloc (.cells cs e)):=by
 have n0:¬(i.size=0):=by omega
 have n1:¬(16777216<i.size):=by omega
 have hf:∀old:Array Value,old.size=cs.size->Array.foldl (λcs (x:Value × Nat)=>cs.setIfInBounds x.snd x.fst) old cs.zipIdx 0 i.size=cs:=λold h=>by
  have:=Qwp cs old h;simp only[Nat.zero_add] at this;rw[<-hs]
  simpa using this
 simp only[Instr.buildSlice];simp[run_underlying ht,sizeOf,typeInfo,hi,zeroValue,hz,n0,n1,Instr.fill,Value.cells,hs,newRow];rw[hf _ (by simp[hs])]
theorem Qet {P:Program}{ops:Array Oper}{rest:List Oper}{o:Oper}{a:Act}{w:World}{Q:Exit->Act->World->Prop}(hgd:o.guard=none)(x:Operand)(t e:TypeId)(ho:o.op=.buildSlice t 1 #[(0,x)])(i:TypeInfo)(z:Value)(ht:P.underlying t=some (.slice e))(hi:P.info? e=some i)(hz:i.zero=some z)
  (cs:Array Value) (hx:a.eval x=.agg cs) (hs:cs.size=i.size) (hpos:0<i.size) (hmax:i.size<=16777216) (hk:wpList P ops Q rest (a.put o.dst (.slice (some ⟨w.heap.size,0,none⟩) 1 1)) (w.alloc (.cells cs e))):wpList P ops Q (o::rest) a w:=by
 refine wpList_plain hgd λK hK=>?_
 have hr:=Qcm (P:=P) w t e i z ht hi hz cs hs hpos hmax;unfold Oper.wp execOp;simp only[ho,List.map_toArray,List.map_cons,List.map_nil,hx,Sem.run_bind,hr,Result.andThen_ok,Sem.run_pure];exact hK _ _ hk
theorem Qal {P:Program}{ops:Array Oper}{rest:List Oper}{o:Oper}{a:Act}{w w':World}{v':Value}{Q:Exit->Act->World->Prop}(hgd:o.guard=none)(s x:Operand)(t t' ty:TypeId)(hty:o.type=ty)
  (ho:o.op=.call { callee:=.builtin .append,args:=#[s,x],argTypes:=#[t,t'] }) (v y:Value) (hs:a.eval s=v) (hx:a.eval x=y) (hr:(Builtin.append_ #[t,t'] ty #[v,y]).run P w=.ok v' w')
  (hk:wpList P ops Q rest (a.put o.dst v') w'):wpList P ops Q (o::rest) a w:=by
 refine wpList_plain hgd λK hK=>?_
 subst hty;unfold Oper.wp execOp;simp only[ho,resolve,invoke,builtin,Sem.run_bind,Sem.run_pure,Result.andThen_ok,List.map_toArray,List.map_cons,List.map_nil,hs,hx,hr];exact hK _ _ hk
end Go.Proofs.YtnlbgggnpoeleaaGreatDoor
