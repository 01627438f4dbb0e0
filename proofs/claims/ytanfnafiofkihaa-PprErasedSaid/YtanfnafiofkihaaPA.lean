/-
 Free; FactsMem: several texts in one.
-/
import Derived.Deep.RegionHeld3
import Derived.Test.YtanfnafiofkihaaGP
import Derived.Test.YtanfnafiofkihaaGH
import Derived.Test.YtanfnafiofkihaaKD
import Derived.Test.YtanfnafiofkihaaKA
namespace Go.Proofs.Ytanfnafiofkihaa
open Go
def slotOf (ops:Array Oper)(i:Nat):Option Tmp:=(ops[i]?).bind (·.dst)
def toCome (listed:Array Bool)(i:Nat):Bool:=!listed.getD i true
def waitsOn (md:Region.Mode)(o:Oper)(j:Nat):Bool:=o.after.any λe=>Region.binds md e && e.on == j
def readsOf (md:Region.Mode)(ops:Array Oper)(listed:Array Bool)(o:Oper):List (Nat × Tmp):=
 (List.range ops.size).filterMap λj=>match slotOf ops j with
  | some d=>if toCome listed j && waitsOn md o j && (o.looksAt ops).contains d then some (j,d) else none
  | none=>none
def makesOf (ops:Array Oper)(listed:Array Bool):List (Nat × Tmp):=
 (List.range ops.size).filterMap λj=>match slotOf ops j with
  | some d=>if toCome listed j then some (j,d) else none
  | none=>none
def putAll (V:Tmp->Value)(l:List (Nat × Tmp))(tm:Array Value):Array Value:=l.foldl (λacc p=>acc.setIfInBounds p.2 (V p.2)) tm
def plainRegion (md:Region.Mode)(ops:Array Oper)(listed:Array Bool):Bool:=
 (List.range ops.size).all λi=>!toCome listed i || match ops[i]? with
  | none=>false
  | some o=>o.guard.isNone && (match o.op with | .select _ _=>false | _=>true) && (o.after.all λe=>!Region.binds md e || decide (e.on < i)) &&
   (List.range ops.size).all λk=>!toCome listed k || k == i || match ops[k]? with
    | none=>false
    | some q=>match q.dst with
     | none=>true
     | some d=>o.dst != some d && (!(o.looksAt ops).contains d || waitsOn md o k || waitsOn md q i)
section
variable {P:Program} {ops:Array Oper} {Q:Exit->Act->World->Prop} {md:Region.Mode} {S:World->Prop}
def leftBy (ops:Array Oper)(i:Nat)(V:Tmp->Value):Value:=match slotOf ops i with
 | some d=>V d
 | none=>undef
section law
variable (md ops) (c:Nat) (R1 R2:World->World->Prop) (Z:Bool->World->Prop) (Y:Nat->Value->World->Prop) (listed0:Array Bool) (tm:Array Value) (df:List Deferred) (w0:World)
def StepOk (P:Program)(Q:Exit->Act->World->Prop)(i:Nat)(o:Oper):Prop:=
 ∀ (V:Tmp->Value) (z:Bool) (u:World),R2 w0 u->Z z u->(i = c->z = false)->(∀ p∈readsOf md ops listed0 o,Y p.1 (V p.2) u) ->
  ∀ K:Act->World->Prop,Shut (∀ a' u',(∃ v,a' = (⟨putAll V (readsOf md ops listed0 o) tm,df⟩:Act).put o.dst v/\(if i = c then R2 u u'/\Z true u' else R1 u u')/\Y i (if o.dst.isSome then v else undef) u')->K a' u') ->
   o.wp P ⟨putAll V (readsOf md ops listed0 o) tm,df⟩ u K Q
structure OnWay (listed:Array Bool) (b:Act) (u:World):Prop where
 rel:R2 w0 u
 z:Z (toCome listed0 c && !toCome listed c) u
 df:b.defers = df
 size:b.tmps.size = tm.size
 made:∀ i o,ops[i]? = some o->toCome listed0 i = true->toCome listed i = false->Y i (leftBy ops i (λd=>b.tmps.getD d undef)) u
 late:∀ k q,ops[k]? = some q->toCome listed0 k = true->toCome listed k = false->∀ j,waitsOn md q j = true->toCome listed j = false
 old:∀ t,(∀ i,toCome listed0 i = true->toCome listed i = false->slotOf ops i≠some t)->b.tmps[t]? = tm[t]?
end law
def AllFree (P:Program)(md:Region.Mode)(ops:Array Oper)(Q:Exit->Act->World->Prop)(c:Nat)(R1 R2:World->World->Prop)(Z:Bool->World->Prop)(Y:Nat->Value->World->Prop)(listed0:Array Bool)(tm:Array Value)(df:List Deferred)(w0:World)(rs:List Nat):Prop:=
 ∀ i∈rs,∀ o,ops[i]? = some o->StepOk ops md c R1 R2 Z Y listed0 tm df w0 P Q i o
section
variable {c:Nat} {R1 R2:World->World->Prop} {Z:Bool->World->Prop} {Y:Nat->Value->World->Prop} {listed0:Array Bool} {tm:Array Value} {df:List Deferred} {w0:World}
theorem AllFree.nil:AllFree P md ops Q c R1 R2 Z Y listed0 tm df w0 []:=λ_ h=>nomatch h
theorem AllFree.cons {i:Nat}{o:Oper}{rs:List Nat}(rd:List (Nat × Tmp))(ho:ops[i]? = some o)(hrd:readsOf md ops listed0 o = rd)(hic:(i == c) = false)
  (h:∀ (V:Tmp->Value) (z:Bool) (u:World),R2 w0 u->Z z u->(∀ p∈rd,Y p.1 (V p.2) u)->∀ K:Act->World->Prop,Shut (∀ a' u',(∃ v,a' = (⟨putAll V rd tm,df⟩:Act).put o.dst v/\R1 u u'/\Y i (if o.dst.isSome then v else undef) u')->K a' u')->o.wp P ⟨putAll V rd tm,df⟩ u K Q)
  (hs:AllFree P md ops Q c R1 R2 Z Y listed0 tm df w0 rs):AllFree P md ops Q c R1 R2 Z Y listed0 tm df w0 (i :: rs):=λj hj o' ho'=>by
 rcases List.mem_cons.1 hj with rfl | hj
 ·rw [ho] at ho'
  cases ho'
  intro V z u hu hz _ hy K hK;rw [hrd] at hy hK |-;have hne:j≠c:=by simpa using hic
  refine h V z u hu hz hy K (λa' u' hh=>hK a' u' ?_)
  obtain⟨v,e,h1,h2⟩:=hh;exact⟨v,e,by rw [if_neg hne]; exact h1,h2⟩
 ·exact hs j hj o' ho'
end
end
end Go.Proofs.Ytanfnafiofkihaa
namespace Go.Proofs.Ytanfnafiofkihaa
open Go.RowKit Go.Lib
open List renaming setIfInBounds_toArray -> sA, set_cons_zero -> sB, set_cons_succ -> sC
open BigFrame renaming wpList_want -> wQ
def StayG (T:TypeId)(w w':World):Prop:=∀ (k:Nat) (o:Obj),w.heap[k]? = some o->(∀ cs fr,o≠.cells cs T fr)->w'.heap[k]? = some o
theorem StayG.cells {T:TypeId}{w w':World}(h:StayG T w w'){k:Nat}{cs:Array Value}{t:TypeId}{fr:Nat × Nat}(hk:w.heap[k]? = some (.cells cs t fr))(ht:t≠T):w'.heap[k]? = some (.cells cs t fr):=
 h k _ hk (λcs2 fr2 e=>by
  injection e with _ h2 _
  exact ht h2)
theorem StayG.grown {T:TypeId}{w w':World}{fb n s:Nat}{v:Value}{xs:List Value}(ho:w.ownsRow fb T s v n xs)(hg:w.grownBy w' v.ownBlock):StayG T w w':=λi o hi hn=>by
 rw [hg.block i (lt_of_block hi) (λe=>?_)]
 ·exact hi
 ·rcases ho.2 with ⟨rfl,_⟩ | ⟨g,cap,cur,rfl,_,hh,_⟩
  ·simp [Value.ownBlock] at e
  ·simp [Value.ownBlock] at e
   subst e;rw [hi] at hh
   cases hh
   exact hn _ _ rfl
theorem StayG.setRow {T:TypeId}{w:World}{g:Nat}{old:Array Value}{fr:Nat × Nat}(h:w.heap[g]? = some (.cells old T fr))(cs:Array Value):StayG T w (w.setRow g cs):=λi o hi hn=>by
 rw [setRow_other w g i cs (λe=>?_)]
 ·exact hi
 ·subst e
  rw [hi] at h
  cases h
  exact hn _ _ rfl
theorem StayG.but {T:TypeId}{w w':World}{g:Nat}{old:Array Value}{fr:Nat × Nat}(h:w.heap[g]? = some (.cells old T fr))(k:Kept w.heap.size g w w'):StayG T w w':=λi o hi hn=>by
 rw [k.block i (lt_of_block hi) (λe=>?_)]
 ·exact hi
 ·subst e
  rw [hi] at h
  cases h
  exact hn _ _ rfl
theorem Bok.stayG {T:TypeId}{w w':World}{base bb b:Nat}{fs:List (List (List UInt8) × List (List UInt8))}{nmf:Lit->Option Value}{S:BokS}(h:Bok w base bb fs b nmf S)(k:StayG T w w')(t1:85≠T)(t2:3≠T)(t3:122≠T)(t4:26≠T):Bok w' base bb fs b nmf S:=by
 have hm:∀ {i:Nat},(∃ es c,w.heap[i]? = some (.map es c))->w'.heap[i]? = w.heap[i]?:=fun {i} ⟨es,c,hh⟩=>by
  rw [hh];exact k i _ hh (λcs2 fr2 e=>by cases e)
 refine⟨k.cells h.cells t1,h.lowb,h.lowa,h.lown,h.lowm,h.an,h.amm,h.nmm,?_,h.alike.same (hm h.alike.map),h.need.same (hm h.need.map),h.names.same (hm h.names.map),λo=>(h.row o).stay λi hi=>?_,h.sep,h.free,h.needed,h.same,h.found,h.few⟩
 ·refine h.facts.stay (λi hi=>?_) (λi cs fr hh=>k.cells hh t4)
  obtain⟨ps,_,ho,_⟩:=h.facts;obtain⟨cs,hh⟩:=rowCells ho i hi;rw [hh];exact k.cells hh t3
 ·obtain⟨cs,hh⟩:=(h.row o).cellsAt i hi
  rw [hh];exact k.cells hh t2
theorem InBook.stayG {T:TypeId}{w w':World}{base bb n:Nat}{fs:Facts}(h:InBook w base bb fs n)(k:StayG T w w')(t1:85≠T)(t2:3≠T)(t3:122≠T)(t4:26≠T):InBook w' base bb fs n:=by
 obtain⟨n',h1,S,h3⟩:=h;exact⟨n',h1,S,h3.stayG k t1 t2 t3 t4⟩
theorem InBk.stayG {T:TypeId}{w w':World}{base bb n:Nat}{fs:Facts}{X:Nat->Prop}(h:InBk w base bb fs n X)(k:StayG T w w')(t1:85≠T)(t2:3≠T)(t3:122≠T)(t4:26≠T):InBk w' base bb fs n X:=by
 obtain⟨n',h1,S,h2,h3⟩:=h;exact⟨n',h1,S,h2,h3.stayG k t1 t2 t3 t4⟩
theorem Own.stayG {T:TypeId}{w w':World}{base:Nat}{v:Value}{M:List (List UInt8)}(h:Own w base v M)(k:StayG T w w')(t1:25≠T):Own w' base v M:=by
 refine⟨h.1,h.2.1,?_⟩
 rcases h.2.2 with h1 | ⟨g,cap,cur,rfl,hb2,hh,rest⟩
 ·exact .inl h1
 ·exact .inr ⟨g,cap,cur,rfl,hb2,k.cells hh t1,rest⟩
theorem OwnF.stayG {T:TypeId}{w w':World}{base:Nat}{v:Value}{L:Facts}(h:OwnF w base v L)(k:StayG T w w')(t1:25≠T)(t2:35≠T):OwnF w' base v L:=by
 obtain⟨ps,hl,ho,hp⟩:=h;refine⟨ps,hl,⟨ho.1,?_⟩,λi hi hpi=>⟨(hp i hi hpi).1.stayG k t1,(hp i hi hpi).2.stayG k t1⟩⟩
 rcases ho.2 with h1 | ⟨g,cap,cur,rfl,hb2,hh,rest⟩
 ·exact .inl h1
 ·exact .inr ⟨g,cap,cur,rfl,hb2,k.cells hh t2,rest⟩
theorem Own.oneCell {w:World}{base:Nat}{v:Value}{M:List (List UInt8)}(h:Own w base v M):v.oneCell' = true:=by
 rcases h.2.2 with ⟨rfl,_⟩ | ⟨g,cap,cur,rfl,_⟩ <;> rfl
theorem OwnF.oneCell {w:World}{base:Nat}{v:Value}{L:Facts}(h:OwnF w base v L):v.oneCell' = true:=by
 obtain⟨ps,_,ho,_⟩:=h
 rcases ho.2 with ⟨rfl,_⟩ | ⟨g,cap,cur,rfl,_⟩ <;> rfl
theorem OwnF.shape {w:World}{base:Nat}{v:Value}{L:Facts}(h:OwnF w base v L):∃ ad c,v = .slice ad L.length c:=by
 obtain⟨ad,g,o,c,hv,_⟩:=h.fs;exact⟨ad,c,hv⟩
theorem OwnF.low {w:World}{base base':Nat}{v:Value}{L:Facts}(h:OwnF w base v L)(hb:base'<=base):OwnF w base' v L:=by
 obtain⟨ps,hl,ho,hp⟩:=h;refine⟨ps,hl,⟨ho.1,?_⟩,hp⟩
 rcases ho.2 with h1 | ⟨g,cap,cur,rfl,hb2,rest⟩
 ·exact .inl h1
 ·exact .inr ⟨g,cap,cur,rfl,Nat.le_trans hb hb2,rest⟩
theorem append_facts (w:World)(base:Nat)(v:Value)(L:Facts)(hown:OwnF w base v L)(hbase:base<=w.heap.size)(b c m:Nat)(ps:List (Value × Value))(F:Facts)(hm:F.length = m)(hpl:ps.length = F.length)(hq:∀ i (hi:i < F.length) (hj:i < ps.length),Own w 0 ps[i].1 F[i].1/\Own w 0 ps[i].2 F[i].2)(hb:∀ j u,(ps.flatMap λp=>[p.1,p.2])[j]? = some u->w.cell? ⟨b,j,none⟩ = some u)(hl:L.length + F.length < 1000000):
  ∃ v' w',(Builtin.append_ #[31,31] 31 #[v,.slice (some ⟨b,0,none⟩) m c]).run Try.prog w = .ok v' w'/\OwnF w' base v' (L ++ F)/\w.grownBy w' v.ownBlock:=by
 subst hm;obtain⟨i,z,hi,hz,hzs,hs⟩:=fact_info
 have hby:i.bytes = 48:=by
  have:=factBytes;rw [hi] at this
  simpa using this
 obtain⟨qs,hpl2,ho,hp⟩:=hown
 have hfl:∀ ps:List (Value × Value),(ps.flatMap λp=>[p.1,p.2]).length = ps.length * 2:=λps=>by
  induction ps with
  | nil=>rfl
  | cons p ps ih=>rw [List.flatMap_cons,List.length_append,ih,List.length_cons]; simp; omega
 obtain⟨v',w',h1,h2,h3,_⟩:=run_append_own (P:=Try.prog) w base 31 31 35 i z 2 48 Try.underlying31 hi hz hs hby hzs (by decide) v L.length _ ho ⟨b,0,none⟩ F.length c (ps.flatMap λp=>[p.1,p.2])
  (by rw [hfl,hpl]) (λj u hu=>by
   rw [Addr.add_lit,Nat.zero_add]
   exact hb j u hu)
  (λu hu=>by
   obtain⟨p,hp1,hp2⟩:=List.mem_flatMap.1 hu;obtain⟨k,hk,rfl⟩:=List.getElem_of_mem hp1;obtain⟨o1,o2⟩:=hq k (by omega) hk
   simp at hp2
   rcases hp2 with rfl | rfl
   ·exact o1.oneCell
   ·exact o2.oneCell) (by unfold maxLen; omega) (by omega) hbase
 refine⟨v',w',h1,⟨qs ++ ps,by simp [hpl2,hpl],?_,λj hj hpj=>?_⟩,h3⟩
 ·rw [List.length_append,List.flatMap_append]
  exact h2
 ·rcases Nat.lt_or_ge j L.length with h | h
  ·obtain⟨p,q⟩:=hp j h (by omega)
   rw [List.getElem_append_left (by omega),List.getElem_append_left h]
   exact⟨p.grownF ho h3,q.grownF ho h3⟩
  ·have hjF:j - L.length < F.length:=by rw [List.length_append] at hj; omega
   have hjp:j - qs.length < ps.length:=by omega
   obtain⟨p,q⟩:=hq (j - L.length) hjF (by omega)
   have e1:(qs ++ ps)[j] = ps[j - L.length]'(by omega):=by
    rw [List.getElem_append_right (by omega)]
    simp only [hpl2]
   have e2:(L ++ F)[j] = F[j - L.length]:=List.getElem_append_right h;rw [e1,e2];exact⟨p.grownF ho h3,q.grownF ho h3⟩
def OwnN (w:World)(base:Nat)(v:Value)(LL:List Facts):Prop:=
 ∃ vs:List Value,vs.length = LL.length/\w.ownsRow base 31 1 v LL.length vs/\∀ i (hi:i < LL.length) (hv:i < vs.length),OwnF w 0 vs[i] LL[i]
theorem OwnN.kept {w w':World}{base:Nat}{v:Value}{LL:List Facts}(h:OwnN w base v LL)(k:Kept w.heap.size w.heap.size w w'):OwnN w' base v LL:=by
 obtain⟨vs,hl,ho,hp⟩:=h;refine⟨vs,hl,ho.kept (row:=none) ⟨k.os,k.tape,k.output,k.size,λi hi _=>k.block i hi (by omega)⟩ (by cases hv:v.ownBlock <;> simp),λi hi hv=>(hp i hi hv).kept k (Nat.le_refl _)⟩
theorem OwnN.bk {w w':World}{base b:Nat}{v:Value}{LL:List Facts}(h:OwnN w base v LL)(k:BkFr b w w'):OwnN w' base v LL:=by
 obtain⟨vs,hl,ho,hp⟩:=h;refine⟨vs,hl,⟨ho.1,?_⟩,λi hi hv=>(hp i hi hv).bk k⟩
 rcases ho.2 with h1 | ⟨g,cap,cur,rfl,hb2,hh,rest⟩
 ·exact .inl h1
 ·exact .inr ⟨g,cap,cur,rfl,hb2,k.oth _ _ _ _ hh (by decide) (by decide) (by decide),rest⟩
theorem OwnN.shape {w:World}{base:Nat}{v:Value}{LL:List Facts}(h:OwnN w base v LL):∃ ad c,v = .slice ad LL.length c:=by
 obtain⟨vs,hl,ho,hp⟩:=h
 rcases ho.2 with ⟨rfl,hn⟩ | ⟨g,cap,cur,rfl,_⟩
 ·exact⟨none,0,by rw [hn]⟩
 ·exact⟨_,_,rfl⟩
theorem OwnN.lt {w:World}{base:Nat}{v:Value}{LL:List Facts}(h:OwnN w base v LL):∀ k,v.ownBlock = some k->base<=k/\k < w.heap.size:=by
 obtain⟨vs,hl,ho,hp⟩:=h;exact ho.lt
theorem OwnN.at {w:World}{base:Nat}{ad:Option Addr}{n c:Nat}{LL:List Facts}(h:OwnN w base (.slice ad n c) LL)(i:Nat)(hi:i < LL.length):∃ g f,ad = some ⟨g,0,none⟩/\g < w.heap.size/\w.cell? ⟨g,i,none⟩ = some f/\OwnF w 0 f LL[i]:=by
 obtain⟨v,hv⟩:∃ v,v = Value.slice ad n c:=⟨_,rfl⟩;rw [<- hv] at h;obtain⟨vs,hl,ho,hp⟩:=h;have hlt:=ho.lt;have h0:=ho
 rcases ho.2 with ⟨rfl,hn⟩ | ⟨g,cap,cur,rfl,hb,_⟩
 ·omega
 ·have hiv:i < vs.length:=by omega
  have h1:=h0.cells (g:=g) rfl i vs[i] (by simp)
  rw [Addr.add_lit,Nat.zero_add] at h1
  cases hv
  exact⟨g,vs[i],rfl,(hlt g rfl).2,h1,hp i hi hiv⟩
theorem OwnF.at {w:World}{base:Nat}{ad:Option Addr}{n c:Nat}{L:Facts}(h:OwnF w base (.slice ad n c) L)(i:Nat)(hi:i < L.length):∃ g a b,ad = some ⟨g,0,none⟩/\g < w.heap.size/\w.rangeAt g (i * 2) [a,b]/\Own w 0 a L[i].1/\Own w 0 b L[i].2:=by
 obtain⟨v,hv⟩:∃ v,v = Value.slice ad n c:=⟨_,rfl⟩;rw [<- hv] at h;obtain⟨ps,hl,ho,hp⟩:=h;have hlt:=ho.lt;have h0:=ho
 rcases ho.2 with ⟨rfl,hn⟩ | ⟨g,cap,cur,rfl,hb,_⟩
 ·omega
 ·have hip:i < ps.length:=by omega
  obtain⟨a,b⟩:=pairs_at ps i hip;obtain⟨c,d⟩:=hp i hi hip;have h1:=h0.cells (g:=g) rfl (i * 2) _ a;have h2:=h0.cells (g:=g) rfl (i * 2 + 1) _ b;rw [Addr.add_lit,Nat.zero_add] at h1 h2
  cases hv
  refine⟨g,ps[i].1,ps[i].2,rfl,(hlt g rfl).2,λj u hu=>?_,c,d⟩
  match j with
  | 0=>cases hu; exact h1
  | 1=>cases hu; exact h2
  | j + 2=>simp at hu
theorem build_made5 (iad oad:Option Addr)(n m c c2:Nat)(w:World):(Instr.build 35 #[(0,.slice iad n c),(1,.slice oad m c2)]).run Try.prog w = .ok (.agg #[.slice iad n c,.slice oad m c2]) w:=by kernel_rfl
theorem Own.bk {w w':World}{B b:Nat}{u:Value}{M:List (List UInt8)}(h:Own w B u M)(k:BkFr b w w'):Own w' B u M:=by
 refine⟨h.1,h.2.1,?_⟩
 rcases h.2.2 with h1 | ⟨g,cap,cur,rfl,hb2,hh,rest⟩
 ·exact .inl h1
 ·exact .inr ⟨g,cap,cur,rfl,hb2,k.oth _ _ _ _ hh (by decide) (by decide) (by decide),rest⟩
theorem Own.shape {w:World}{B n:Nat}{u:Value}{M:List (List UInt8)}(h:Own w B u M)(hn:M.length = n):∃ ad c,u = .slice ad n c:=by
 obtain⟨_,ad,g,o,c,hv,_⟩:=h.hs;exact⟨ad,c,by rw [hv,hn]⟩
theorem own_one5 {w:World}{g:Nat}{x:List UInt8}(hx:x.length = 32)(h:w.heap[g]? = some (.cells (bcells x).toArray 25 (0,0))):Own w 0 (.slice (some ⟨g,0,none⟩) 1 1) [x]:=
 ⟨λy hy=>by rw [List.mem_singleton.1 hy]; exact hx,by rw [bcells_length]; simp [hx],.inr ⟨g,1,_,rfl,Nat.zero_le _,h,Nat.le_refl _,by unfold maxLen; omega,by rw [List.size_toArray,bcells_length,hx],by
  show(bcells x).toArray.toList.take 32 = bcells [x].flatten;rw [List.take_of_length_le (by simp [bcells,hx])]
  simp⟩⟩
theorem own_two5 {w:World}{g:Nat}{x y:List UInt8}(hx:x.length = 32)(hy:y.length = 32)(h:w.heap[g]? = some (.cells ((bcells x).toArray ++ (bcells y).toArray) 25 (0,0))):Own w 0 (.slice (some ⟨g,0,none⟩) 2 2) [x,y]:=
 ⟨λz hz=>by
  rcases List.mem_cons.1 hz with rfl | hz
  ·exact hx
  ·rw [List.mem_singleton.1 hz]; exact hy,by rw [bcells_length]; simp [hx,hy],.inr ⟨g,2,_,rfl,Nat.zero_le _,h,Nat.le_refl _,by unfold maxLen; omega,by simp [bcells_length,hx,hy],by
  rw [List.take_of_length_le (by simp [bcells_length,hx,hy])]
  simp [bcells]⟩⟩
def FVal (u:World)(v:Value)(f:List (List UInt8) × List (List UInt8)):Prop:=∃ a b,v = .agg #[a,b]/\Own u 0 a f.1/\Own u 0 b f.2
def FRow (u:World)(v:Value)(F:Facts):Prop:=∃ (q:Nat) (ps:List (Value × Value)),v = .slice (some ⟨q,0,none⟩) F.length F.length/\ps.length = F.length/\u.heap[q]? = some (.cells (ps.flatMap λp:Value × Value=>[p.1,p.2]).toArray 35 (0,0))/\∀ i (hi:i < F.length) (hj:i < ps.length),Own u 0 ps[i].1 F[i].1/\Own u 0 ps[i].2 F[i].2
inductive YK where
 | val (c:Value)
 | own (M:List (List UInt8))
 | fval (f:List (List UInt8) × List (List UInt8))
 | frow (F:Facts)
 | ownf (F:Facts)
 | any
def YK.at:YK->Value->World->Prop
 | .val c,v,_=>v = c
 | .own M,v,u=>Own u 0 v M
 | .fval f,v,u=>FVal u v f
 | .frow F,v,u=>FRow u v F
 | .ownf F,v,u=>OwnF u 0 v F
 | .any,_,_=>True
def ykAt (tb:List (Nat × YK))(i:Nat):YK:=(tb.lookup i).getD .any
theorem FVal.bk {b:Nat}{u u':World}{v:Value}{f:List (List UInt8) × List (List UInt8)}(h:FVal u v f)(k:BkFr b u u'):FVal u' v f:=by
 obtain⟨x,y,e,h1,h2⟩:=h;exact⟨x,y,e,h1.bk k,h2.bk k⟩
theorem FRow.bk {b:Nat}{u u':World}{v:Value}{F:Facts}(h:FRow u v F)(k:BkFr b u u'):FRow u' v F:=by
 obtain⟨q,ps,e,h1,h2,h3⟩:=h;exact⟨q,ps,e,h1,k.oth _ _ _ _ h2 (by decide) (by decide) (by decide),λi hi hj=>⟨(h3 i hi hj).1.bk k,(h3 i hi hj).2.bk k⟩⟩
theorem YK.bk {b:Nat}{u u':World}{v:Value}:∀ {y:YK},y.at v u->BkFr b u u'->y.at v u'
 | .val _,h,_=>h
 | .own _,h,k=>Own.bk h k
 | .fval _,h,k=>FVal.bk h k
 | .frow _,h,k=>FRow.bk h k
 | .ownf _,h,k=>OwnF.bk h k
 | .any,_,_=>trivial
theorem frow_one {u:World}{q:Nat}{a b:Value}{f:List (List UInt8) × List (List UInt8)}(ya:Own u 0 a f.1)(yb:Own u 0 b f.2)(h:u.heap[q]? = some (.cells #[a,b] 35 (0,0))):FRow u (.slice (some ⟨q,0,none⟩) 1 1) [f]:=
 ⟨q,[(a,b)],rfl,rfl,h,λi hi hj=>by
  obtain rfl:i = 0:=by simp at hi; omega
  exact⟨ya,yb⟩⟩
theorem FRow.append {u:World}{v:Value}{F:Facts}(h:FRow u v F)(hl:F.length < 1000):∃ v' u',(Builtin.append_ #[31,31] 31 #[.slice none 0 0,v]).run Try.prog u = .ok v' u'/\OwnF u' 0 v' F/\Kept u.heap.size u.heap.size u u':=by
 obtain⟨q,ps,rfl,h1,h2,h3⟩:=h;obtain⟨v',u',hr,ho,hg⟩:=append_facts u 0 (.slice none 0 0) [] (OwnF.nil _ _) (Nat.zero_le _) q F.length F.length ps F rfl h1 h3 (λj x hx=>cells_get h2 hx) (by simp; omega)
 exact⟨v',u',hr,by simpa using ho,(Kept.refl _ _ _).grown hg (Nat.le_refl _) (λk hk=>by cases hk)⟩
theorem wp_append_known {P:Program}{o:Oper}{a:Act}{w w':World}{v':Value}{K:Act->World->Prop}{Q:Exit->Act->World->Prop}(s x:Operand)(t t' ty:TypeId)(hty:o.type = ty)
  (ho:o.op = .call { callee:=.builtin .append,args:=#[s,x],argTypes:=#[t,t'] }) (v y:Value) (hs:a.eval s = v) (hx:a.eval x = y) (hr:(Builtin.append_ #[t,t'] ty #[v,y]).run P w = .ok v' w')
  (hk:K (a.put o.dst v') w'):o.wp P a w K Q:=by
 subst hty;unfold Oper.wp execOp;simp only [ho,resolve,invoke,builtin,Sem.run_bind,Sem.run_pure,Result.andThen_ok,List.map_toArray,List.map_cons,List.map_nil,hs,hx,hr];exact hk
end Go.Proofs.Ytanfnafiofkihaa
