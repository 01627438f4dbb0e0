/-
 A store in memory: its block, the map of its vertices, the map of those behind a parent.
-/
import Derived.Test.YtfbfdaeagpdaiaaDagMath
import Derived.Test.YtfbfdaeagpdaiaaGD
import Derived.Test.YtfbfdaeagpdaiaaKA
import Derived.Maps.OwnSet
namespace Go.Proofs.Ytfbfdaeagpdaiaa
open Go.RowKit Go.Lib
open List renaming setIfInBounds_toArray → sA, set_cons_zero → sB, set_cons_succ → sC
open BigFrame renaming wpList_want → wQ
open Go.Maps (Keyed)
noncomputable def vR (v:Value):Option (DataW Value × List MemPlace):=@ite _ (∃ c:Vx,c.Ok∧v = c.val) (Classical.propDecidable _) (some (.held v,[])) none
theorem vR_val {c:Vx}(h:c.Ok):vR c.val = some (.held c.val,[]):=by unfold vR; rw [if_pos ⟨c,h,rfl⟩]
theorem vR_inv {v:Value}{y:DataW Value × List MemPlace}(h:vR v = some y):∃ c:Vx,c.Ok∧v = c.val∧y = (.held v,[]):=by
 unfold vR at h
 split at h
 ·rename_i hc
  obtain⟨c,h1,h2⟩:=hc;exact⟨c,h1,h2,(Option.some.inj h).symm⟩
 ·cases h
def look (L:List Vx)(i:List UInt8):Option Vx:=L.find? fun v=>v.id == i
theorem look_some {L:List Vx}{i:List UInt8}{v:Vx}(h:look L i = some v):v∈L∧v.id = i:=by
 unfold look at h;exact⟨List.mem_of_find?_eq_some h,by simpa using List.find?_some h⟩
theorem look_none {L:List Vx}{i:List UInt8}(h:look L i = none):∀ v∈L,v.id≠i:=by
 unfold look at h;intro v hv
 simpa using List.find?_eq_none.1 h v hv
theorem look_out {L:List Vx}{i:List UInt8}(h:look L i = none):i∉Dg.ids L:=fun hi=>by
 obtain⟨v,hv,he⟩:=List.mem_map.1 hi;exact look_none h v hv he
theorem look_none_of {L:List Vx}{i:List UInt8}(h:i∉Dg.ids L):look L i = none:=by
 cases hl:look L i with
 | none=>rfl
 | some v=>
  obtain⟨h1,h2⟩:=look_some hl;exact absurd (List.mem_map.2 ⟨v,h1,h2⟩) h
theorem look_of {L:List Vx}(hn:(Dg.ids L).Nodup){v:Vx}(hv:v∈L):look L v.id = some v:=by
 cases h:look L v.id with
 | none=>exact absurd rfl (look_none h v hv)
 | some u=>
  obtain⟨h1,h2⟩:=look_some h;rw [Dg.ids_one hn h1 hv h2]
structure Vd (D:DataW Value) (L:List Vx):Prop where
 size:Maps.size D = L.length
 has:∀ l,Maps.has D l = true↔∃ v∈L,l = .string v.id
 vals:∀ v∈L,∀ z,D.atKey (.string v.id) z = .held v.val
def Vp (w:World)(b n:Nat)(L:List Vx):Prop:=∃ D,w.ownsMap Try.prog 30 vR b n D∧Vd D L
theorem owns_same {w w':World}{k:TypeId}{R:Value→Option (DataW Value × List MemPlace)}{b n:Nat}{D:DataW Value}(h:w.ownsMap Try.prog k R b n D)(hb:w'.heap[b]? = w.heap[b]?):w'.ownsMap Try.prog k R b n D:=by
 obtain⟨es,clock,h0,h1⟩:=h;exact⟨es,clock,hb.trans h0,h1⟩
section
variable {w w':World} {b n:Nat} {L:List Vx}
theorem Vp.same (h:Vp w b n L)(hb:w'.heap[b]? = w.heap[b]?):Vp w' b n L:=by
 obtain⟨D,h1,h2⟩:=h;exact⟨D,owns_same h1 hb,h2⟩
theorem Vp.lt (h:Vp w b n L):b < w.heap.size:=by
 obtain⟨D,h1,_⟩:=h;exact h1.lt
theorem Vp.mono (h:Vp w b n L){n':Nat}(hn:n≤n'):Vp w b n' L:=by
 obtain⟨D,h1,h2⟩:=h;exact⟨D,h1.mono hn,h2⟩
theorem Vp.made (w:World):Vp (w.alloc (.map #[] 0)) w.heap.size 0 []:=⟨.map [],World.ownsMap_made w _ _ vR,rfl,fun l=>⟨fun h=>by simp [Maps.has] at h,fun⟨v,hv,_⟩=>by cases hv⟩,fun v hv=>by cases hv⟩
theorem Vp.ext (h:Vp w b n L){L':List Vx}(hm:∀ u,u∈L↔u∈L')(hl:L.length = L'.length):Vp w b n L':=by
 obtain⟨D,h1,h2⟩:=h;refine⟨D,h1,h2.size.trans hl,fun l=>?_,fun v hv=>h2.vals v ((hm v).2 hv)⟩
 rw [h2.has]
 constructor
 ·rintro ⟨v,hv,e⟩; exact⟨v,(hm v).1 hv,e⟩
 ·rintro ⟨v,hv,e⟩; exact⟨v,(hm v).2 hv,e⟩
theorem zero15 (w:World):(zeroValue 36).run Try.prog w = .ok Vx.zero.val w:=by kernel_rfl
theorem Vp.look_ok (h:Vp w b n L){i:List UInt8}(hi:i.length = 32):
  (Instr.lookup 46 (.map (some b)) (.agg (bcells i).toArray) true).run Try.prog w = .ok (.tuple #[((look L i).getD Vx.zero).val,.bool (look L i).isSome]) w:=by
 obtain⟨D,h1,h2⟩:=h;obtain⟨v,ps,hrun,hv⟩:=h1.look_ok hash_keyed Try.underlying46 (zero15 w) (vR_val Vx.zero_ok) (keyOf_hash i hi)
 obtain⟨c,_,_,hy⟩:=vR_inv hv;have hat:=congrArg Prod.fst hy;simp only at hat
 cases hl:look L i with
 | none=>
  have hno:Maps.has D (.string i) = false:=by
   cases hh:Maps.has D (.string i) with
   | false=>rfl
   | true=>
    obtain⟨u,hu,e⟩:=(h2.has _).1 hh;injection e with e
    exact absurd e.symm (look_none hl u hu)
  rw [Maps.atKey_of_not_has hno] at hat;rw [hrun,hno,← DataW.held.inj hat]
  rfl
 | some u=>
  obtain⟨hu,rfl⟩:=look_some hl;have hyes:Maps.has D (.string u.id) = true:=(h2.has _).2 ⟨u,hu,rfl⟩;rw [h2.vals u hu] at hat;rw [hrun,hyes,← DataW.held.inj hat]
  rfl
theorem Vp.put (h:Vp w b n L){v:Vx}(hv:v.Ok)(hn:v.id∉Dg.ids L)(hm:n < maxLen):
  ∃ w',(Instr.mapUpdate 46 (.map (some b)) (.agg (bcells v.id).toArray) v.val).run Try.prog w = .ok () w'∧Vp w' b (n + 1) (v :: L)∧w.mapTurned w' b:=by
 obtain⟨D,h1,h2⟩:=h;obtain⟨w',hrun,hown,ht⟩:=h1.store hash_keyed Try.underlying46 hm (keyOf_hash v.id hv.1) (vR_val hv)
 have hno:Maps.has D (.string v.id) = false:=by
  cases hh:Maps.has D (.string v.id) with
  | false=>rfl
  | true=>
   obtain⟨u,hu,e⟩:=(h2.has _).1 hh;injection e with e
   exact absurd (List.mem_map.2 ⟨u,hu,e.symm⟩) hn
 have hkey:=hash_keyed.key (keyOf_hash v.id hv.1);refine⟨w',hrun,⟨_,hown,?_,fun l=>?_,fun u hu z=>?_⟩,ht⟩
 ·rw [Maps.size_put (h1.tidy hash_keyed),hno,h2.size]
  rfl
 ·by_cases hl:l = .string v.id
  ·subst hl
   rw [Maps.has_put_same h1.isMap hkey];simp
  ·rw [Maps.has_put_other hl,h2.has]
   simp [hl]
 ·by_cases he:u.id = v.id
  ·rcases List.mem_cons.1 hu with rfl | hu
   ·exact Maps.atKey_put_same h1.isMap hkey _ z
   ·exact absurd (List.mem_map.2 ⟨u,hu,he⟩) hn
  ·rw [Maps.atKey_put_other (by simpa using he)]
   rcases List.mem_cons.1 hu with rfl | hu
   ·exact absurd rfl he
   ·exact h2.vals u hu z
def but (L:List Vx)(i:List UInt8):List Vx:=L.filter fun u=>!(u.id == i)
theorem mem_but {L:List Vx}{i:List UInt8}{u:Vx}:u∈but L i↔u∈L∧u.id≠i:=by simp [but]
theorem but_length:∀ {L:List Vx},(Dg.ids L).Nodup→∀ i:List UInt8,(but L i).length + (if (look L i).isSome then 1 else 0) = L.length
 | [],_,i=>rfl
 | x :: L,hn,i=>by
  simp only [Dg.ids,List.map_cons,List.nodup_cons] at hn;have ih:=but_length hn.2 i
  by_cases hx:x.id = i
  ·have h1:but (x :: L) i = but L i:=by simp [but,hx]
   have h2:look (x :: L) i = some x:=by simp [look,hx]
   have h3:look L i = none:=look_none_of (by rw [← hx]; exact hn.1)
   rw [h3] at ih;rw [h1,h2];simp at ih ⊢;exact ih
  ·have h1:but (x :: L) i = x :: but L i:=by simp [but,hx]
   have h2:look (x :: L) i = look L i:=by simp [look,hx]
   rw [h1,h2,List.length_cons,List.length_cons]
   omega
theorem Vp.drop (h:Vp w b n L)(hnd:(Dg.ids L).Nodup){i:List UInt8}(hi:i.length = 32)(ty:TypeId):
  ∃ w',(Builtin.delete_ #[46,30] ty #[.map (some b),.agg (bcells i).toArray]).run Try.prog w = .ok (.tuple #[]) w'∧Vp w' b n (but L i)∧w.mapTurned w' b:=by
 obtain⟨D,h1,h2⟩:=h;obtain⟨w',hrun,hown,ht⟩:=h1.drop hash_keyed Try.underlying46 (keyOf_hash i hi) ty
 refine⟨w',hrun,⟨_,hown,?_,fun l=>?_,fun u hu z=>?_⟩,ht⟩
 ·have e1:=Maps.size_del (k:=.string i) (h1.tidy hash_keyed)
  have e2:=but_length hnd i
  have e3:Maps.has D (.string i) = (look L i).isSome:=by
   cases hl:look L i with
   | none=>
    cases hh:Maps.has D (.string i) with
    | false=>rfl
    | true=>
     obtain⟨u,hu,e⟩:=(h2.has _).1 hh;injection e with e
     exact absurd e.symm (look_none hl u hu)
   | some u=>
    obtain⟨hu,rfl⟩:=look_some hl;exact(h2.has _).2 ⟨u,hu,rfl⟩
  rw [e3,h2.size] at e1
  omega
 ·by_cases hl:l = .string i
  ·subst hl
   rw [Maps.has_del_same];simp only [Bool.false_eq_true,false_iff];rintro ⟨u,hu,e⟩;injection e with e
   exact(mem_but.1 hu).2 e.symm
  ·rw [Maps.has_del_other hl,h2.has]
   constructor
   ·rintro ⟨u,hu,rfl⟩
    exact⟨u,mem_but.2 ⟨hu,fun e=>hl (by rw [e])⟩,rfl⟩
   ·rintro ⟨u,hu,rfl⟩
    exact⟨u,(mem_but.1 hu).1,rfl⟩
 ·obtain⟨hu1,hu2⟩:=mem_but.1 hu
  rw [Maps.atKey_del_other (by simpa using hu2)]
  exact h2.vals u hu1 z
theorem Vp.len (h:Vp w b n L)(ty:TypeId):(Builtin.len_ #[46] ty #[.map (some b)]).run Try.prog w = .ok (.int .i64 (L.length:Nat)) w:=by
 obtain⟨D,h1,h2⟩:=h;rw [h1.len Try.underlying46 ty,h2.size]
end
def In15 (w:World)(b n:Nat):Prop:=∃ D,w.ownsMap Try.prog 3 (unitElem (H:=Value)) b n D
noncomputable def out15 (f:Lit→Option Value) (kl:Lit):Lit→Option Value:=fun l=>@ite _ (l = kl) (Classical.propDecidable _) none (f l)
theorem out15_sub {f:Lit→Option Value}{kl l:Lit}{v:Value}(h:out15 f kl l = some v):f l = some v:=by
 unfold out15 at h
 split at h
 ·cases h
 ·exact h
theorem Mp.drop {w:World}{k:TypeId}{b n:Nat}{f:Lit→Option Value}(h:Mp w k b n f)(K:Keyed Try.prog k){t e:TypeId}(ht:Try.prog.underlying t = some (.map k e)){key:Value}{kl:Lit}(hkey:keyOf Try.prog k key = some kl)(ty:TypeId):
  ∃ w',(Builtin.delete_ #[t,k] ty #[.map (some b),key]).run Try.prog w = .ok (.tuple #[]) w'∧Mp w' k b n (out15 f kl)∧w.mapTurned w' b:=by
 obtain⟨D,h1,h2⟩:=h;obtain⟨w',hrun,hown,ht'⟩:=h1.drop K ht hkey ty;refine⟨w',hrun,⟨_,hown,fun l=>?_⟩,ht'⟩
 by_cases hl:l = kl
 ·subst hl
  have:out15 f l l = none:=by unfold out15; rw [if_pos rfl]
  rw [this];exact⟨fun _=>Maps.has_del_same,fun v h=>by cases h⟩
 ·have:out15 f kl l = f l:=by unfold out15; rw [if_neg hl]
  rw [this,Maps.has_del_other hl];exact⟨(h2 l).1,fun v hv=>⟨((h2 l).2 v hv).1,fun z=>by rw [Maps.atKey_del_other hl]; exact((h2 l).2 v hv).2 z⟩⟩
section
variable {w w':World} {b n:Nat}
theorem In15.same (h:In15 w b n)(hb:w'.heap[b]? = w.heap[b]?):In15 w' b n:=by
 obtain⟨D,h1⟩:=h;exact⟨D,owns_same h1 hb⟩
theorem In15.mono (h:In15 w b n){n':Nat}(hn:n≤n'):In15 w b n':=by
 obtain⟨D,h1⟩:=h;exact⟨D,h1.mono hn⟩
theorem In15.made (w:World):In15 (w.alloc (.map #[] 0)) w.heap.size 0:=⟨.map [],World.ownsMap_made w _ _ _⟩
theorem wf_dep {d:Int}(h0:0≤d)(h1:d≤4611686018427387903):(Lit.int .i64 d).wf = true:=by
 simp [Lit.wf,IntKind.min,IntKind.max,IntKind.signed,IntKind.bits]
 omega
theorem In15.put (h:In15 w b n){d:Int}(h0:0≤d)(h1:d≤4611686018427387903)(hm:n < maxLen):
  ∃ w',(Instr.mapUpdate 55 (.map (some b)) (.int .i64 d) (.agg #[])).run Try.prog w = .ok () w'∧In15 w' b (n + 1)∧w.mapTurned w' b:=by
 obtain⟨D,h2⟩:=h;obtain⟨w',hrun,hown,ht⟩:=h2.store int_keyed3 Try.underlying55 hm (Maps.keyOf_int_mk Try.underlying3 (wf_dep h0 h1)) unitElem_mk
 exact⟨w',hrun,⟨_,hown⟩,ht⟩
theorem In15.drop (h:In15 w b n){d:Int}(h0:0≤d)(h1:d≤4611686018427387903)(ty:TypeId):
  ∃ w',(Builtin.delete_ #[55,3] ty #[.map (some b),.int .i64 d]).run Try.prog w = .ok (.tuple #[]) w'∧In15 w' b n∧w.mapTurned w' b:=by
 obtain⟨D,h2⟩:=h;obtain⟨w',hrun,hown,ht⟩:=h2.drop int_keyed3 Try.underlying55 (Maps.keyOf_int_mk Try.underlying3 (wf_dep h0 h1)) ty
 exact⟨w',hrun,⟨_,hown⟩,ht⟩
theorem In15.len (h:In15 w b n)(ty:TypeId):∃ c:Nat,(Builtin.len_ #[55] ty #[.map (some b)]).run Try.prog w = .ok (.int .i64 (c:Nat)) w:=by
 obtain⟨D,h1⟩:=h;exact⟨_,h1.len Try.underlying55 ty⟩
end
def Gv (F:Nat→Prop)(vb bb n:Nat)(P:List (List UInt8))(w:World)(l:Lit)(v:Value):Prop:=(∃ p∈P,l = .string p)∧∃ ib,v = .map (some ib)∧F ib∧ib≠vb∧ib≠bb∧In15 w ib n
def Bp (w:World)(bb n:Nat)(P:List (List UInt8))(F:Nat→Prop)(vb:Nat):Prop:=∃ G,Mp w 30 bb n G∧∀ l v,G l = some v→Gv F vb bb n P w l v
structure Dfr (F:Nat→Prop) (w w':World):Prop where
 os:w'.os = w.os
 tape:w'.tape = w.tape
 output:w'.output = w.output
 size:w.heap.size≤w'.heap.size
 block:∀ k,k < w.heap.size→¬ F k→w'.heap[k]? = w.heap[k]?
theorem Dfr.refl (F:Nat→Prop)(w:World):Dfr F w w:=⟨rfl,rfl,rfl,Nat.le_refl _,fun _ _ _=>rfl⟩
theorem Dfr.trans {F F':Nat→Prop}{w w1 w2:World}(h:Dfr F w w1)(k:Dfr F' w1 w2)(hF:∀ i,F' i→F i∨w.heap.size≤i):Dfr F w w2:=
 ⟨k.os.trans h.os,k.tape.trans h.tape,k.output.trans h.output,Nat.le_trans h.size k.size,fun i hi hn=>(k.block i (Nat.lt_of_lt_of_le hi h.size) (fun hf=>by
  rcases hF i hf with h1 | h1
  ·exact hn h1
  ·omega)).trans (h.block i hi hn)⟩
theorem Dfr.of_kept {F:Nat→Prop}{w w':World}(h:Kept w.heap.size w.heap.size w w'):Dfr F w w':=⟨h.os,h.tape,h.output,h.size,fun i hi _=>h.block i hi (Nat.ne_of_lt hi)⟩
theorem Dfr.andKept {F:Nat→Prop}{w w1 w2:World}(h:Dfr F w w1)(k:Kept w1.heap.size w1.heap.size w1 w2):Dfr F w w2:=h.trans (Dfr.of_kept (F:=F) k) (fun _ h=>.inl h)
theorem Dfr.turned {F:Nat→Prop}{w w1 w2:World}{b:Nat}(h:Dfr F w w1)(ht:w1.mapTurned w2 b)(hb:F b∨w.heap.size≤b):Dfr F w w2:=by
 have hg:=ht.grown;refine⟨hg.os.trans h.os,hg.tape.trans h.tape,hg.output.trans h.output,Nat.le_trans h.size hg.size,fun i hi hn=>(hg.block i (Nat.lt_of_lt_of_le hi h.size) (fun e=>?_)).trans (h.block i hi hn)⟩
 injection e with e
 subst e
 rcases hb with h1 | h1
 ·exact hn h1
 ·omega
def scells (keep:Int)(vb:Nat)(hd:List UInt8)(bb:Nat):List Value:=.int .i64 keep :: .map (some vb) :: (bcells hd ++ [.map (some bb)])
structure Ds (w:World) (sb:Nat) (F:Nat→Prop) (keep:Int) (n:Nat) (L:List Vx) (h:Option Vx) (P:List (List UInt8)) (vb bb:Nat) (hd:List UInt8):Prop where
 blk:w.heap[sb]? = some (.cells (scells keep vb hd bb).toArray 49 (0,0))
 hd32:hd.length = 32
 vp:Vp w vb n L
 bp:Bp w bb n P F vb
 fs:F sb
 fv:F vb
 fb:F bb
 ne:vb≠bb
 lt:∀ k,F k→k < w.heap.size
 top:∀ v,h = some v→hd = v.id
 st:Dg.St0 L h
 kp:1≤keep∧keep≤64
 nn:n≤100000
def Dst (w:World)(sb:Nat)(F:Nat→Prop)(keep:Int)(n:Nat)(L:List Vx)(h:Option Vx)(P:List (List UInt8)):Prop:=∃ vb bb hd,Ds w sb F keep n L h P vb bb hd
section
variable {w w':World} {sb vb bb n:Nat} {F:Nat→Prop} {keep:Int} {L:List Vx} {h:Option Vx} {P:List (List UInt8)} {hd:List UInt8}
theorem Bp.same (hb:Bp w bb n P F vb)(h0:w'.heap[bb]? = w.heap[bb]?)(hs:∀ k,F k→w'.heap[k]? = w.heap[k]?):Bp w' bb n P F vb:=by
 obtain⟨G,h1,h2⟩:=hb;refine⟨G,h1.same h0,fun l v hl=>?_⟩
 obtain⟨hp,ib,e,f1,n1,n2,hi⟩:=h2 l v hl;exact⟨hp,ib,e,f1,n1,n2,hi.same (hs ib f1)⟩
theorem Ds.same (d:Ds w sb F keep n L h P vb bb hd)(hz:w.heap.size≤w'.heap.size)(hs:∀ k,F k→w'.heap[k]? = w.heap[k]?):Ds w' sb F keep n L h P vb bb hd:=
 ⟨(hs sb d.fs).trans d.blk,d.hd32,d.vp.same (hs vb d.fv),d.bp.same (hs bb d.fb) hs,d.fs,d.fv,d.fb,d.ne,fun k hk=>Nat.lt_of_lt_of_le (d.lt k hk) hz,d.top,d.st,d.kp,d.nn⟩
theorem Ds.kept (d:Ds w sb F keep n L h P vb bb hd)(k:Kept w.heap.size w.heap.size w w'):Ds w' sb F keep n L h P vb bb hd:=d.same k.size (fun i hi=>k.block i (d.lt i hi) (Nat.ne_of_lt (d.lt i hi)))
theorem Ds.far (d:Ds w sb F keep n L h P vb bb hd){F2:Nat→Prop}(k:Dfr F2 w w')(hn:∀ i,F i→¬ F2 i):Ds w' sb F keep n L h P vb bb hd:=d.same k.size (fun i hi=>k.block i (d.lt i hi) (hn i hi))
theorem Dst.kept (d:Dst w sb F keep n L h P)(k:Kept w.heap.size w.heap.size w w'):Dst w' sb F keep n L h P:=by
 obtain⟨vb,bb,hd,d⟩:=d;exact⟨vb,bb,hd,d.kept k⟩
theorem Dst.far (d:Dst w sb F keep n L h P){F2:Nat→Prop}(k:Dfr F2 w w')(hn:∀ i,F i→¬ F2 i):Dst w' sb F keep n L h P:=by
 obtain⟨vb,bb,hd,d⟩:=d;exact⟨vb,bb,hd,d.far k hn⟩
theorem Ds.at_keep (d:Ds w sb F keep n L h P vb bb hd):w.cell? ⟨sb,0,none⟩ = some (.int .i64 keep):=cells_get d.blk rfl
theorem Ds.at_vert (d:Ds w sb F keep n L h P vb bb hd):w.cell? ⟨sb,1,none⟩ = some (.map (some vb)):=cells_get d.blk rfl
theorem Ds.at_behind (d:Ds w sb F keep n L h P vb bb hd):w.cell? ⟨sb,34,none⟩ = some (.map (some bb)):=cells_get d.blk (by
 simp only [scells,List.getElem?_cons_succ];rw [List.getElem?_append_right (by rw [bcells_length,d.hd32]; exact Nat.le_refl _),bcells_length,d.hd32]
 rfl)
theorem Ds.nil_keep (d:Ds w sb F keep n L h P vb bb hd):look L hd = h:=by
 cases h with
 | none=>
  have:L = []:=d.st.top;rw [this]; rfl
 | some v=>rw [d.top v rfl]; exact look_of d.st.nodup d.st.top.1
end
end Go.Proofs.Ytfbfdaeagpdaiaa
