/-
 BookSmall; BookAll; BookMem; BookMem2; BookGrow; BookAdd; BookHasF; BookDig; BookNoteF; BookNew; BookAwakeMath; BookLaid; BookAwakeRow; PrimTwo: several texts in one.
-/
import Derived.Test.YtnlbgggnpoeleaaGreatDoorGD
import Derived.Deep.LoopGhost
import Derived.Laws.ResultCell
import Derived.Laws.Rows
import Derived.Test.YtnlbgggnpoeleaaGreatDoorGL
set_option maxRecDepth 100000
set_option maxHeartbeats 3200000
namespace Go.Proofs.YtnlbgggnpoeleaaGreatDoor
open Go.RowKit Go.Lib
open List renaming setIfInBounds_toArray -> sA, set_cons_zero -> sB, set_cons_succ -> sC
open BigFrame renaming wpList_want -> wQ
def Met (w:World)(mb n:Nat)(met:Nat->Nat):Prop:=
 ∃f,Mp w 3 mb n f/\∀i:Nat,f (.int .i64 (i:Int))=some (.int .i64 (met i:Int))\/(f (.int .i64 (i:Int))=none/\met i=0)
theorem Met.same {w w':World}{mb n:Nat}{met:Nat->Nat}(h:Met w mb n met)(hb:w'.heap[mb]?=w.heap[mb]?):Met w' mb n met:=by
 obtain⟨f,h1,h2⟩:=h;exact⟨f,h1.same hb,h2⟩
theorem Met.lt {w:World}{mb n:Nat}{met:Nat->Nat}(h:Met w mb n met):mb<w.heap.size:=by
 obtain⟨f,h1,_⟩:=h;exact h1.lt
theorem Met.map {w:World}{mb n:Nat}{met:Nat->Nat}(h:Met w mb n met):∃es c,w.heap[mb]?=some (.map es c):=by
 obtain⟨f,h1,_⟩:=h;exact h1.map
theorem OwnI.looks {w:World}{base:Nat}{v:Value}{l:List Nat}(h:OwnI w base v l):∃ad g o c,v=.slice ad l.length c/\∀i (hi:i<l.length),ad=some ⟨g,o,none⟩/\g<w.heap.size/\w.cell? ⟨g,o+i,none⟩=some (.int .i64 (l[i]:Nat)):=by
 have hlt:=h.lt;have h0:=h
 rcases h.2 with⟨rfl,hn⟩|⟨g,cap,cur,rfl,_⟩
 ·exact⟨none,0,0,0,by rw[hn],λi hi=>by omega⟩
 ·exact⟨some ⟨g,0,none⟩,g,0,cap,rfl,λi hi=>⟨rfl,(hlt g rfl).2,h0.cell i hi⟩⟩
structure Looks (w:World) (bb:Nat) (fs:List (List (List UInt8) × List (List UInt8))) (S:BokS) (fad:Option Addr) (fg fo fc B:Nat):Prop where
 c0:w.cell? ⟨bb,0,none⟩=some (.slice fad fs.length fc)
 c2:w.cell? ⟨bb,2,none⟩=some (.map (some S.nm))
 c3:w.cell? ⟨bb,3,none⟩=some S.frv
 lies:∀i (hi:i<fs.length),fad=some ⟨fg,fo,none⟩/\∃a b,w.cell? ⟨fg,fo+i*2,none⟩=some a/\w.cell? ⟨fg,fo+i*2+1,none⟩=some b/\Hs w a fs[i].1/\Hs w b fs[i].2/\∀ad n c,b=.slice (some ad) n c->fs[i].2≠[]->ad.block<B
theorem Bok.looks {w:World}{base bb b:Nat}{fs:List (List (List UInt8) × List (List UInt8))}{nmf:Lit->Option Value}{S:BokS}(h:Bok w base bb fs b nmf S):∃fad fg fo fc,S.fv=.slice fad fs.length fc/\Looks w bb fs S fad fg fo fc w.heap.size:=by
 obtain⟨ad,g,c,hv,hat⟩:=h.facts.at;refine⟨ad,g,0,c,hv,?_,Qag (j:=2) h.cells rfl,Qag (j:=3) h.cells rfl,λi hi=>?_⟩
 ·rw[<-hv]
  exact Qag (j:=0) h.cells rfl
 ·obtain⟨h1,h2,h3,a,b',h4,h5,h6,h7⟩:=hat i hi
  exact⟨h1,a,b',h4,h5,h6.hs,h7.hs,λad n c e _=>by subst e;exact(h7.low _ rfl).2⟩
theorem Looks.kept {w w':World}{bb:Nat}{fs:List (List (List UInt8) × List (List UInt8))}{S:BokS}{fad:Option Addr}{fg fo fc B:Nat}(h:Looks w bb fs S fad fg fo fc B)(k:Kept w.heap.size w.heap.size w w'):Looks w' bb fs S fad fg fo fc B:=by
 have hc:∀{a:Addr} {v:Value},w.cell? a=some v->w'.cell? a=some v:=fun {a v} hh=>(k.cell (World.block_lt_of_cell? w a hh) (zD (World.block_lt_of_cell? w a hh))).trans hh
 refine⟨hc h.c0,hc h.c2,hc h.c3,λi hi=>?_⟩
 obtain⟨h1,a,b',h4,h5,h6,h7,h8⟩:=h.lies i hi;exact⟨h1,a,b',hc h4,hc h5,h6.kept k,h7.kept k,h8⟩
structure BkFr (base:Nat) (w w':World):Prop where
 kept:Kept base base w w'
 oth:∀(k:Nat) (cs:Array Value) (t:TypeId) (fr:Nat × Nat),w.heap[k]?=some (.cells cs t fr)->t≠156->t≠3->t≠189->w'.heap[k]?=some (.cells cs t fr)
theorem BkFr.refl (base:Nat)(w:World):BkFr base w w:=⟨Kept.refl _ _ _,λ_ _ _ _ h _ _ _=>h⟩
theorem BkFr.trans {base:Nat}{w1 w2 w3:World}(h:BkFr base w1 w2)(k:BkFr base w2 w3):BkFr base w1 w3:=⟨h.kept.trans k.kept,λi cs t fr hh h1 h2 h3=>k.oth i cs t fr (h.oth i cs t fr hh h1 h2 h3) h1 h2 h3⟩
theorem BkFr.grown {base:Nat}{w w2:World}{row:Option Nat}(hg:w.grownBy w2 row)(hB:base<=w.heap.size)(hr:∀k,row=some k->base<=k)(ht:∀k,row=some k->∀cs t fr,w.heap[k]?=some (.cells cs t fr)->t=156\/t=3\/t=189):BkFr base w w2:=
 ⟨zI.grown hg hB hr,λi cs t fr hh h1 h2 h3=>by
  rw[hg.block i (zF hh) (λe=>?_)]
  ·exact hh
  ·rcases ht i e.symm cs t fr hh with h|h|h
   ·exact h1 h
   ·exact h2 h
   ·exact h3 h⟩
noncomputable def push (L:Ow->List Nat) (o:Ow) (x:Nat):Ow->List Nat:=λo'=>@ite _ (o'=o) (Classical.propDecidable _) (L o'++[x]) (L o')
theorem Qe6 (L:Ow->List Nat)(o:Ow)(x:Nat):push L o x o=L o++[x]:=by unfold push;rw[zG rfl]
theorem Qbp (L:Ow->List Nat){o o':Ow}(x:Nat)(h:o'≠o):push L o x o'=L o':=by unfold push;rw[if_neg h]
structure Bom (w:World) (base bb:Nat) (fs:List (List (List UInt8) × List (List UInt8))) (b:Nat) (nmf:Lit->Option Value) (S:BokS):Prop where
 cells:w.heap[bb]?=some (.cells #[S.fv,.map (some S.am),.map (some S.nm),S.frv,.map (some S.mm)] 156 (0,0))
 lowb:base<=bb
 lowa:base<=S.am
 lown:base<=S.nm
 lowm:base<=S.mm
 an:S.am≠S.nm
 amm:S.am≠S.mm
 nmm:S.nm≠S.mm
 facts:OwnB w base S.X S.fv fs
 alike:Mp w 23 S.am b S.fa
 need:Mp w 23 S.nm b S.fn
 names:Mp w 9 S.mm b nmf
 row:∀o,OwnI w base (S.val o) (S.L o)
 sep:∀o o',o≠o'->∀k,(S.val o).ownBlock=some k->(S.val o').ownBlock≠some k
 few:∀o,(S.L o).length<=b
section
variable {w:World} {base bb b:Nat} {fs:List (List (List UInt8) × List (List UInt8))} {nmf:Lit->Option Value} {S:BokS}
theorem Bok.mem (h:Bok w base bb fs b nmf S):Bom w base bb fs b nmf S:=⟨h.cells,h.lowb,h.lowa,h.lown,h.lowm,h.an,h.amm,h.nmm,h.facts,h.alike,h.need,h.names,h.row,h.sep,h.few⟩
theorem Bom.mono (h:Bom w base bb fs b nmf S){b':Nat}(hb:b<=b'):Bom w base bb fs b' nmf S:=⟨h.cells,h.lowb,h.lowa,h.lown,h.lowm,h.an,h.amm,h.nmm,h.facts,h.alike.mono hb,h.need.mono hb,h.names.mono hb,h.row,h.sep,λo=>Nat.le_trans (h.few o) hb⟩
theorem Bom.kept (h:Bom w base bb fs b nmf S){w':World}(k:Kept w.heap.size w.heap.size w w'):Bom w' base bb fs b nmf S:=by
 have hk:∀i,i<w.heap.size->w'.heap[i]?=w.heap[i]?:=λi hi=>k.block i hi (zD hi)
 refine⟨(hk bb (zF h.cells)).trans h.cells,h.lowb,h.lowa,h.lown,h.lowm,h.an,h.amm,h.nmm,?_,h.alike.same (hk _ h.alike.lt),h.need.same (hk _ h.need.lt),h.names.same (hk _ h.names.lt),λo=>(h.row o).stay λi hi=>?_,h.sep,h.few⟩
 ·refine h.facts.stay (λi hi=>?_) (λi cs fr hh=>?_)
  ·obtain⟨ps,_,ho,_⟩:=h.facts
   exact hk i (ho.lt i hi).2
  ·exact(hk i (zF hh)).trans hh
 ·exact hk i ((h.row o).lt i hi).2
end
section
variable {w:World} {base bb b:Nat} {fs:List (List (List UInt8) × List (List UInt8))} {nmf:Lit->Option Value} {S:BokS}
structure EntFr (base m:Nat) (w w':World):Prop where
 kept:Kept base base w w'
 oth:∀(k:Nat) (o:Obj),w.heap[k]?=some o->(∀cs fr,o≠.cells cs 3 fr)->k≠m->w'.heap[k]?=some o
theorem EntFr.bk {base m:Nat}{w w':World}(h:EntFr base m w w')(hm:∃es c,w.heap[m]?=some (.map es c)):BkFr base w w':=⟨h.kept,λk cs t fr hh _ h2 _=>h.oth k _ hh (λcs' fr' e=>by cases e;exact h2 rfl) (λe=>by
 subst e;obtain⟨es,c,h3⟩:=hm;rw[hh] at h3
 cases h3)⟩
end
noncomputable def pushAll (L:Ow->List Nat) (hs:List (List UInt8)) (x:Nat):Ow->List Nat:=hs.foldl (λL h=>push L (.ne h) x) L
theorem Qrv (L:Ow->List Nat)(h l:List UInt8)(x:Nat):push L (.ne h) x (.al l)=L (.al l):=Qbp _ _ (λe=>by cases e)
theorem Qru (L:Ow->List Nat)(h:List UInt8)(x:Nat):push L (.ne h) x .fr=L .fr:=Qbp _ _ (λe=>by cases e)
theorem Qkw (x:Nat)(l:List UInt8):∀(hs:List (List UInt8)) (L:Ow->List Nat),pushAll L hs x (.al l)=L (.al l)
 | [],_=>rfl
 | h::hs,L=>(Qkw x l hs (push L (.ne h) x)).trans (Qrv L h l x)
theorem Qkv (x:Nat):∀(hs:List (List UInt8)) (L:Ow->List Nat),pushAll L hs x .fr=L .fr
 | [],_=>rfl
 | h::hs,L=>(Qkv x hs (push L (.ne h) x)).trans (Qru L h x)
theorem Qku (x:Nat)(l:List UInt8)(i:Nat):∀(hs:List (List UInt8)) (L:Ow->List Nat),(pushAll L hs x (.ne l)).count i=(L (.ne l)).count i+if i=x then hs.count l else 0
 | [],L=>by simp[pushAll]
 | h::hs,L=>by
  have:=Qku x l i hs (push L (.ne h) x);show(pushAll (push L (.ne h) x) hs x (.ne l)).count i=_;rw[this]
  by_cases he:l=h
  ·subst he
   rw[Qe6,List.count_append,List.count_singleton,List.count_cons_self]
   by_cases hi:i=x
   ·subst hi
    simp
    omega
   ·have:(x == i)=false:=by simpa using λe=>hi (by rw[e])
    simp[hi,this]
  ·rw[Qbp _ _ (λe=>he (by cases e;rfl)),List.count_cons_of_ne (λe=>he e.symm)]
noncomputable def grownL (L:Ow->List Nat) (f:List (List UInt8) × List (List UInt8)) (n:Nat):Ow->List Nat:=
 if f.1.length=0 then push (push L (.al (dig f)) n) .fr n else push L (.al (dig f)) n
theorem Bok.more {w w':World}{base bb b b':Nat}{fs:List (List (List UInt8) × List (List UInt8))}{nmf nmf':Lit->Option Value}{S S':BokS}{f:List (List UInt8) × List (List UInt8)}(h:Bok w base bb fs b nmf S)(hm:Bom w' base bb (fs++[f]) b' nmf' S')(hL:S'.L=pushAll (grownL S.L f fs.length) f.1 fs.length):Bok w' base bb (fs++[f]) b' nmf' S':=by
 have lal:∀l,S'.L (.al l)=push S.L (.al (dig f)) fs.length (.al l):=λl=>by
  rw[hL,Qkw];unfold grownL
  split
  ·exact Qbp _ _ (λe=>by cases e)
  ·rfl
 have lfr:S'.L .fr=if f.1.length=0 then S.L .fr++[fs.length] else S.L .fr:=by
  rw[hL,Qkv];unfold grownL
  split
  ·rw[Qe6,Qbp _ _ (λe=>by cases e)]
  ·exact Qbp _ _ (λe=>by cases e)
 have lne:∀l,grownL S.L f fs.length (.ne l)=S.L (.ne l):=λl=>by
  unfold grownL
  split
  ·rw[Qbp _ _ (λe=>by cases e),Qbp _ _ (λe=>by cases e)]
  ·exact Qbp _ _ (λe=>by cases e)
 refine⟨hm.cells,hm.lowb,hm.lowa,hm.lown,hm.lowm,hm.an,hm.amm,hm.nmm,hm.facts,hm.alike,hm.need,hm.names,hm.row,hm.sep,λi=>?_,λl i=>?_,λl i hi=>?_,λi hi=>?_,hm.few⟩
 ·rw[lfr]
  rcases Nat.lt_trichotomy i fs.length with h1|h1|h1
  ·rw[List.getElem?_append_left h1,<-h.free i]
   split
   ·rw[List.mem_append,List.mem_singleton]
    exact⟨λh2=>h2.elim id (λe=>by omega),.inl⟩
   ·exact Iff.rfl
  ·subst h1
   rw[List.getElem?_append_right (zB _),Nat.sub_self]
   have hno:fs.length∉S.L .fr:=λhx=>by
    obtain⟨g,hg,_⟩:=(h.free _).1 hx;rw[List.getElem?_eq_none (zB _)] at hg
    cases hg
   split
   ·rename_i h0
    exact⟨λ_=>⟨f,rfl,List.length_eq_zero_iff.1 h0⟩,λ_=>by simp⟩
   ·rename_i h0
    refine⟨λhx=>absurd hx hno,?_⟩
    rintro⟨g,hg,h2⟩
    cases hg
    rw[h2] at h0;exact absurd rfl h0
  ·have hnone:(fs++[f])[i]?=none:=List.getElem?_eq_none (by simp;omega)
   rw[hnone]
   have hno:i∉S.L .fr:=λhx=>by
    obtain⟨g,hg,_⟩:=(h.free _).1 hx;rw[List.getElem?_eq_none (by omega)] at hg
    cases hg
   refine⟨λhx=>?_,λ⟨g,hg,_⟩=>by cases hg⟩
   split at hx
   ·rw[List.mem_append,List.mem_singleton] at hx
    rcases hx with h2|h2
    ·exact absurd h2 hno
    ·omega
   ·exact absurd hx hno
 ·rw[hL,Qku,lne,h.needed]
  unfold needs
  rcases Nat.lt_trichotomy i fs.length with h1|h1|h1
  ·rw[List.getElem?_append_left h1,if_neg (by omega)]
   rfl
  ·subst h1
   rw[List.getElem?_append_right (zB _),Nat.sub_self,zG rfl,List.getElem?_eq_none (zB _)];simp
  ·rw[List.getElem?_eq_none (by omega),List.getElem?_eq_none (by simp;omega),if_neg (by omega)]
 ·rw[lal] at hi
  rw[zE,List.length_singleton]
  by_cases he:Ow.al l=Ow.al (dig f)
  ·rw[he,Qe6,List.mem_append,List.mem_singleton] at hi
   rcases hi with h2|h2
   ·exact Nat.lt_succ_of_lt (h.same _ i h2)
   ·omega
  ·rw[Qbp _ _ he] at hi
   exact Nat.lt_succ_of_lt (h.same _ i hi)
 ·rw[lal]
  rw[zE,List.length_singleton] at hi
  rcases Nat.lt_or_ge i fs.length with h1|h1
  ·rw[List.getElem_append_left h1]
   by_cases he:Ow.al (dig fs[i])=Ow.al (dig f)
   ·rw[he,Qe6,<-Ow.al.inj he]
    exact List.mem_append_left _ (h.found i h1)
   ·rw[Qbp _ _ he]
    exact h.found i h1
  ·obtain rfl:i=fs.length:=by omega
   have e2:(fs++[f])[fs.length]=f:=by rw[List.getElem_append_right (zB _)];simp
   rw[e2,Qe6];simp
def OwnT (w:World)(base:Nat)(v:Value)(xs:List ByteArray):Prop:=w.ownsRow base 9 1 v xs.length (xs.map .string)
theorem OwnT.low {w:World}{base:Nat}{v:Value}{xs:List ByteArray}(h:OwnT w base v xs):∀k,v.ownBlock=some k->base<=k/\k<w.heap.size:=World.ownsRow.lt h
theorem OwnT.parts {w:World}{base:Nat}{v:Value}{xs:List ByteArray}(h:OwnT w base v xs):∃ad g c,v=.slice ad xs.length c/\∀j (hj:j<xs.length),ad=some ⟨g,0,none⟩/\g<w.heap.size/\w.cell? ⟨g,0+j,none⟩=some (.string xs[j]):=by
 have hlt:=World.ownsRow.lt h;have h0:w.ownsRow base 9 1 v xs.length (xs.map .string):=h
 rcases h.2 with⟨rfl,hn⟩|⟨g,cap,cur,rfl,hb,_⟩
 ·exact⟨none,0,0,by rw[hn],λj hj=>by omega⟩
 ·refine⟨some ⟨g,0,none⟩,g,cap,rfl,λj hj=>⟨rfl,(hlt g rfl).2,?_⟩⟩
  have:=h0.cells (g:=g) rfl j (.string xs[j]) (by rw[List.getElem?_map,List.getElem?_eq_getElem hj];rfl)
  rwa[Addr.add_lit] at this
theorem OwnT.alloc {w:World}{base:Nat}{v:Value}{xs:List ByteArray}(h:OwnT w base v xs)(o:Obj):OwnT (w.alloc o) base v xs:=World.ownsRow.alloc h o
def bokNew (b:Nat):BokS:=⟨.slice none 0 0,.slice none 0 0,b,b+1,b+2,λ_=>none,λ_=>none,λ_=>[],λ_=>False⟩
theorem Qqs (f:List (List UInt8) × List (List UInt8))(a b:Value)(w:World)(ha:Hs w a f.1)(hb:Hs w b f.2):
  Calls Tryz.prog 112 #[.pointer none,.agg #[a,b]] w λe w'=>e=.returned (.int .i64 (if f.2.length=0 then 1 else 0))/\Kept w.heap.size w.heap.size w w':=by
 obtain⟨zp1,aad,ag,ao,ac,rfl,zp2⟩:=ha;clear zp1 zp2;obtain⟨zp1,bad,bg,bo,bc,rfl,zp2⟩:=hb;clear zp1 zp2;generalize f.1.length=la;generalize f.2.length=lb;have hX:(w.alloc (.cells #[.slice aad la ac,.slice bad lb bc] 189)).heap[w.heap.size]?=some (.cells #[.slice aad la ac,.slice bad lb bc] 189 (0,0)):=Qaa _ _
 have k1:Kept w.heap.size w.heap.size w (w.alloc (.cells #[.slice aad la ac,.slice bad lb bc] 189)):=zI.alloc (zB _) _
 have x1:=Qab hX;have HK1:=hid k1;clear hX k1
 go_enter Tryz.func112,Tryz.ntmps112
 cases lb with
 | zero=>
  go_wp2_with fail
  go_ret;exact⟨rfl,HK1.out⟩
 | succ m=>
  have hd0:(((m+1:Nat):Int) == 0)=false:=by rw[beq_eq_false_iff_ne];omega
  go_wp2_with fail
  go_ret;exact⟨rfl,HK1.out⟩
def dg (i:UInt8):List UInt8:=i::List.replicate 31 0
def exf1:List (List UInt8) × List (List UInt8):=([dg 1],[dg 2])
def exf2:List (List UInt8) × List (List UInt8):=([dg 2,dg 3],[dg 4])
theorem Qfa {fn:Func}{p u:Tmp}(h:fn.results = #[.cell p 23,.tmp u]){R:Ending->World->Prop}{a:Act}{w:World}(g:Nat)(cs:Array Value)(hp:a.tmps.getD p undef=.pointer (some ⟨g,0,none⟩))(hg:w.heap[g]?=some (.cells cs 23 (0,0)))(hs:cs.size=32)(hd:a.defers=[])(hR:R (.returned (.tuple #[.agg cs,a.tmps.getD u undef])) w):bodyPost Tryz.prog fn R .ret a w:=by
 have hia:(Tryz.prog.info? 23).map (·.size)=some cs.size:=by rw[hs];kernel_rfl
 refine bodyPost_ret ?_ hd hR;rw[results_cell_tmp h,hp];simp only[asAddr,Sem.run_pure,Result.andThen_ok];rw[run_loadVar_row w g 23 23 cs (0,0) _ hg Tryz.underlying23 rfl hia]
 rfl
theorem Qlc (w:World):(Instr.build 23 #[]).run Tryz.prog w=.ok (.agg zY) w:=by
 rw[<-Qao];kernel_rfl
section
variable {P:Program} {ops:Array Oper} {rest:List Oper} {o:Oper} {a:Act} {w w':World} {Q:Exit->Act->World->Prop}
theorem Qa8 (hgd:o.guard=none)(t:TypeId)(ho:o.op=.alloc t){u:Value}(hr:(Instr.alloc t true (.tuple #[])).run P w=.ok u w')(hk:wpList P ops Q rest (a.put o.dst u) w'):wpList P ops Q (o::rest) a w:=by
 refine wpList_plain hgd λK hK=>?_
 unfold Oper.wp execOp;simp only[ho,Sem.run_bind,hr,Result.andThen_ok,Sem.run_pure];exact hK _ _ hk
end
theorem Qhl (w:World):(Instr.alloc 23 true (.tuple #[])).run Tryz.prog w=.ok (.pointer (some ⟨w.heap.size,0,none⟩)) (w.alloc (.cells zY 23)):=by
 rw[<-Qao];kernel_rfl
theorem Qqu {w:World}{g c:Nat}{l:List UInt8}(hl:l.length=32)(h:w.heap[g]?=some (.cells (bY l).toArray 23 (0,0))):Hs w (.slice (some ⟨g,0,none⟩) 1 c) [l]:=⟨λx hx=>by rw[List.mem_singleton.1 hx];exact hl,some ⟨g,0,none⟩,g,0,c,rfl,λi hi=>by
 obtain rfl:i=0:=by simp at hi;omega
 exact⟨rfl,zF h,λj v hv=>by rw[Nat.zero_mul,Nat.zero_add];exact Qag h hv⟩⟩
theorem Qxz {w:World}{g c:Nat}{l m:List UInt8}(hl:l.length=32)(hm:m.length=32)(h:w.heap[g]?=some (.cells (bY l++bY m).toArray 23 (0,0))):Hs w (.slice (some ⟨g,0,none⟩) 2 c) [l,m]:=by
 refine⟨λx hx=>?_,some ⟨g,0,none⟩,g,0,c,rfl,λi hi=>?_⟩
 ·rcases List.mem_cons.1 hx with rfl|hx
  ·exact hl
  ·rw[List.mem_singleton.1 hx]
   exact hm
 ·have hi2:i=0\/i=1:=by simp at hi;omega
  rcases hi2 with rfl|rfl
  ·refine⟨rfl,zF h,λj v hv=>?_⟩
   rw[Nat.zero_mul,Nat.zero_add];refine Qag h ?_;have hv2:(bY l)[j]?=some v:=hv;rw[List.getElem?_append_left (List.getElem?_eq_some_iff.1 hv2).1];exact hv2
  ·refine⟨rfl,zF h,λj v hv=>?_⟩
   rw[Nat.one_mul,Nat.zero_add];refine Qag h ?_;have hbl:(bY l).length=32:=by rw[bZ,hl]
   rw[List.getElem?_append_right (by omega),hbl,Nat.add_sub_cancel_left]
   exact hv
theorem keyInfo {l:List UInt8}(h:l.length=32):(Tryz.prog.info? 23).map (·.size)=some (bY l).toArray.size:=by rw[Qbi,List.size_toArray,bZ,h]
theorem keySize {l:List UInt8}(h:l.length=32):zY.size=(bY l).toArray.size:=by rw[Qah,List.size_toArray,bZ,h]
theorem Qt7 (f:List (List UInt8) × List (List UInt8))(a b:Value)(w:World)(ha:Hs w a f.1)(hb:Hs w b f.2):Calls Tryz.prog 80 #[.pointer none,a,b] w λe w'=>e=.returned (.tuple #[])/\Kept w.heap.size w.heap.size w w':=by
 have hn:=Qqs f a b w ha hb;generalize (if f.2.length=0 then(1:Int) else 0)=E at hn
 obtain⟨zp1,aad,ag,ao,ac,rfl,zp2⟩:=id ha;clear zp1 zp2;obtain⟨zp1,bad,bg,bo,bc,rfl,zp2⟩:=id hb;clear zp1 zp2;have HN:=hid hn;clear hn ha hb
 go_enter Tryz.func80,Tryz.ntmps80
 go_wp2_with (go_at_call 112;refine HN.out.mono ?_;rintro e w2 ⟨rfl,k2⟩)
 go_end0
 exact⟨rfl,k2⟩
theorem Qi4 (k:List UInt8)(hk:Hid (k.length=32))(label context:ByteArray)(h1:Hid (label.size<268435456))(h2:Hid (context.size<268435456))(w:World):Calls Tryz.prog 70 #[.pointer none,.agg (bY k).toArray,.string label,.string context] w λe w'=>e=.returned (.agg (bY (Mc.derive k label.data.toList context.data.toList)).toArray)/\Kept w.heap.size w.heap.size w w':=by
 have hku:=keyInfo hk.out;have hk1:(bY k).toArray.size=32:=by rw[List.size_toArray,bZ,hk.out]
 generalize hkc:(bY k).toArray=kc at hku hk1;have Hkc:=hid hkc;have HKI:=hid hku;have HK32:=hid hk1;clear hkc hku hk1;obtain⟨i0,z0,hi0,hz0,hzs0,hs0,hb0⟩:=Qgr;have HI0:=hid hi0;have HZ0:=hid hz0;have HS0:=hid hs0;clear hi0 hz0 hzs0 hs0 hb0
 go_enter Tryz.func70,Tryz.ntmps70
 go_upto_region 1 with fail
 rw[Qao];have hP:((w.alloc (.cells kc 23)).alloc (.cells zY 23)).heap[w.heap.size]?=some (.cells kc 23 (0,0)):=heap_alloc2_old w _ _
 have hR:((w.alloc (.cells kc 23)).alloc (.cells zY 23)).heap[w.heap.size+1]?=some (.cells zY 23 (0,0)):=Qaq w _ _
 have k1:Kept w.heap.size w.heap.size w ((w.alloc (.cells kc 23)).alloc (.cells zY 23)):=(zI.alloc (zB _) _).alloc (by simp) _
 have s1:((w.alloc (.cells kc 23)).alloc (.cells zY 23)).heap.size=w.heap.size+2:=by simp
 generalize (w.alloc (.cells kc 23)).alloc (.cells zY 23)=w1 at hP hR k1 s1 |-
 obtain⟨wa,hwa⟩:∃wa,wa=w.heap.size:=⟨_,rfl⟩;rw[<-hwa] at hP hR k1 s1 |-;have hrow:∀w',Kept w1.heap.size w1.heap.size w1 w'->w'.heap[wa+1]?=some (.cells zY 23 (0,0)):=λw' kk=>(kk.block (wa+1) (by omega) (by omega)).trans hR
 have hkey:∀w',Kept w1.heap.size w1.heap.size w1 w'->w'.heap[wa]?=some (.cells kc 23 (0,0)):=λw' kk=>(kk.block wa (by omega) (by omega)).trans hP
 have hdv:Calls Tryz.prog 98 #[.agg kc,.string label,.string context] w1 λe w'=>e=.returned (.agg (bY (Mc.derive k label.data.toList context.data.toList)).toArray)/\Kept w1.heap.size w1.heap.size w1 w':=by
  rw[<-Hkc.out];exact Qdw k hk label context h1 h2 w1
 have hdl:(Mc.derive k label.data.toList context.data.toList).length=32:=Mc.derive_length _ _ _;generalize hM:Mc.derive k label.data.toList context.data.toList=m at hdv hdl;have HM:=hid hM;clear hM;have hiu:=keyInfo (l:=m) (hdl);have hzu:=keySize (l:=m) (hdl);have hcs:(bY (m)).toArray.size=32:=by rw[List.size_toArray,bZ,hdl]
 have hall:=Qae (m);generalize hcu:(bY (m)).toArray=cu at hiu hzu hcs hall hdv;have HIU:=hid hiu;have HZU:=hid hzu;have HALL:=hid hall;have Hcs:=hid hcs;have Hcu:=hid hcu;have HROW:=hid hrow;have HKEY:=hid hkey;have HK1:=hid k1;have HS1:=hid s1;have HWA:=hid hwa;clear hiu hzu hall hcs hcu hrow hkey k1 s1 hwa;have HDV:=hid hdv;clear hdv hP hR
 go_upto_region 1 with fail
 refine zA ?_;refine Qav ?hwa0 23 _ rfl (wa) rfl 23 kc (0,0) _ (HKEY.out _ zI) Tryz.underlying23 rfl HKI.out ?_
 case hwa0=>kernel_rfl
 simp only[Act.put,sA,sB,sC];iterate 2(refine wW λK hK=>?_;go_simp;apply hK;clear hK K)
 refine wW λK hK=>?_;go_simp;go_at_call 98;refine HDV.out.mono ?_;rintro e w3 ⟨rfl,k3⟩
 apply hK;clear hK K;refine Qa8 rfl 23 rfl (Qhl _) ?_
 simp only[Act.put,sA,sB,sC];refine wpList_store_row rfl 23 _ _ rfl (w3.heap.size) cu rfl rfl 23 zY (Qaa _ _) HIU.out HZU.out HALL.out ?_
 simp only[Act.put];have K4:Kept w1.heap.size w1.heap.size w1 (w3.alloc (.cells zY 23)):=k3.alloc k3.size _
 have K5:Kept w1.heap.size w1.heap.size w1 ((w3.alloc (.cells zY 23)).setRow w3.heap.size cu):=Kept.ofBelow (below_setRow (K4.below (zB _) (zB _)) k3.size cu) (zB _)
 have r5:=setRow_heap (w3.alloc (.cells zY 23)) w3.heap.size zY cu _ _ (Qaa _ _)
 generalize (w3.alloc (.cells zY 23)).setRow w3.heap.size cu=w5 at K5 r5 |-
 have hwm:w1.heap.size<=w3.heap.size:=k3.size;generalize w3.heap.size=wm at r5 hwm |-;clear K4;have KA:Kept w5.heap.size w5.heap.size w5 (w5.alloc (.cells kc 23)):=zI.alloc (zB _) _
 have KB:Kept w5.heap.size w5.heap.size w5 ((w5.alloc (.cells kc 23)).alloc (.cells cu 23)):=KA.alloc KA.size _
 have sA:(w5.alloc (.cells kc 23)).heap.size=w5.heap.size+1:=by simp
 have hN:=Qt7 ([k],[m]) (.slice (some ⟨w5.heap.size,0,none⟩) 1 1) (.slice (some ⟨w5.heap.size+1,0,none⟩) 1 1) ((w5.alloc (.cells kc 23)).alloc (.cells cu 23)) (Qqu hk.out (by rw[Hkc.out,Below.heap_alloc _ _ _ (by omega)];exact Qaa _ _)) (Qqu hdl (by rw[Hcu.out,<-sA];exact Qaa _ _))
 have rA:(w5.alloc (.cells kc 23)).heap[wm]?=some (.cells cu 23 (0,0)):=rk r5 KA
 have HN:=hid hN;have RA:=hid rA;have R5:=hid r5;have HKA:=hid KA;have HKB:=hid KB;have rk:=HKEY.out w5 K5;have RK:=hid rk;clear hN rA r5 KA KB sA rk
 go_upto_region 2 with fail
 refine zA ?_;refine wW λK hK=>?_;go_simp;apply hK;clear hK K;refine Qav ?hwb1 23 _ rfl (wa) rfl 23 kc (0,0) _ (RK.out) Tryz.underlying23 rfl HKI.out ?_
 case hwb1=>kernel_rfl
 simp only[Act.put,sA,sB,sC];refine Qbh ?hwb2 _ 147 23 rfl i0 z0 Tryz.underlying147 HI0.out HZ0.out kc rfl (by rw[HS0.out];exact HK32.out) (by rw[HS0.out];decide) (by rw[HS0.out];decide) ?_
 case hwb2=>kernel_rfl
 simp only[Act.put,sA,sB,sC];refine Qav ?hwb3 23 _ rfl (wm) rfl 23 cu (0,0) _ (RA.out) Tryz.underlying23 rfl HIU.out ?_
 case hwb3=>kernel_rfl
 simp only[Act.put,sA,sB,sC];refine Qbh ?hwb4 _ 147 23 rfl i0 z0 Tryz.underlying147 HI0.out HZ0.out cu rfl (by rw[HS0.out];exact Hcs.out) (by rw[HS0.out];decide) (by rw[HS0.out];decide) ?_
 case hwb4=>kernel_rfl
 simp only[Act.put,sA,sB,sC];refine wW λK hK=>?_;go_simp;go_at_call 80;refine HN.out.mono ?_;rintro e w8 ⟨rfl,k8⟩
 apply hK;clear hK K;have J8:Kept w5.heap.size w5.heap.size w5 w8:=HKB.out.trans (k8.mono HKB.out.size (λi hi _=>by have:=HKB.out.size;omega))
 have K8:Kept w1.heap.size w1.heap.size w1 w8:=K5.trans (J8.mono K5.size (λi hi _=>by have:=K5.size;omega))
 have r8:w8.heap[wm]?=some (.cells cu 23 (0,0)):=(J8.block wm (zF R5.out) (zD (zF R5.out))).trans R5.out
 have R8:=hid r8;clear r8 J8 k8
 go_upto_region 3 with fail
 refine zA ?_;refine Qav ?hwc0 23 _ rfl (wm) rfl 23 cu (0,0) _ (R8.out) Tryz.underlying23 rfl HIU.out ?_
 case hwc0=>kernel_rfl
 simp only[Act.put,sA,sB,sC];refine wpList_store_row rfl 23 _ _ rfl (wa+1) cu rfl rfl 23 zY (HROW.out w8 K8) HIU.out HZU.out HALL.out ?_
 simp only[Act.put];have HMM:=HM.out;have t2:=setRow_heap w8 (wa+1) zY cu _ _ (HROW.out w8 K8)
 have t1:Kept w.heap.size w.heap.size w (w8.setRow (wa+1) cu):=by
  have e1:=HWA.out;have e2:=HS1.out;refine Kept.trans (w2:=w8) ?_ ⟨rfl,rfl,rfl,by simp[World.setRow],λk hk _=>setRow_other w8 (wa+1) k cu (by omega)⟩
  rw[<-e1];exact HK1.out.trans (K8.mono (by omega) (λk hk _=>by omega))
 have hiu:=HIU.out
 go_wp2_with fail
 refine bodyPost_ret (results_cell_row rfl _ _ (wa+1) 23 cu (0,0) _ rfl t2 Tryz.underlying23 rfl hiu) rfl ?_
 exact⟨by rw[HMM,Hcu.out],t1⟩
end Go.Proofs.YtnlbgggnpoeleaaGreatDoor
