/-
 IntsOpen; PprRev; PprWay; PprWk; PprNo; PprWalk; PprLook; PprSeeds; PprTook: several texts in one.
-/
import Derived.Test.YtnlbgggnpoeleaaGreatDoorChecked
import Derived.ChangeSlices
import Derived.Test.YtnlbgggnpoeleaaGreatDoorGR
import Derived.Test.YtnlbgggnpoeleaaGreatDoorRevLay
set_option maxRecDepth 100000
set_option maxHeartbeats 6400000
namespace Go.Proofs.YtnlbgggnpoeleaaGreatDoor
open Go.ChangeShapes Go.WideShapes Go.ChangeAt Go.RowKit
def Nums (w:World)(v:Value)(L:List Int):Prop:=∃ad c g o,v=.slice ad L.length c/\∀i (hi:i<L.length),ad=some ⟨g,o,none⟩/\g<w.heap.size/\w.cell? ⟨g,o+i,none⟩=some (.int .i64 L[i])
open Go.RowKit Go.Lib
open List renaming setIfInBounds_toArray -> sA, set_cons_zero -> sB, set_cons_succ -> sC
open BigFrame renaming wpList_want -> wQ
instance:Inhabited Sd:=⟨⟨0,0,[]⟩⟩
theorem Qq0 (L:List Sd)(t:Nat)(ht:t<L.length*34):(L.flatMap cellsF)[t]?=some ((Go.Sort.flatK cellsF 34 L.toArray)[t]!):=by
 have hq:t/34<L.length:=(Nat.div_lt_iff_lt_mul (by decide)).2 ht
 have hm:t%34<34:=Nat.mod_lt _ (by decide)
 rw[Go.Sort.get_flatK _ _ _ _ (by simpa using ht)]
 have h1:=Qiu L (t/34) hq (t%34) hm;rw[show t/34*34+t%34=t by omega] at h1
 have e:L.toArray[t/34]! = L[t/34]:=by
  rw[getElem!_pos L.toArray (t/34) (by simpa using hq)]
  simp
 rw[h1,e,getElem!_pos (cellsF L[t/34]) (t%34) (by rw[Qbk];exact hm)]
 exact List.getElem?_eq_getElem _
theorem Qlq (w:World)(base:Nat)(v:Value)(L:List Sd)(hown:OwnS w base v L):Calls Tryz.prog 110 #[v] w λe w'=>e=.returned (.tuple #[])/\OwnS w' base v L.reverse/\w.grownBy w' v.ownBlock:=by
 obtain⟨h32,ho⟩:=hown;have h0:=ho
 rcases ho.2 with⟨rfl,hn⟩|⟨g,cap,cur,rfl,hb,hg,hnc,hcm,hcs,htk⟩
 ·obtain rfl:=List.length_eq_zero_iff.1 hn
  refine(AnyQ.slices_Reverse_empty Tryz.revS none 0 w).mono ?_;rintro e w' ⟨rfl,rfl⟩;exact⟨rfl,OwnS.nil _ _,⟨rfl,rfl,rfl,zB _,λ_ _ _=>rfl⟩⟩
 ·have hH:Go.Sort.HoldsK cellsF 34 w g 0 L.toArray:=λj hj=>by
   have hj':j<L.length*34:=by simpa using hj
   rw[Nat.zero_add];exact⟨(h0.cellAt j hj').trans (Qq0 L j hj'),h0.frozenAt j⟩
  have hsz:L.toArray.size=L.length:=by simp
  have hcall:=AnyQ.slices_Reverse Tryz.revS 34 (by intro w;kernel_rfl) (by intro w;kernel_rfl) cellsF Qbk Qhi g 0 cap L.toArray w hH (by rw[hsz];unfold maxLen at hcm;omega)
  rw[hsz] at hcall;refine hcall.mono ?_;rintro e w' ⟨rfl,n,rfl⟩;have hg':(Go.Sort.ahead w n).heap[g]?=some (.cells cur 143 (0,0)):=hg
  have hblk:(Go.Sort.putRowK cellsF 34 (Go.Sort.ahead w n) g 0 L.toArray.reverse).heap[g]?=some (.cells (Go.Sort.putCells id 0 (Go.Sort.flatK cellsF 34 L.toArray.reverse) cur) 143 (0,0)):=by
   show((Go.Sort.ahead w n).heap.modify g (Go.Sort.onCells _))[g]?=_;rw[Array.getElem?_modify,zG rfl,hg']
   rfl
  refine⟨rfl,⟨λs hs=>h32 s (List.mem_reverse.1 hs),?_,.inr ⟨g,cap,_,by rw[List.length_reverse],hb,hblk,by rw[List.length_reverse];exact hnc,hcm,?_,?_⟩⟩,?_⟩
  ·rw[Qbl]
  ·rw[<-hcs]
   simp[Go.Sort.putCells]
  ·rw[List.length_reverse]
   refine List.ext_getElem? λj=>?_
   rcases Nat.lt_or_ge j (L.length*34) with hj|hj
   ·have hjr:j<L.reverse.length*34:=by rw[List.length_reverse];exact hj
    have hjc:j<cur.size:=by
     rw[hcs];exact zC hj (Nat.mul_le_mul_right _ hnc)
    rw[Qq0 L.reverse j hjr,List.getElem?_take_of_lt hj,Array.getElem?_toList];simp only[Go.Sort.putCells,Array.getElem?_mapIdx,Array.getElem?_eq_getElem hjc,Option.map_some];rw[zG ⟨Nat.zero_le _,by simpa using hj⟩]
    simp
   ·rw[List.getElem?_eq_none (by rw[List.length_take];omega),List.getElem?_eq_none (by rw[Qbl,List.length_reverse];exact hj)]
  ·refine⟨rfl,rfl,rfl,?_,λk hk hne=>?_⟩
   ·show w.heap.size<=((Go.Sort.ahead w n).heap.modify g (Go.Sort.onCells _)).size
    rw[Array.size_modify];exact zB _
   ·show((Go.Sort.ahead w n).heap.modify g (Go.Sort.onCells _))[k]?=_
    rw[Array.getElem?_modify,if_neg (by rintro rfl;exact hne rfl)]
    rfl
namespace Pp
def walk (bits pl:Nat):Nat->Sd->List Sd->List Sd->Sd × List Sd × List Sd
 | 0,s,lf,rt=>(s,lf,rt)
 | n+1,s,lf,rt=>if pl<start bits (right s) then walk bits pl n (left s) lf (rt++[right s]) else walk bits pl n (right s) (lf++[left s]) rt
def leaf (bits pl:Nat):Nat->Sd->Sd
 | 0,s=>s
 | n+1,s=>if pl<start bits (right s) then leaf bits pl n (left s) else leaf bits pl n (right s)
def beside (bits pl:Nat):Nat->Sd->List Sd
 | 0,_=>[]
 | n+1,s=>if pl<start bits (right s) then beside bits pl n (left s)++[right s] else left s::beside bits pl n (right s)
theorem walk_leaf (bits pl:Nat):∀(n:Nat) (s:Sd) (lf rt:List Sd),(walk bits pl n s lf rt).1=leaf bits pl n s
 | 0,_,_,_=>rfl
 | n+1,s,lf,rt=>by
  unfold walk leaf
  split
  ·exact walk_leaf bits pl n _ _ _
  ·exact walk_leaf bits pl n _ _ _
theorem walk_beside (bits pl:Nat):∀(n:Nat) (s:Sd) (lf rt:List Sd),(walk bits pl n s lf rt).2.1++(walk bits pl n s lf rt).2.2.reverse=lf++beside bits pl n s++rt.reverse
 | 0,_,_,_=>by simp[walk,beside]
 | n+1,s,lf,rt=>by
  unfold walk beside
  split
  ·rw[walk_beside bits pl n]
   simp
  ·rw[walk_beside bits pl n]
   simp
theorem beside_length (bits pl:Nat):∀(n:Nat) (s:Sd),(beside bits pl n s).length=n
 | 0,_=>rfl
 | n+1,s=>by
  unfold beside
  split
  ·simp[beside_length bits pl n]
  ·simp[beside_length bits pl n]
theorem Qfv {bits:Nat}{s:Sd}(hl:s.level<bits):start bits s<=start bits (right s):=by
 rw[<-Qfj hl,<-Qd9];exact Nat.le_of_lt (start_lt _ _)
theorem Qhz {bits:Nat}{s:Sd}(hl:s.level<bits):stop bits (left s)<=stop bits s:=by
 rw[Qd9,<-Qfh hl];exact Nat.le_of_lt (start_lt _ _)
theorem beside_good (bits pl:Nat):∀(n:Nat) (s:Sd),In bits s->s.level+n=bits->Good bits (beside bits pl n s)/\∀x∈beside bits pl n s,start bits s<=start bits x/\stop bits x<=stop bits s
 | 0,_,_,_=>⟨⟨(λ_ h=>nomatch h),List.Pairwise.nil⟩,(λ_ h=>nomatch h)⟩
 | n+1,s,hs,hn=>by
  have hl:s.level<bits:=by omega
  unfold beside
  split
  ·obtain⟨⟨h1,h2⟩,h3⟩:=beside_good bits pl n (left s) (left_in hs hl) (show s.level+1+n=bits by omega)
   refine⟨⟨λx hx=>?_,?_⟩,λx hx=>?_⟩
   ·rcases List.mem_append.1 hx with h|h
    ·exact h1 x h
    ·rw[List.mem_singleton.1 h]
     exact right_in hs hl
   ·refine List.pairwise_append.2 ⟨h2,List.pairwise_singleton _ _,λa ha b hb=>?_⟩
    rw[List.mem_singleton.1 hb,<-Qd9];exact(h3 a ha).2
   ·rcases List.mem_append.1 hx with h|h
    ·have:=h3 x h
     rw[Qfj hl] at this;exact⟨this.1,Nat.le_trans this.2 (Qhz hl)⟩
    ·rw[List.mem_singleton.1 h]
     exact⟨Qfv hl,Nat.le_of_eq (Qfh hl)⟩
  ·obtain⟨⟨h1,h2⟩,h3⟩:=beside_good bits pl n (right s) (right_in hs hl) (show s.level+1+n=bits by omega)
   refine⟨⟨λx hx=>?_,?_⟩,λx hx=>?_⟩
   ·rcases List.mem_cons.1 hx with h|h
    ·rw[h]
     exact left_in hs hl
    ·exact h1 x h
   ·refine List.pairwise_cons.2 ⟨λb hb=>?_,h2⟩
    rw[Qd9];exact(h3 b hb).1
   ·rcases List.mem_cons.1 hx with h|h
    ·rw[h]
     exact⟨Nat.le_of_eq (Qfj hl).symm,Qhz hl⟩
    ·have:=h3 x h
     rw[Qfh hl] at this;exact⟨Nat.le_trans (Qfv hl) this.1,this.2⟩
theorem Qnp {bits:Nat}{A B M:List Sd}{s:Sd}(h:Good bits (A++s::B))(hM:Good bits M)(hin:∀x∈M,start bits s<=start bits x/\stop bits x<=stop bits s):Good bits (A++M++B):=by
 obtain⟨h1,h2⟩:=h;obtain⟨pA,pB,pAB⟩:=List.pairwise_append.1 h2;obtain⟨psB,pB⟩:=List.pairwise_cons.1 pB;refine⟨λx hx=>?_,?_⟩
 ·rcases List.mem_append.1 hx with hx|hx
  ·rcases List.mem_append.1 hx with hx|hx
   ·exact h1 x (List.mem_append_left _ hx)
   ·exact hM.1 x hx
  ·exact h1 x (List.mem_append_right _ (List.mem_cons_of_mem _ hx))
 ·refine List.pairwise_append.2 ⟨List.pairwise_append.2 ⟨pA,hM.2,λa ha b hb=>?_⟩,pB,λa ha b hb=>?_⟩
  ·exact Nat.le_trans (pAB a ha s (by simp)) (hin b hb).1
  ·rcases List.mem_append.1 ha with ha|ha
   ·exact pAB a ha b (by simp[hb])
   ·exact Nat.le_trans (hin a ha).2 (psB b hb)
end Pp
theorem OwnS.stay {w w':World}{base:Nat}{v:Value}{L:List Sd}(h:OwnS w base v L)(hs:∀k,v.ownBlock=some k->w'.heap[k]?=w.heap[k]?):OwnS w' base v L:=by
 refine⟨h.1,h.2.1,?_⟩
 rcases h.2.2 with h1|⟨g,cap,cur,rfl,hb2,hh,rest⟩
 ·exact .inl h1
 ·exact .inr ⟨g,cap,cur,rfl,hb2,(hs g rfl).trans hh,rest⟩
theorem OwnS.lt {w:World}{base:Nat}{v:Value}{L:List Sd}(h:OwnS w base v L):∀k,v.ownBlock=some k->base<=k/\k<w.heap.size:=h.2.lt
theorem Qfx (w:World)(base:Nat)(v:Value)(L:List Sd)(hown:OwnS w base v L)(hbase:base<=w.heap.size)(b c:Nat)(s:Sd)(hs:s.self.length=32)(hb:w.rangeAt b 0 (Pp.cells s))(hl:L.length<1073741824):
  ∃v' w',(Builtin.append_ #[139,139] 139 #[v,.slice (some ⟨b,0,none⟩) 1 c]).run Tryz.prog w=.ok v' w'/\OwnS w' base v' (L++[s])/\w.grownBy w' v.ownBlock/\(v'.ownBlock=v.ownBlock\/v'.ownBlock=some w.heap.size):=by
 obtain⟨i,z,hi,hz,hzs,hs34,hby⟩:=Qd4;obtain⟨h32,ho⟩:=hown
 obtain⟨v',w',h1,h2,h3,_,h4⟩:=run_append_own_at (P:=Tryz.prog) w base 139 139 143 i z 34 48 Tryz.underlying139 hi hz hs34 hby hzs (by decide) v L.length (L.flatMap cellsF) ho ⟨b,0,none⟩ 1 c (cellsF s)
  (by rw[Qbk]) (λj u hu=>by
   rw[Addr.add_lit]
   exact hb j u (by rw[<-Qgu hs];exact hu))
  (Qhi s) (by unfold maxLen;omega) (by omega) hbase
 refine⟨v',w',h1,⟨λy hy=>?_,?_⟩,h3,h4⟩
 ·rcases List.mem_append.1 hy with h|h
  ·exact h32 y h
  ·rw[List.mem_singleton] at h
   rw[h];exact hs
 ·rw[zE,List.length_singleton,List.flatMap_append]
  simpa using h2
theorem Qp8 (w:World)(base:Nat)(v u:Value)(L M:List Sd)(hv:OwnS w base v L)(hu:OwnS w base u M)(hbase:base<=w.heap.size)(hl:L.length+M.length<1073741824):
  ∃v' w',(Builtin.append_ #[139,139] 139 #[v,u]).run Tryz.prog w=.ok v' w'/\OwnS w' base v' (L++M)/\w.grownBy w' v.ownBlock:=by
 have hss:=hu.ss
 rcases hu.2.2 with⟨rfl,hn⟩|⟨g,cap,cur,rfl,_⟩
 ·obtain rfl:=List.length_eq_zero_iff.1 hn
  have hshape:∃ad n m,v=.slice ad n m/\n<=m:=by
   rcases hv.2.2 with⟨rfl,_⟩|⟨g,cap,cur,rfl,_,_,h,_⟩
   ·exact⟨none,0,0,rfl,zB _⟩
   ·exact⟨_,_,_,rfl,h⟩
  obtain⟨ad,n,m,rfl,hnm⟩:=hshape;exact⟨_,w,Qvj w ad n m hnm 0,by simpa using hv,⟨rfl,rfl,rfl,zB _,λ_ _ _=>rfl⟩⟩
 ·obtain⟨ad,g',o,c,e,h1,_⟩:=hss
  cases e
  rcases Nat.eq_zero_or_pos M.length with h0|h0
  ·obtain rfl:=List.length_eq_zero_iff.1 h0
   have hshape:∃ad n m,v=.slice ad n m/\n<=m:=by
    rcases hv.2.2 with⟨rfl,_⟩|⟨g,cap,cur,rfl,_,_,h,_⟩
    ·exact⟨none,0,0,rfl,zB _⟩
    ·exact⟨_,_,_,rfl,h⟩
   obtain⟨ad,n,m,rfl,hnm⟩:=hshape;exact⟨_,w,Qmg w ad n m hnm _ _,by simpa using hv,⟨rfl,rfl,rfl,zB _,λ_ _ _=>rfl⟩⟩
  ·obtain⟨e2,_,_⟩:=h1 0 h0
   cases e2
   exact Qh6 w base v L hv hbase g 0 cap M hu.1 (λi hi=>(h1 i hi).2.2) hl
structure Wk (w0 w:World) (wa rb bits:Nat) (sl v10 v11:Value) (D:Array Value) (lf rt:List Sd):Prop where
 cur:w.heap[wa]?=some (.cells D 143 (0,0))
 res:w.heap[wa+1]?=some (.cells zY 23 (0,0))
 row:w.heap[rb]?=some (.cells #[.int .i64 (bits:Int),sl] 145 (0,0))
 lefts:OwnS w (wa+2) v10 lf
 rights:OwnS w (wa+2) v11 rt
 apart:∀k,v10.ownBlock=some k->v11.ownBlock≠some k
 kept:Kept wa wa w0 w
 size:wa+2<=w.heap.size
 below:rb<wa
variable {w0 w w':World} {wa rb bits:Nat} {sl v10 v11 u:Value} {D:Array Value} {lf rt M:List Sd}
theorem Wk.step (h:Wk w0 w wa rb bits sl v10 v11 D lf rt)(k:Kept w.heap.size w.heap.size w w'):Wk w0 w' wa rb bits sl v10 v11 D lf rt where
 cur:=(k.block wa (zF h.cur) (zD (zF h.cur))).trans h.cur
 res:=(k.block (wa+1) (zF h.res) (zD (zF h.res))).trans h.res
 row:=(k.block rb (zF h.row) (zD (zF h.row))).trans h.row
 lefts:=h.lefts.kept k (zB _)
 rights:=h.rights.kept k (zB _)
 apart:=h.apart
 kept:=h.kept.trans (k.mono (by have:=h.size;omega) (λi hi _=>by have:=h.size;omega))
 size:=Nat.le_trans h.size k.size
 below:=h.below
theorem Wk.alloc (h:Wk w0 w wa rb bits sl v10 v11 D lf rt)(o:Obj):Wk w0 (w.alloc o) wa rb bits sl v10 v11 D lf rt:=h.step (zI.alloc (zB _) o)
theorem Wk.setcur (h:Wk w0 w wa rb bits sl v10 v11 D lf rt)(D':Array Value):Wk w0 (w.setRow wa D') wa rb bits sl v10 v11 D' lf rt where
 cur:=setRow_heap w wa D D' _ _ h.cur
 res:=(setRow_other w wa (wa+1) D' (by omega)).trans h.res
 row:=(setRow_other w wa rb D' (by have:=h.below;omega)).trans h.row
 lefts:=h.lefts.stay (λk hk=>setRow_other w wa k D' (by have:=(h.lefts.lt k hk).1;omega))
 rights:=h.rights.stay (λk hk=>setRow_other w wa k D' (by have:=(h.rights.lt k hk).1;omega))
 apart:=h.apart
 kept:=h.kept.trans ⟨rfl,rfl,rfl,by simp[World.setRow],λk _ hne=>setRow_other w wa k D' hne⟩
 size:=by have:=h.size;simpa [World.setRow] using this
 below:=h.below
theorem Wk.setnew (h:Wk w0 w wa rb bits sl v10 v11 D lf rt)(b:Nat)(hb:wa+2<=b)(h1:v10.ownBlock≠some b)(h2:v11.ownBlock≠some b)(cs:Array Value):Wk w0 (w.setRow b cs) wa rb bits sl v10 v11 D lf rt where
 cur:=(setRow_other w b wa cs (by omega)).trans h.cur
 res:=(setRow_other w b (wa+1) cs (by omega)).trans h.res
 row:=(setRow_other w b rb cs (by have:=h.below;omega)).trans h.row
 lefts:=h.lefts.stay (λk hk=>setRow_other w b k cs (λe=>h1 (by rw[hk,e])))
 rights:=h.rights.stay (λk hk=>setRow_other w b k cs (λe=>h2 (by rw[hk,e])))
 apart:=h.apart
 kept:=h.kept.trans ⟨rfl,rfl,rfl,by simp[World.setRow],λk hk _=>setRow_other w b k cs (by omega)⟩
 size:=by have:=h.size;simpa [World.setRow] using this
 below:=h.below
theorem Wk.left (h:Wk w0 w wa rb bits sl v10 v11 D lf rt)(ho:OwnS w' (wa+2) u M)(hg:w.grownBy w' v10.ownBlock)(hb:u.ownBlock=v10.ownBlock\/u.ownBlock=some w.heap.size):Wk w0 w' wa rb bits sl u v11 D M rt where
 cur:=(hg.block wa (zF h.cur) (λe=>by have:=(h.lefts.lt _ e.symm).1;omega)).trans h.cur
 res:=(hg.block (wa+1) (zF h.res) (λe=>by have:=(h.lefts.lt _ e.symm).1;omega)).trans h.res
 row:=(hg.block rb (zF h.row) (λe=>by have:=(h.lefts.lt _ e.symm).1;have:=h.below;omega)).trans h.row
 lefts:=ho
 rights:=h.rights.stay (λk hk=>hg.block k (h.rights.lt k hk).2 (λe=>h.apart k e.symm hk))
 apart:=λk hk hk2=>by
  rcases hb with hb|hb
  ·exact h.apart k (hb ▸ hk) hk2
  ·rw[hb] at hk
   have:=(h.rights.lt k hk2).2
   cases hk
   omega
 kept:=h.kept.trans ⟨hg.os,hg.tape,hg.output,hg.size,λk hk _=>hg.block k (by have:=h.size;omega) (λe=>by have:=(h.lefts.lt _ e.symm).1;omega)⟩
 size:=Nat.le_trans h.size hg.size
 below:=h.below
theorem Wk.right (h:Wk w0 w wa rb bits sl v10 v11 D lf rt)(ho:OwnS w' (wa+2) u M)(hg:w.grownBy w' v11.ownBlock)(hb:u.ownBlock=v11.ownBlock\/u.ownBlock=some w.heap.size):Wk w0 w' wa rb bits sl v10 u D lf M where
 cur:=(hg.block wa (zF h.cur) (λe=>by have:=(h.rights.lt _ e.symm).1;omega)).trans h.cur
 res:=(hg.block (wa+1) (zF h.res) (λe=>by have:=(h.rights.lt _ e.symm).1;omega)).trans h.res
 row:=(hg.block rb (zF h.row) (λe=>by have:=(h.rights.lt _ e.symm).1;have:=h.below;omega)).trans h.row
 lefts:=h.lefts.stay (λk hk=>hg.block k (h.lefts.lt k hk).2 (λe=>h.apart k hk e.symm))
 rights:=ho
 apart:=λk hk hk2=>by
  rcases hb with hb|hb
  ·exact h.apart k hk (hb ▸ hk2)
  ·rw[hb] at hk2
   have:=(h.lefts.lt k hk).2
   cases hk2
   omega
 kept:=h.kept.trans ⟨hg.os,hg.tape,hg.output,hg.size,λk hk _=>hg.block k (by have:=h.size;omega) (λe=>by have:=(h.rights.lt _ e.symm).1;omega)⟩
 size:=Nat.le_trans h.size hg.size
 below:=h.below
section
variable {P:Program} {ops:Array Oper} {rest:List Oper} {o:Oper} {a:Act} {w w':World} {Q:Exit->Act->World->Prop}
theorem Qd3 (hgd:o.guard=none)(t:TypeId)(ho:o.op=.build t #[]){u:Value}(hr:(Instr.build t #[]).run P w=.ok u w)(hk:wpList P ops Q rest (a.put o.dst u) w):wpList P ops Q (o::rest) a w:=by
 refine wpList_plain hgd λK hK=>?_
 unfold Oper.wp execOp;simp only[ho,List.map_toArray,List.map_nil,Sem.run_bind,hr,Result.andThen_ok,Sem.run_pure];exact hK _ _ hk
end
theorem Quq (pv:Option Addr)(bk:Value)(pl i er:Int)(her:er≠0)(w:World)(hf:∀w2:World,Kept w.heap.size w.heap.size w w2->Calls Tryz.prog 77 #[.pointer pv,.int .i64 pl] w2 λe w'=>e=.returned (.tuple #[.int .i64 i,.int .i64 er])/\Kept w2.heap.size w2.heap.size w2 w'):Calls Tryz.prog 50 #[.pointer pv,bk,.int .i64 pl] w λe w'=>e=.returned (.tuple #[.agg zY,.int .i64 er])/\Kept w.heap.size w.heap.size w w':=by
 have hd:(er != 0)=true:=by simpa using her
 have HD:=hid hd;have HF:=hid hf;clear hf hd her
 go_enter Tryz.func50,Tryz.ntmps50
 go_upto_region 1 with fail
 rw[Qao];have k1:Kept w.heap.size w.heap.size w (w.alloc (.cells zY 23)):=zI.alloc (zB _) _
 have r1:(w.alloc (.cells zY 23)).heap[w.heap.size]?=some (.cells zY 23 (0,0)):=Qaa _ _
 generalize w.alloc (.cells zY 23)=w1 at k1 r1 |-
 have HK1:=hid k1;have R1:=hid r1;have HFF:=hid (HF.out w1 k1);obtain⟨wa,hwa⟩:∃wa,wa=w.heap.size:=⟨_,rfl⟩;rw[<-hwa] at R1 |-;have HWA:=hid hwa;clear k1 r1 hwa
 go_upto_region 2 with(go_at_call 77;refine HFF.out.mono ?_;rintro e w2 ⟨rfl,k2⟩)
 have K2:=hid (HK1.out.trans (k2.mono HK1.out.size (λi hi _=>zD (zC hi HK1.out.size))))
 have R2:=hid (rk R1.out k2);clear k2;refine zA ?_;refine wW λK hK=>?_;go_simp;apply hK;clear hK K;refine wW λK hK=>?_;go_simp;rw[HD.out];apply hK;clear hK K
 go_upto_region 3 with fail
 refine zA ?_;refine Qd3 rfl 23 rfl (Qlc _) ?_
 simp only[Act.put,sA,sB,sC];refine wW λK hK=>?_;go_simp;apply hK;clear hK K;have hzi:(Tryz.prog.info? 23).map (·.size)=some zY.size:=by rw[Qah];kernel_rfl
 have HZI:=hid hzi;clear hzi;refine wpList_store_row rfl 23 _ _ rfl wa zY rfl rfl 23 zY R2.out HZI.out rfl Qeb ?_
 simp only[Act.put];have k3:Kept w.heap.size w.heap.size w (w2.setRow wa zY):=K2.out.trans ⟨rfl,rfl,rfl,by simp[World.setRow],λk hk _=>setRow_other w2 wa k zY (by have:=HWA.out;omega)⟩
 have r3:=setRow_heap w2 wa zY zY _ _ R2.out;generalize w2.setRow wa zY=w3 at k3 r3 |-;have K3:=hid k3;have R3:=hid r3;clear k3 r3;refine wW λK hK=>?_;go_simp;apply hK;clear hK K;go_wp2;refine Qfa rfl wa zY rfl R3.out Qah rfl ?_;exact⟨rfl,K3.out⟩
theorem Qtu (pv:Option Addr)(bk:Value)(pl i er:Int)(her:er≠0)(w:World)(hf:∀w2:World,Kept w.heap.size w.heap.size w w2->Calls Tryz.prog 77 #[.pointer pv,.int .i64 pl] w2 λe w'=>e=.returned (.tuple #[.int .i64 i,.int .i64 er])/\Kept w2.heap.size w2.heap.size w2 w'):Calls Tryz.prog 44 #[.pointer pv,bk,.int .i64 pl] w λe w'=>e=.returned (.tuple #[.agg zY,.int .i64 er])/\Kept w.heap.size w.heap.size w w':=by
 have hd:(er != 0)=true:=by simpa using her
 have HD:=hid hd;have HF:=hid hf;clear hf hd her
 go_enter Tryz.func44,Tryz.ntmps44
 go_upto_region 1 with fail
 rw[Qao];have k1:Kept w.heap.size w.heap.size w (w.alloc (.cells zY 23)):=zI.alloc (zB _) _
 have r1:(w.alloc (.cells zY 23)).heap[w.heap.size]?=some (.cells zY 23 (0,0)):=Qaa _ _
 generalize w.alloc (.cells zY 23)=w1 at k1 r1 |-
 have HK1:=hid k1;have R1:=hid r1;have HFF:=hid (HF.out w1 k1);obtain⟨wa,hwa⟩:∃wa,wa=w.heap.size:=⟨_,rfl⟩;rw[<-hwa] at R1 |-;have HWA:=hid hwa;clear k1 r1 hwa
 go_upto_region 2 with(go_at_call 77;refine HFF.out.mono ?_;rintro e w2 ⟨rfl,k2⟩)
 have K2:=hid (HK1.out.trans (k2.mono HK1.out.size (λi hi _=>zD (zC hi HK1.out.size))))
 have R2:=hid (rk R1.out k2);clear k2;refine zA ?_;refine wW λK hK=>?_;go_simp;apply hK;clear hK K;refine wW λK hK=>?_;go_simp;rw[HD.out];apply hK;clear hK K
 go_upto_region 3 with fail
 refine zA ?_;refine Qd3 rfl 23 rfl (Qlc _) ?_
 simp only[Act.put,sA,sB,sC];refine wW λK hK=>?_;go_simp;apply hK;clear hK K;have hzi:(Tryz.prog.info? 23).map (·.size)=some zY.size:=by rw[Qah];kernel_rfl
 have HZI:=hid hzi;clear hzi;refine wpList_store_row rfl 23 _ _ rfl wa zY rfl rfl 23 zY R2.out HZI.out rfl Qeb ?_
 simp only[Act.put];have k3:Kept w.heap.size w.heap.size w (w2.setRow wa zY):=K2.out.trans ⟨rfl,rfl,rfl,by simp[World.setRow],λk hk _=>setRow_other w2 wa k zY (by have:=HWA.out;omega)⟩
 have r3:=setRow_heap w2 wa zY zY _ _ R2.out;generalize w2.setRow wa zY=w3 at k3 r3 |-;have K3:=hid k3;have R3:=hid r3;clear k3 r3;refine wW λK hK=>?_;go_simp;apply hK;clear hK K;go_wp2;refine Qfa rfl wa zY rfl R3.out Qah rfl ?_;exact⟨rfl,K3.out⟩
def levAt (w:World)(b:Nat):Nat:=match w.cell? ⟨b,0,none⟩ with
 | some (.int _ z)=>z.toNat
 | _=>0
theorem Qig {w:World}{b:Nat}{D:Array Value}{t:TypeId}{s:Sd}(h:w.heap[b]?=some (.cells D t (0,0)))(hD:D=(Pp.cells s).toArray):levAt w b=s.level:=by
 subst hD;simp[levAt,cell_of_row w b 0 _ _ _ h,Pp.cells]
theorem Qvp (w:World)(D:Array Value)(rb bits:Nat)(sl:Value)(hr:w.heap[rb]?=some (.cells #[.int .i64 (bits:Int),sl] 145 (0,0))):
  Wk w ((w.alloc (.cells D 143)).alloc (.cells zY 23)) w.heap.size rb bits sl (.slice none 0 0) (.slice none 0 0) D [] [] where
 cur:=(Below.heap_alloc _ _ _ (by simp)).trans (Qaa _ _)
 res:=by
  have:=Qaa (w.alloc (.cells D 143)) (.cells zY 23)
  rwa[World.size_alloc] at this
 row:=(Below.heap_alloc _ _ _ (by have:=zF hr;simp;omega)).trans ((Below.heap_alloc _ _ _ (zF hr)).trans hr)
 lefts:=OwnS.nil _ _
 rights:=OwnS.nil _ _
 apart:=λk h=>by cases h
 kept:=(zI.alloc (zB _) _).alloc (by simp) _
 size:=by simp
 below:=zF hr
theorem Qer {bits:Nat}{s:Sd}(h:Pp.In bits s):(Pp.cells s).toArray.size=34:=by rw[List.size_toArray,Pp.cells_length h]
theorem Qqf (bits:Nat)(hb:bits<=32)(s0:Sd)(hs0:Pp.In bits s0)(pl:Nat)(rb:Nat)(sl:Value)(w:World)(hr:w.heap[rb]?=some (.cells #[.int .i64 (bits:Int),sl] 145 (0,0))):
  Calls Tryz.prog 78 #[.pointer (some ⟨rb,0,none⟩),.pointer none,.agg (Pp.cells s0).toArray,.int .i64 (pl:Int)] w λe w'=>∃v,e=.returned (.tuple #[.agg (bY (Pp.key (Pp.leaf bits pl (bits-s0.level) s0).self)).toArray,v])/\Ss w' v (Pp.beside bits pl (bits-s0.level) s0)/\Kept w.heap.size w.heap.size w w':=by
 have hleaf:=Pp.walk_leaf bits pl (bits-s0.level) s0 [] [];have hbes:=Pp.walk_beside bits pl (bits-s0.level) s0 [] [];rw[List.nil_append,List.reverse_nil,List.append_nil] at hbes;rw[<-hleaf,<-hbes];obtain⟨WK,hWK⟩:∃WK,WK=Pp.walk bits pl (bits-s0.level) s0 [] []:=⟨_,rfl⟩;rw[<-hWK];have hD34':=Qer hs0;have hW0:=Qvp w (Pp.cells s0).toArray rb bits sl hr;obtain⟨D0,hD0⟩:∃D0,D0=(Pp.cells s0).toArray:=⟨_,rfl⟩;rw[<-hD0] at hD34' hW0 |-;obtain⟨i0,z0,hi0,hz0,hzs0,his0,hby0⟩:=Qd4;have HI0:=hid hi0;have HZ0:=hid hz0;have HIS:=hid his0;have HD0:=hid hD0;have HWK0:=hid hWK;have H34:=hid hD34';have HIN0:=hid hs0;have HW0:=hid hW0;have HB:=hid hb;clear hleaf hbes hWK hD34' hW0 hD0 hi0 hz0 hzs0 his0 hby0 hs0 hb hr
 go_enter Tryz.func78,Tryz.ntmps78
 go_upto_region 1 with fail
 rw[Qao];generalize (w.alloc (.cells D0 143)).alloc (.cells zY 23)=w1 at HW0 |-
 obtain⟨wa,hwa⟩:∃wa,wa=w.heap.size:=⟨_,rfl⟩;rw[<-hwa] at HW0 |-;have HWA:=hid hwa;clear hwa
 go_wp2_with fail
 go_loopw [10,11] (λs10 s11 wr=>∃(n:Nat) (s:Sd) (lf rt:List Sd) (D:Array Value),Hid (D=(Pp.cells s).toArray)/\Hid (s.level+n=bits)/\Hid (Pp.In bits s)/\Hid (Pp.walk bits pl n s lf rt=WK)/\Hid (lf.length+rt.length+n<=32)/\Hid (Wk w wr wa rb bits sl s10 s11 D lf rt)) (λ_ _ wr=>bits-levAt wr wa)
 case atStart=>exact⟨bits-s0.level,s0,[],[],D0,HD0,hid (by have:=HIN0.out.1;omega),HIN0,hid HWK0.out.symm,hid (by have:=HB.out;simp;omega),HW0⟩
 case round=>
  clear HD0 HWK0 H34 HIN0 HW0;obtain⟨n,s,lf,rt,D,HD,HN,HIN,HWK,HLEN,HW⟩:=hrel;have HD34:=hid (show D.size=34 by rw[HD.out];exact Qer HIN.out)
  have c0:wr.cell? ⟨wa,0,none⟩=some (.int .i64 (s.level:Int)):=by rw[cell_of_row wr wa 0 _ _ _ HW.out.cur,HD.out];rfl
  have c1:=Qac HW.out.row
  cases n with
  | zero=>
   have hlev:s.level=bits:=by have:=HN.out;omega
   have hlt:¬(s.level:Int)<(bits:Int):=by omega
   have HLV:=hid hlev;clear hlev
   go_upto_region 2 with fail
   go_region
   have hWd:Wk w wr.drew wa rb bits sl u10 u11 D lf rt:=HW.out.step zI.drew;generalize wr.drew=wd at hWd |-;have HWd:=hid hWd;clear hWd
   go_upto_region 9 with fail
   refine zA ?_;refine wW λK hK=>?_;go_simp;apply hK;clear hK K;refine wW λK hK=>?_;go_simp;go_at_call 110
   refine(Qlq wd (wa+2) u11 rt HWd.out.rights).mono ?_;rintro e w4 ⟨rfl,ho4,hg4⟩;apply hK;clear hK K;have HW4:=hid (HWd.out.right ho4 hg4 (.inl rfl));clear ho4 hg4;have hkey:=λw=>Qxj s bits HIN.out w
   rw[<-HD.out] at hkey;have HKL:=hid (show(Pp.key s.self).length=32 from Qaw _);obtain⟨KD,hKD⟩:∃KD,KD=(bY (Pp.key s.self)).toArray:=⟨_,rfl⟩;have HKS:=hid (show KD.size=32 by rw[hKD,List.size_toArray,bZ];exact HKL.out)
   have HKA:=hid (show KD.all (·.oneCell')=true by rw[hKD];exact Qae _)
   have HKI:=hid (show(Tryz.prog.info? 23).map (·.size)=some KD.size by rw[HKS.out];kernel_rfl)
   simp only[<-hKD] at hkey;have HKEY:=hid hkey;have HKD:=hid hKD;clear hkey hKD
   go_upto_region 10 with fail
   refine zA ?_;refine wpList_load_row rfl 143 (.tmp 6) rfl (wa) rfl 143 D (0,0) _ (HW4.out.cur) Tryz.underlying143 rfl (by rw[seedInfo,HD34.out]) ?_
   simp only[Act.put,sA,sB,sC];refine wW λK hK=>?_;go_simp;apply hK;clear hK K;refine wW λK hK=>?_;go_simp;go_at_call 111
   refine(HKEY.out _).mono ?_;rintro e w5 ⟨rfl,k5⟩;apply hK;clear hK K;have HW5:=hid (HW4.out.step k5);clear k5;iterate 2(refine wW λK hK=>?_;go_simp;apply hK;clear hK K)
   obtain⟨v6,w6,hrun,hown,hgrow⟩:=Qp8 w5 (wa+2) u10 u11 lf rt.reverse HW5.out.lefts HW5.out.rights HW5.out.size (by have:=HLEN.out;simp;omega)
   refine Qal rfl (.tmp 47) (.tmp 48) 139 139 139 rfl rfl u10 u11 rfl rfl hrun ?_
   simp only[Act.put,sA,sB,sC];have hres:w6.heap[wa+1]?=some (.cells zY 23 (0,0)):=(hgrow.block (wa+1) (zF HW5.out.res) (λe=>by have:=(HW5.out.lefts.lt _ e.symm).1;omega)).trans HW5.out.res
   have hk6:Kept wa wa w w6:=HW5.out.kept.trans ⟨hgrow.os,hgrow.tape,hgrow.output,hgrow.size,λk hk _=>hgrow.block k (by have:=HW5.out.size;omega) (λe=>by have:=(HW5.out.lefts.lt _ e.symm).1;omega)⟩
   have HRES:=hid hres;have HK6:=hid hk6;have HOWN:=hid hown;clear hres hk6 hown hgrow hrun;refine wpList_store_row rfl 23 _ _ rfl (wa+1) KD rfl rfl 23 zY (HRES.out) (HKI.out) (by rw[Qah,HKS.out]) (HKA.out) ?_
   simp only[Act.put];have hr7:=setRow_heap w6 (wa+1) zY KD _ _ HRES.out;have hk7:Kept wa wa w (w6.setRow (wa+1) KD):=HK6.out.trans ⟨rfl,rfl,rfl,by simp[World.setRow],λk hk _=>setRow_other w6 (wa+1) k KD (by omega)⟩
   have ho7:=HOWN.out.stay (w':=w6.setRow (wa+1) KD) (λk hk=>setRow_other w6 (wa+1) k KD (by have:=(HOWN.out.lt k hk).1;omega))
   have HR7:=hid hr7;have HK7:=hid hk7;have HO7:=hid ho7;clear hr7 hk7 ho7;refine wW λK hK=>?_;go_simp;apply hK;clear hK K;go_wp2;refine Qfa rfl (wa+1) KD rfl HR7.out HKS.out rfl ?_;have hwk:=HWK.out;refine⟨v6,?_,?_,by rw[<-HWA.out];exact HK7.out⟩
   ·rw[<-hwk,HKD.out]
    rfl
   ·rw[<-hwk]
    exact HO7.out.ss
  | succ n=>
   have hlev:s.level<bits:=by have:=HN.out;omega
   have hlt:(s.level:Int)<(bits:Int):=by omega
   have HIL:=hid (Pp.left_in HIN.out hlev);have HIR:=hid (Pp.right_in HIN.out hlev);have hbelow:=λw=>Qvg bits HB.out s HIN.out hlev w
   have hstart:=λw h=>Qfz bits HB.out (Pp.right s) HIR.out rb sl w h
   obtain⟨D1,hD1⟩:∃D1,D1=(Pp.cells (Pp.left s)).toArray:=⟨_,rfl⟩;obtain⟨D2,hD2⟩:∃D2,D2=(Pp.cells (Pp.right s)).toArray:=⟨_,rfl⟩;simp only[<-HD.out,<-hD1,<-hD2] at hbelow;simp only[<-hD2] at hstart;have HBELOW:=hid hbelow;have HSTART:=hid hstart;have HID1:=HIL;have HID2:=HIR;have HSD1:=hid (show D1.size=34 by rw[hD1];exact Qer HIL.out)
   have HSD2:=hid (show D2.size=34 by rw[hD2];exact Qer HIR.out)
   have HAD1:=hid (show D1.all (·.oneCell')=true by rw[hD1];exact Qjw _)
   have HAD2:=hid (show D2.all (·.oneCell')=true by rw[hD2];exact Qjw _)
   have HLD1:=hid (show D1.toList=Pp.cells (Pp.left s) by rw[hD1])
   have HLD2:=hid (show D2.toList=Pp.cells (Pp.right s) by rw[hD2])
   have HPD1:=hid HIL.out.2.2;have HPD2:=hid HIR.out.2.2;have HTD1:=hid hD1;have HTD2:=hid hD2;clear hbelow hstart hD1 hD2 hlev
   go_upto_region 2 with fail
   go_region
   have hWd:Wk w wr.drew wa rb bits sl u10 u11 D lf rt:=HW.out.step zI.drew;generalize wr.drew=wd at hWd |-;have HWd:=hid hWd;clear hWd
   go_upto_region 3 with fail
   refine zA ?_;refine wpList_load_row rfl 143 (.tmp 6) rfl (wa) rfl 143 D (0,0) _ (HWd.out.cur) Tryz.underlying143 rfl (by rw[seedInfo,HD34.out]) ?_
   simp only[Act.put,sA,sB,sC];refine wW λK hK=>?_;go_simp;apply hK;clear hK K;refine wW λK hK=>?_;go_simp;go_at_call 109
   refine(HBELOW.out _).mono ?_;rintro e w4 ⟨rfl,k4⟩;apply hK;clear hK K;have HW4:=hid (HWd.out.step k4);have HO10:=hid (λk (hk:u10.ownBlock=some k)=>(HWd.out.lefts.lt k hk).2)
   have HO11:=hid (λk (hk:u11.ownBlock=some k)=>(HWd.out.rights.lt k hk).2)
   have hsz4:=k4.size;have HSZ4:=hid hsz4;clear k4 hsz4;iterate 3(refine wW λK hK=>?_;go_simp;apply hK;clear hK K)
   refine Qa8 rfl 143 rfl (Qfn _) ?_
   simp only[Act.put,sA,sB,sC];refine Qa8 rfl 143 rfl (Qfn _) ?_
   simp only[Act.put,sA,sB,sC];have hW4b:=(HW4.out.alloc (.cells Qat 143)).alloc (.cells Qat 143)
   have hr1:((w4.alloc (.cells Qat 143)).alloc (.cells Qat 143)).heap[w4.heap.size]?=some (.cells Qat 143 (0,0)):=(Below.heap_alloc _ _ _ (by simp)).trans (Qaa _ _)
   have hr2:=Qaa (w4.alloc (.cells Qat 143)) (.cells Qat 143)
   rw[World.size_alloc] at hr2 |-;generalize (w4.alloc (.cells Qat 143)).alloc (.cells Qat 143)=w4b at hW4b hr1 hr2 |-
   obtain⟨b1,hb1⟩:∃b1,b1=w4.heap.size:=⟨_,rfl⟩;rw[<-hb1] at hr1 hr2 |-;have HB1:=hid hb1
   replace HO10:=hid (λk (hk:u10.ownBlock=some k)=>show k<b1 by have:=HO10.out k hk;have:=HSZ4.out;have:=HB1.out;omega)
   replace HO11:=hid (λk (hk:u11.ownBlock=some k)=>show k<b1 by have:=HO11.out k hk;have:=HSZ4.out;have:=HB1.out;omega)
   have HB1W:=hid (show wa+2<=b1 by have:=HW4.out.size;have:=HB1.out;omega)
   have HW4B:=hid hW4b;have Z1:=hid hr1;have Z2:=hid hr2;clear hW4b hr1 hr2 hb1;refine wpList_store_row rfl 143 _ _ rfl (b1) D1 rfl rfl 143 Qat (Z1.out) (by rw[seedInfo,HSD1.out]) (by rw[Qdr,HSD1.out]) (HAD1.out) ?_
   simp only[Act.put];have HW5A:=hid (HW4B.out.setnew b1 HB1W.out (λe=>by have:=HO10.out _ e;omega) (λe=>by have:=HO11.out _ e;omega) D1)
   have RA:=hid (setRow_heap w4b b1 Qat D1 _ _ Z1.out);have ZB:=hid ((setRow_other w4b b1 (b1+1) D1 (by omega)).trans Z2.out)
   generalize w4b.setRow b1 D1=w5a at HW5A RA ZB |-;refine wpList_store_row rfl 143 _ _ rfl (b1+1) D2 rfl rfl 143 Qat (ZB.out) (by rw[seedInfo,HSD2.out]) (by rw[Qdr,HSD2.out]) (HAD2.out) ?_
   simp only[Act.put];have HW5:=hid (HW5A.out.setnew (b1+1) (by have:=HB1W.out;omega) (λe=>by have:=HO10.out _ e;omega) (λe=>by have:=HO11.out _ e;omega) D2)
   have R2:=hid (setRow_heap w5a (b1+1) Qat D2 _ _ ZB.out);have R1:=hid ((setRow_other w5a (b1+1) b1 D2 (by omega)).trans RA.out)
   generalize w5a.setRow (b1+1) D2=w5 at HW5 R1 R2 |-;clear HW5A RA ZB Z1 Z2 HW4B
   go_upto_region 4 with fail
   refine zA ?_;iterate 2(refine wW λK hK=>?_;go_simp;apply hK;clear hK K)
   refine wpList_load_row rfl 143 (.tmp 13) rfl (b1+1) rfl 143 D2 (0,0) _ (R2.out) Tryz.underlying143 rfl (by rw[seedInfo,HSD2.out]) ?_
   simp only[Act.put,sA,sB,sC];refine wW λK hK=>?_;go_simp;go_at_call 108
   refine(HSTART.out _ HW5.out.row).mono ?_;rintro e w5' ⟨rfl,k5⟩;apply hK;clear hK K
   replace HW5:=hid (HW5.out.step k5)
   replace R1:=hid (rk R1.out k5)
   replace R2:=hid (rk R2.out k5)
   clear k5;clear w5
   rename World=>w5
   by_cases hc:pl<Pp.start bits (Pp.right s)
   ·have hci:(pl:Int)<(Pp.start bits (Pp.right s):Int):=by omega
    have HC:=hid hc;clear hc;refine wW λK hK=>?_;go_simp;apply hK;clear hK K
    go_upto_region 5 with fail
    refine zA ?_;refine wW λK hK=>?_;go_simp;apply hK;clear hK K;refine wpList_load_row rfl 143 (.tmp 13) rfl (b1+1) rfl 143 D2 (0,0) _ (R2.out) Tryz.underlying143 rfl (by rw[seedInfo,HSD2.out]) ?_
    simp only[Act.put,sA,sB,sC];refine Qet rfl (.tmp 33) 139 143 rfl i0 z0 Tryz.underlying139 HI0.out HZ0.out D2 rfl (by rw[HSD2.out,HIS.out]) (by rw[HIS.out];decide) (by rw[HIS.out];decide) ?_
    simp only[Act.put,sA,sB,sC];have hW6:=HW5.out.alloc (.cells D2 143)
    obtain⟨v6,w6,hrun,hown,hgrow,hblk⟩:=Qfx (w5.alloc (.cells D2 143)) (wa+2) u11 rt hW6.rights hW6.size w5.heap.size 1 (Pp.right s) HPD2.out (by have:=Qdl (Qaa w5 (.cells D2 143));rwa[HLD2.out] at this) (by have:=HLEN.out;omega)
    refine Qal rfl (.tmp 32) (.tmp 34) 139 139 139 rfl rfl u11 (.slice (some ⟨w5.heap.size,0,none⟩) 1 1) rfl rfl hrun ?_
    simp only[Act.put,sA,sB,sC];have hW7:=hW6.right hown hgrow hblk;have hg1:w6.heap[b1]?=some (.cells D1 143 (0,0)):=(hgrow.block b1 (by have:=zF R1.out;simp;omega) (λe=>by have:=HO11.out _ e.symm;omega)).trans ((Below.heap_alloc _ _ _ (zF R1.out)).trans R1.out)
    have hg2:w6.heap[b1+1]?=some (.cells D2 143 (0,0)):=(hgrow.block (b1+1) (by have:=zF R2.out;simp;omega) (λe=>by have:=HO11.out _ e.symm;omega)).trans ((Below.heap_alloc _ _ _ (zF R2.out)).trans R2.out)
    have HW7:=hid hW7;have G1:=hid hg1;have G2:=hid hg2;clear hW6 hW7 hg1 hg2 hrun hown hgrow hblk;refine wW λK hK=>?_;go_simp;apply hK;clear hK K
    go_upto_region 6 with fail
    refine zA ?_;refine wpList_load_row rfl 143 (.tmp 12) rfl (b1) rfl 143 D1 (0,0) _ (G1.out) Tryz.underlying143 rfl (by rw[seedInfo,HSD1.out]) ?_
    simp only[Act.put,sA,sB,sC];refine wpList_store_row rfl 143 _ _ rfl (wa) D1 rfl rfl 143 D (HW7.out.cur) (by rw[seedInfo,HSD1.out]) (by rw[HD34.out,HSD1.out]) (HAD1.out) ?_
    simp only[Act.put];have hW8:=HW7.out.setcur D1;have HW8:=hid hW8;clear hW8
    go_wp2_with fail
    go_roundw
    case rel=>exact⟨n,Pp.left s,lf,rt++[Pp.right s],D1,HTD1,hid (by show s.level+1+n=bits;have:=HN.out;omega),HID1,hid (by rw[<-HWK.out,Pp.walk,zG HC.out]),hid (by have:=HLEN.out;simp;omega),HW8⟩
    case measure=>
     rw[Qig HW8.out.cur HTD1.out,Qig HW.out.cur HD.out];show bits-(s.level+1)<bits-s.level;have:=HN.out
     omega
   ·have hci:¬(pl:Int)<(Pp.start bits (Pp.right s):Int):=by omega
    have HC:=hid hc;clear hc;refine wW λK hK=>?_;go_simp;apply hK;clear hK K
    go_upto_region 7 with fail
    refine zA ?_;refine wW λK hK=>?_;go_simp;apply hK;clear hK K;refine wpList_load_row rfl 143 (.tmp 12) rfl (b1) rfl 143 D1 (0,0) _ (R1.out) Tryz.underlying143 rfl (by rw[seedInfo,HSD1.out]) ?_
    simp only[Act.put,sA,sB,sC];refine Qet rfl (.tmp 38) 139 143 rfl i0 z0 Tryz.underlying139 HI0.out HZ0.out D1 rfl (by rw[HSD1.out,HIS.out]) (by rw[HIS.out];decide) (by rw[HIS.out];decide) ?_
    simp only[Act.put,sA,sB,sC];have hW6:=HW5.out.alloc (.cells D1 143)
    obtain⟨v6,w6,hrun,hown,hgrow,hblk⟩:=Qfx (w5.alloc (.cells D1 143)) (wa+2) u10 lf hW6.lefts hW6.size w5.heap.size 1 (Pp.left s) HPD1.out (by have:=Qdl (Qaa w5 (.cells D1 143));rwa[HLD1.out] at this) (by have:=HLEN.out;omega)
    refine Qal rfl (.tmp 37) (.tmp 39) 139 139 139 rfl rfl u10 (.slice (some ⟨w5.heap.size,0,none⟩) 1 1) rfl rfl hrun ?_
    simp only[Act.put,sA,sB,sC];have hW7:=hW6.left hown hgrow hblk;have hg1:w6.heap[b1]?=some (.cells D1 143 (0,0)):=(hgrow.block b1 (by have:=zF R1.out;simp;omega) (λe=>by have:=HO10.out _ e.symm;omega)).trans ((Below.heap_alloc _ _ _ (zF R1.out)).trans R1.out)
    have hg2:w6.heap[b1+1]?=some (.cells D2 143 (0,0)):=(hgrow.block (b1+1) (by have:=zF R2.out;simp;omega) (λe=>by have:=HO10.out _ e.symm;omega)).trans ((Below.heap_alloc _ _ _ (zF R2.out)).trans R2.out)
    have HW7:=hid hW7;have G1:=hid hg1;have G2:=hid hg2;clear hW6 hW7 hg1 hg2 hrun hown hgrow hblk;refine wW λK hK=>?_;go_simp;apply hK;clear hK K
    go_upto_region 8 with fail
    refine zA ?_;refine wpList_load_row rfl 143 (.tmp 13) rfl (b1+1) rfl 143 D2 (0,0) _ (G2.out) Tryz.underlying143 rfl (by rw[seedInfo,HSD2.out]) ?_
    simp only[Act.put,sA,sB,sC];refine wpList_store_row rfl 143 _ _ rfl (wa) D2 rfl rfl 143 D (HW7.out.cur) (by rw[seedInfo,HSD2.out]) (by rw[HD34.out,HSD2.out]) (HAD2.out) ?_
    simp only[Act.put];have hW8:=HW7.out.setcur D2;have HW8:=hid hW8;clear hW8
    go_wp2_with fail
    go_roundw
    case rel=>exact⟨n,Pp.right s,lf++[Pp.left s],rt,D2,HTD2,hid (by show s.level+1+n=bits;have:=HN.out;omega),HID2,hid (by rw[<-HWK.out,Pp.walk,if_neg HC.out]),hid (by have:=HLEN.out;simp;omega),HW8⟩
    case measure=>
     rw[Qig HW8.out.cur HTD2.out,Qig HW.out.cur HD.out];show bits-(s.level+1)<bits-s.level;have:=HN.out
     omega
theorem Qcj (w:World):(Instr.alloc 23 true (.tuple #[])).run Tryz.prog w=.ok (.pointer (some ⟨w.heap.size,0,none⟩)) (w.alloc (.cells zY 23)):=by
 rw[<-Qao];kernel_rfl
theorem Qio {w:World}{b:Nat}{old:Array Value}{t:TypeId}(hr:w.heap[b]?=some (.cells old t (0,0)))(ho:old.size<=33){v:Value}{L:List Sd}(hL:∀s∈L,s.self.length=32)(h:Ss w v L)(cs:Array Value):Ss (w.setRow b cs) v L:=by
 obtain⟨ad,g,o,c,rfl,h1,h2⟩:=h;refine⟨ad,g,o,c,rfl,λi hi=>?_,h2⟩
 obtain⟨q1,q2,q3⟩:=h1 i hi
 have hne:g≠b:=by
  rintro rfl;have hl:(Pp.cells L[i]).length=34:=by simp[Pp.cells,bZ,hL _ (List.getElem_mem hi)]
  have h1:=q3 33 ((Pp.cells L[i])[33]'(by omega)) (List.getElem?_eq_getElem _)
  rw[cell_of_row w g _ _ _ _ hr,Array.getElem?_eq_none (by omega)] at h1
  cases h1
 exact⟨q1,by simpa [World.setRow] using q2,λj u hj=>by
  rw[<-q3 j u hj]
  exact World.cell?_of_block (w:=w) (a:=⟨g,o+i*34+j,none⟩) (setRow_other w b g cs hne)⟩
theorem Qwg (bits:Nat)(hb:bits<=32)(A B:List Sd)(s:Sd)(rb:Nat)(sl:Value)(pl:Nat)(w:World)(hR:RowIs w rb bits sl (A++s::B))(hG:Pp.Good bits (A++s::B))(hn:(A++s::B).length<1000000)(hp1:pl<2 ^ bits)(h1:Pp.start bits s<=pl)(h2:pl<Pp.stop bits s):
  Calls Tryz.prog 50 #[.pointer (some ⟨rb,0,none⟩),.pointer none,.int .i64 (pl:Int)] w λe w'=>e=.returned (.tuple #[.agg (bY (Pp.key (Pp.leaf bits pl (bits-s.level) s).self)).toArray,.int .i64 0])/\Kept w.heap.size w.heap.size w w':=by
 have hsin:Pp.In bits s:=hG.1 s (by simp)
 have hgs:(A++s::B)[A.length]?=some s:=by simp
 have hil:A.length<(A++s::B).length:=by simp
 have hge:(A++s::B)[A.length]=s:=by simp
 have hfind:∀w1,Kept w.heap.size w.heap.size w w1->Calls Tryz.prog 77 #[.pointer (some ⟨rb,0,none⟩),.int .i64 (pl:Int)] w1 λe w'=>e=.returned (.tuple #[.int .i64 (A.length:Int),.int .i64 0])/\Kept w1.heap.size w1.heap.size w1 w':=λw1 k=>by
  have:=Qu3 bits hb (A++s::B) rb sl (pl:Int) w1 (hR.kept k) hG (by omega) (by omega) (by omega) A.length hil (by rw[hge];omega) (by rw[hge];omega)
  exact this
 have hwalk:=λw1 h=>Qqf bits hb s hsin pl rb sl w1 h
 obtain⟨ad,g,o,c,rfl,hss,hcap⟩:=hR.2;obtain⟨had,hgl,hgr⟩:=hss A.length hil;subst had;rw[hge] at hgr;have hKL:(Pp.key (Pp.leaf bits pl (bits-s.level) s).self).length=32:=Qaw _;obtain⟨KD,hKD⟩:∃KD,KD=(bY (Pp.key (Pp.leaf bits pl (bits-s.level) s).self)).toArray:=⟨_,rfl⟩;have HKS:=hid (show KD.size=32 by rw[hKD,List.size_toArray,bZ];exact hKL)
 have HKA:=hid (show KD.all (·.oneCell')=true by rw[hKD];exact Qae _)
 have HKI:=hid (show(Tryz.prog.info? 23).map (·.size)=some KD.size by rw[HKS.out];kernel_rfl)
 simp only[<-hKD] at hwalk;rw[<-hKD];have hsi:(Tryz.prog.info? 143).map (·.size)=some (Pp.cells s).length:=by rw[seedInfo,Pp.cells_length hsin]
 obtain⟨ln,hln⟩:∃ln,ln=(A++s::B).length:=⟨_,rfl⟩;have hlt:(A.length:Int)<(ln:Int):=by omega
 have hln30:(ln:Int)<1000000:=by omega
 obtain⟨BES,hBES⟩:∃BES,BES=Pp.beside bits pl (bits-s.level) s:=⟨_,rfl⟩;simp only[<-hBES,<-hln] at hwalk;have HROW:=hid hR;simp only[<-hln] at HROW;have HFIND:=hid hfind;have HWALK:=hid hwalk;have HGR:=hid hgr;have HGL:=hid hgl;have HSI:=hid hsi;have HRBL:=hid (zF hR.1);obtain⟨D,hDD⟩:∃D,D=(Pp.cells s).toArray:=⟨_,rfl⟩;have HDD:=hid hDD.symm;rw[<-hDD] at HWALK;clear hDD hfind hwalk hgr hgl hsi hR hG hss hsin hgs hge hil hn hKL hKD hBES hln hcap hp1 h1 h2;generalize A.length=ia at hlt HFIND HGR |-
 go_enter Tryz.func50,Tryz.ntmps50
 go_upto_region 1 with fail
 rw[Qao];have k1:Kept w.heap.size w.heap.size w (w.alloc (.cells zY 23)):=zI.alloc (zB _) _
 have r1:(w.alloc (.cells zY 23)).heap[w.heap.size]?=some (.cells zY 23 (0,0)):=Qaa _ _
 generalize w.alloc (.cells zY 23)=w1 at k1 r1 |-
 have HK1:=hid k1;have R1:=hid r1;have HFF:=hid (HFIND.out w1 k1);obtain⟨wa,hwa⟩:∃wa,wa=w.heap.size:=⟨_,rfl⟩;rw[<-hwa] at R1 HK1 HRBL |-;have HWA:=hid hwa;clear k1 r1 hwa
 go_upto_region 4 with(go_at_call 77;refine HFF.out.mono ?_;rintro e w2 ⟨rfl,k2⟩)
 have hs1:wa<=w1.heap.size:=by have:=HK1.out.size;have:=HWA.out;omega
 have K2:=hid (HK1.out.trans (k2.mono hs1 (λi hi _=>zD (zC hi hs1))))
 have R2:=hid (rk R1.out k2);clear k2 hs1;have K2W:=hid (show Kept w.heap.size w.heap.size w w2 by rw[<-HWA.out];exact K2.out)
 have HROW2:=hid (HROW.out.kept K2W.out);have c1:=Qab HROW2.out.1;have hgr2:w2.rangeAt g (o+ia*34) (Pp.cells s):=Qaf K2W.out HGR.out HGL.out (zD HGL.out);have HGR2:=hid hgr2;clear hgr2;refine zA ?_;iterate 8(refine wW λK hK=>?_;go_simp;apply hK;clear hK K)
 refine wpList_load_mid rfl 143 (.tmp 30) rfl g (o+ia*34) rfl (Pp.cells s) _ HGR2.out Tryz.underlying143 rfl HSI.out ?_
 simp only[Act.put,sA,sB,sC];rw[HDD.out];refine wW λK hK=>?_;go_simp;apply hK;clear hK K;refine wW λK hK=>?_;go_simp;go_at_call 78
 refine(HWALK.out w2 HROW2.out.1).mono ?_;rintro e w3 ⟨v,rfl,hv3,k3⟩;apply hK;clear hK K;have hs2:wa<=w2.heap.size:=by have:=zF R2.out;omega
 have K3:=hid (K2.out.trans (k3.mono hs2 (λi hi _=>zD (zC hi hs2))))
 have R3:=hid (rk R2.out k3);have HROW3:=hid (HROW2.out.kept k3);have HV3:=hid hv3;clear k3 hs2 hv3 c1;iterate 3(refine wW λK hK=>?_;go_simp;apply hK;clear hK K)
 refine Qa8 rfl 23 rfl (Qcj _) ?_
 simp only[Act.put,sA,sB,sC];have hR4:(w3.alloc (.cells zY 23)).heap[w3.heap.size]?=some (.cells zY 23 (0,0)):=Qaa _ _
 have hk4:Kept w3.heap.size w3.heap.size w3 (w3.alloc (.cells zY 23)):=zI.alloc (zB _) _
 have hs3:wa<w3.heap.size:=zF R3.out;obtain⟨wb,hwb⟩:∃wb,wb=w3.heap.size:=⟨_,rfl⟩;generalize w3.alloc (.cells zY 23)=w4 at hR4 hk4 |-
 have K4:=hid (K3.out.trans (hk4.mono (Nat.le_of_lt hs3) (λi hi _=>by omega)))
 have R4:=hid ((hk4.block wa hs3 (zD hs3)).trans R3.out);have HROW4:=hid (HROW3.out.kept hk4);have HV4:=hid (HV3.out.kept hk4);rw[<-hwb] at hR4 |-;have Q4:=hid hR4;have HWB:=hid (show wa<wb by omega)
 have HWRB:=hid (show rb<wb by have:=HRBL.out;omega)
 clear hR4 hk4 hs3 hwb HROW3 HV3;refine wpList_store_row rfl 23 _ _ rfl (wb) KD rfl rfl 23 zY (Q4.out) (HKI.out) (by rw[Qah,HKS.out]) (HKA.out) ?_
 simp only[Act.put];have K5:=hid (K4.out.trans (w3:=w4.setRow wb KD) ⟨rfl,rfl,rfl,by simp[World.setRow],λk hk _=>setRow_other w4 wb k KD (by have:=HWB.out;omega)⟩)
 have R5:=hid ((setRow_other w4 wb wa KD (by have:=HWB.out;omega)).trans R4.out)
 have Q5:=hid (setRow_heap w4 wb zY KD _ _ Q4.out);generalize w4.setRow wb KD=w5 at K5 R5 Q5 |-;refine wW λK hK=>?_;go_simp;apply hK;clear hK K
 go_upto_region 5 with fail
 refine zA ?_;refine wpList_load_row rfl 23 (.tmp 10) rfl (wb) rfl 23 KD (0,0) _ (Q5.out) Tryz.underlying23 rfl (HKI.out) ?_
 simp only[Act.put,sA,sB,sC];refine wpList_store_row rfl 23 _ _ rfl (wa) KD rfl rfl 23 zY (R5.out) (HKI.out) (by rw[Qah,HKS.out]) (HKA.out) ?_
 simp only[Act.put]
 have k6:Kept w.heap.size w.heap.size w (w5.setRow wa KD):=by
  rw[<-HWA.out];exact K5.out.trans ⟨rfl,rfl,rfl,by simp[World.setRow],λk hk _=>setRow_other w5 wa k KD (by omega)⟩
 have r6:=setRow_heap w5 wa zY KD _ _ R5.out;generalize w5.setRow wa KD=w6 at k6 r6 |-;have K6:=hid k6;have R6:=hid r6;clear k6 r6;refine wW λK hK=>?_;go_simp;apply hK;clear hK K;go_wp2;refine Qfa rfl wa KD rfl R6.out HKS.out rfl ?_;exact⟨rfl,K6.out⟩
theorem Qtv (bits:Nat)(hb:bits<=32)(A B:List Sd)(s:Sd)(rb:Nat)(sl:Value)(pl:Nat)(w:World)(hR:RowIs w rb bits sl (A++s::B))(hG:Pp.Good bits (A++s::B))(hn:(A++s::B).length<1000000)(hp1:pl<2 ^ bits)(h1:Pp.start bits s<=pl)(h2:pl<Pp.stop bits s):
  Calls Tryz.prog 44 #[.pointer (some ⟨rb,0,none⟩),.pointer none,.int .i64 (pl:Int)] w λe w'=>e=.returned (.tuple #[.agg (bY (Pp.key (Pp.leaf bits pl (bits-s.level) s).self)).toArray,.int .i64 0])/\∃sl',RowIs w' rb bits sl' (A++Pp.beside bits pl (bits-s.level) s++B)/\Kept w.heap.size rb w w'/\Near w sl sl':=by
 have hsin:Pp.In bits s:=hG.1 s (by simp)
 have hgs:(A++s::B)[A.length]?=some s:=by simp
 have hil:A.length<(A++s::B).length:=by simp
 have hge:(A++s::B)[A.length]=s:=by simp
 have hfind:∀w1,Kept w.heap.size w.heap.size w w1->Calls Tryz.prog 77 #[.pointer (some ⟨rb,0,none⟩),.int .i64 (pl:Int)] w1 λe w'=>e=.returned (.tuple #[.int .i64 (A.length:Int),.int .i64 0])/\Kept w1.heap.size w1.heap.size w1 w':=λw1 k=>by
  have:=Qu3 bits hb (A++s::B) rb sl (pl:Int) w1 (hR.kept k) hG (by omega) (by omega) (by omega) A.length hil (by rw[hge];omega) (by rw[hge];omega)
  exact this
 have hwalk:=λw1 h=>Qqf bits hb s hsin pl rb sl w1 h
 obtain⟨ad,g,o,c,rfl,hss,hcap⟩:=hR.2;obtain⟨had,hgl,hgr⟩:=hss A.length hil;subst had;rw[hge] at hgr;have hKL:(Pp.key (Pp.leaf bits pl (bits-s.level) s).self).length=32:=Qaw _;obtain⟨KD,hKD⟩:∃KD,KD=(bY (Pp.key (Pp.leaf bits pl (bits-s.level) s).self)).toArray:=⟨_,rfl⟩;have HKS:=hid (show KD.size=32 by rw[hKD,List.size_toArray,bZ];exact hKL)
 have HKA:=hid (show KD.all (·.oneCell')=true by rw[hKD];exact Qae _)
 have HKI:=hid (show(Tryz.prog.info? 23).map (·.size)=some KD.size by rw[HKS.out];kernel_rfl)
 simp only[<-hKD] at hwalk;rw[<-hKD];have hsi:(Tryz.prog.info? 143).map (·.size)=some (Pp.cells s).length:=by rw[seedInfo,Pp.cells_length hsin]
 obtain⟨ln,hln⟩:∃ln,ln=(A++s::B).length:=⟨_,rfl⟩;have hlt:(A.length:Int)<(ln:Int):=by omega
 have hln30:(ln:Int)<1000000:=by omega
 obtain⟨BES,hBES⟩:∃BES,BES=Pp.beside bits pl (bits-s.level) s:=⟨_,rfl⟩;simp only[<-hBES,<-hln] at hwalk;have hbl:BES.length<=32:=by rw[hBES,Pp.beside_length];omega
 have hbg:=(Pp.beside_good bits pl (bits-s.level) s hsin (by have:=hsin.1;omega)).1
 rw[<-hBES] at hbg |-;have HREP:=hid (λ(w1:World) (v:Value) (hr:RowIs w1 rb bits (.slice (some ⟨g,o,none⟩) (A++s::B).length c) (A++s::B)) (hv:Ss w1 v BES)=>Qlr bits A B BES s (λx hx=>(hG.1 x (by simp[hx])).2.2) (λx hx=>(hbg.1 x hx).2.2) (λx hx=>(hG.1 x (by simp[hx])).2.2) rb _ v w1 hr hv (by simp at hn;omega))
 have HALL:=hid (show ∀x∈A++BES++B,x.self.length=32 from λx hx=>by
  simp only[List.mem_append] at hx
  rcases hx with(hx|hx)|hx
  ·exact(hG.1 x (by simp[hx])).2.2
  ·exact(hbg.1 x hx).2.2
  ·exact(hG.1 x (by simp[hx])).2.2)
 have HBALL:=hid (show ∀x∈BES,x.self.length=32 from λx hx=>(hbg.1 x hx).2.2)
 have HLALL:=hid (show ∀x∈A++s::B,x.self.length=32 from λx hx=>(hG.1 x hx).2.2)
 clear hbl hbg;have HROW:=hid hR;simp only[<-hln] at HROW HREP;have HFIND:=hid hfind;have HWALK:=hid hwalk;have HGR:=hid hgr;have HGL:=hid hgl;have HSI:=hid hsi;have HRBL:=hid (zF hR.1);obtain⟨D,hDD⟩:∃D,D=(Pp.cells s).toArray:=⟨_,rfl⟩;have HDD:=hid hDD.symm;rw[<-hDD] at HWALK;clear hDD hfind hwalk hgr hgl hsi hR hG hss hsin hgs hge hil hn hKL hKD hBES hln hcap hp1 h1 h2;generalize A.length=ia at hlt HFIND HGR HREP |-
 go_enter Tryz.func44,Tryz.ntmps44
 go_upto_region 1 with fail
 rw[Qao];have k1:Kept w.heap.size w.heap.size w (w.alloc (.cells zY 23)):=zI.alloc (zB _) _
 have r1:(w.alloc (.cells zY 23)).heap[w.heap.size]?=some (.cells zY 23 (0,0)):=Qaa _ _
 generalize w.alloc (.cells zY 23)=w1 at k1 r1 |-
 have HK1:=hid k1;have R1:=hid r1;have HFF:=hid (HFIND.out w1 k1);obtain⟨wa,hwa⟩:∃wa,wa=w.heap.size:=⟨_,rfl⟩;rw[<-hwa] at R1 HK1 HRBL |-;have HWA:=hid hwa;clear k1 r1 hwa
 go_upto_region 4 with(go_at_call 77;refine HFF.out.mono ?_;rintro e w2 ⟨rfl,k2⟩)
 have hs1:wa<=w1.heap.size:=by have:=HK1.out.size;have:=HWA.out;omega
 have K2:=hid (HK1.out.trans (k2.mono hs1 (λi hi _=>zD (zC hi hs1))))
 have R2:=hid (rk R1.out k2);clear k2 hs1;have K2W:=hid (show Kept w.heap.size w.heap.size w w2 by rw[<-HWA.out];exact K2.out)
 have HROW2:=hid (HROW.out.kept K2W.out);have c1:=Qab HROW2.out.1;have hgr2:w2.rangeAt g (o+ia*34) (Pp.cells s):=Qaf K2W.out HGR.out HGL.out (zD HGL.out);have HGR2:=hid hgr2;clear hgr2;refine zA ?_;iterate 8(refine wW λK hK=>?_;go_simp;apply hK;clear hK K)
 refine wpList_load_mid rfl 143 (.tmp 30) rfl g (o+ia*34) rfl (Pp.cells s) _ HGR2.out Tryz.underlying143 rfl HSI.out ?_
 simp only[Act.put,sA,sB,sC];rw[HDD.out];refine wW λK hK=>?_;go_simp;apply hK;clear hK K;refine wW λK hK=>?_;go_simp;go_at_call 78
 refine(HWALK.out w2 HROW2.out.1).mono ?_;rintro e w3 ⟨v,rfl,hv3,k3⟩;apply hK;clear hK K;have hs2:wa<=w2.heap.size:=by have:=zF R2.out;omega
 have K3:=hid (K2.out.trans (k3.mono hs2 (λi hi _=>zD (zC hi hs2))))
 have R3:=hid (rk R2.out k3);have HROW3:=hid (HROW2.out.kept k3);have HV3:=hid hv3;clear k3 hs2 hv3 c1;iterate 3(refine wW λK hK=>?_;go_simp;apply hK;clear hK K)
 refine Qa8 rfl 23 rfl (Qcj _) ?_
 simp only[Act.put,sA,sB,sC];have hR4:(w3.alloc (.cells zY 23)).heap[w3.heap.size]?=some (.cells zY 23 (0,0)):=Qaa _ _
 have hk4:Kept w3.heap.size w3.heap.size w3 (w3.alloc (.cells zY 23)):=zI.alloc (zB _) _
 have hs3:wa<w3.heap.size:=zF R3.out;obtain⟨wb,hwb⟩:∃wb,wb=w3.heap.size:=⟨_,rfl⟩;generalize w3.alloc (.cells zY 23)=w4 at hR4 hk4 |-
 have K4:=hid (K3.out.trans (hk4.mono (Nat.le_of_lt hs3) (λi hi _=>by omega)))
 have R4:=hid ((hk4.block wa hs3 (zD hs3)).trans R3.out);have HROW4:=hid (HROW3.out.kept hk4);have HV4:=hid (HV3.out.kept hk4);rw[<-hwb] at hR4 |-;have Q4:=hid hR4;have HWB:=hid (show wa<wb by omega)
 have HWRB:=hid (show rb<wb by have:=HRBL.out;omega)
 clear hR4 hk4 hs3 hwb HROW3 HV3;refine wpList_store_row rfl 23 _ _ rfl (wb) KD rfl rfl 23 zY (Q4.out) (HKI.out) (by rw[Qah,HKS.out]) (HKA.out) ?_
 simp only[Act.put];have K5:=hid (K4.out.trans (w3:=w4.setRow wb KD) ⟨rfl,rfl,rfl,by simp[World.setRow],λk hk _=>setRow_other w4 wb k KD (by have:=HWB.out;omega)⟩)
 have R5:=hid ((setRow_other w4 wb wa KD (by have:=HWB.out;omega)).trans R4.out)
 have Q5:=hid (setRow_heap w4 wb zY KD _ _ Q4.out);have HV5:=hid (Qio Q4.out (by rw[Qah];decide) HBALL.out HV4.out KD)
 have HROW5:Hid (RowIs (w4.setRow wb KD) rb bits (.slice (some ⟨g,o,none⟩) ln c) (A++s::B)):=hid ⟨(setRow_other w4 wb rb KD (by have:=HWRB.out;omega)).trans HROW4.out.1,Qio Q4.out (by rw[Qah];decide) HLALL.out HROW4.out.2 KD⟩
 generalize w4.setRow wb KD=w5 at K5 R5 Q5 HV5 HROW5 |-;refine wW λK hK=>?_;go_simp;apply hK;clear hK K
 go_upto_region 5 with fail
 refine zA ?_;iterate 3(refine wW λK hK=>?_;go_simp;apply hK;clear hK K)
 refine wW λK hK=>?_;go_simp;go_at_call 79
 refine(HREP.out w5 v HROW5.out HV5.out).mono ?_;rintro e w6 ⟨rfl,sl',hr6,k6,hn6⟩;apply hK;clear hK K;have hsw:wa<w5.heap.size:=zF R5.out;have R6:=hid ((k6.block wa hsw (by have:=HRBL.out;omega)).trans R5.out)
 have Q6:=hid ((k6.block wb (zF Q5.out) (by have:=HWRB.out;omega)).trans Q5.out)
 have K6:Hid (Kept wa rb w w6):=hid ((K5.out.mono (zB _) (λk hk _=>zD hk)).trans (k6.mono (Nat.le_of_lt hsw) (λk _ hk=>hk)))
 have HR6:=hid hr6;have HN6:=hid (hn6.low (w:=w) (by have:=K5.out.size;have:=HWA.out;omega))
 clear k6 hr6 hsw hn6
 go_upto_region 6 with fail
 refine zA ?_;refine wpList_load_row rfl 23 (.tmp 10) rfl (wb) rfl 23 KD (0,0) _ (Q6.out) Tryz.underlying23 rfl (HKI.out) ?_
 simp only[Act.put,sA,sB,sC];refine wpList_store_row rfl 23 _ _ rfl (wa) KD rfl rfl 23 zY (R6.out) (HKI.out) (by rw[Qah,HKS.out]) (HKA.out) ?_
 simp only[Act.put]
 have k7:Kept w.heap.size rb w (w6.setRow wa KD):=by
  rw[<-HWA.out];exact K6.out.trans ⟨rfl,rfl,rfl,by simp[World.setRow],λk hk _=>setRow_other w6 wa k KD (by omega)⟩
 have r7:=setRow_heap w6 wa zY KD _ _ R6.out;have hr7:RowIs (w6.setRow wa KD) rb bits sl' (A++BES++B):=⟨(setRow_other w6 wa rb KD (by have:=HRBL.out;omega)).trans HR6.out.1,Qio R6.out (by rw[Qah];decide) HALL.out HR6.out.2 KD⟩
 generalize w6.setRow wa KD=w7 at k7 r7 hr7 |-;have K7:=hid k7;have R7:=hid r7;have HR7:=hid hr7;clear k7 r7 hr7;refine wW λK hK=>?_;go_simp;apply hK;clear hK K;go_wp2;refine Qfa rfl wa KD rfl R7.out HKS.out rfl ?_;exact⟨rfl,sl',HR7.out,K7.out,HN6.out⟩
namespace Pp
def Has (bits:Nat)(s:Sd)(p:Nat):Prop:=start bits s<=p/\p<stop bits s
def z32:List UInt8:=List.replicate 32 0
inductive Took (bits:Nat) (L:List Sd) (pl:Int):List Sd->List UInt8->Int->Prop
 | out:(pl<0\/((2 ^ bits:Nat):Int)<=pl)->Took bits L pl L z32 1
 | gone (p:Nat):pl=(p:Int)->p<2 ^ bits->(∀s∈L,¬Has bits s p)->Took bits L pl L z32 10
 | took (A B:List Sd) (s:Sd) (p:Nat):pl=(p:Int)->p<2 ^ bits->L=A++s::B->Has bits s p->Took bits L pl (A++beside bits p (bits-s.level) s++B) (key (leaf bits p (bits-s.level) s).self) 0
def KeyAt (bits:Nat)(L:List Sd)(p:Nat)(k:List UInt8):Prop:=∃s∈L,Has bits s p/\k=key (leaf bits p (bits-s.level) s).self
theorem has_or (bits:Nat)(L:List Sd)(p:Nat):(∃A B s,L=A++s::B/\Has bits s p)\/∀s∈L,¬Has bits s p:=by
 by_cases h:∃s∈L,Has bits s p
 ·obtain⟨s,hs,hp⟩:=h
  obtain⟨A,B,e⟩:=List.append_of_mem hs;exact .inl ⟨A,B,s,e,hp⟩
 ·exact .inr λs hs hp=>h ⟨s,hs,hp⟩
theorem Qwo {bits:Nat}{s:Sd}{p:Nat}(hl:s.level<bits)(h:Has bits s p)(hp:p<start bits (right s)):Has bits (left s) p:=⟨by rw[Qfj hl];exact h.1,by rw[Qd9];exact hp⟩
theorem Qux {bits:Nat}{s:Sd}{p:Nat}(hl:s.level<bits)(h:Has bits s p)(hp:¬p<start bits (right s)):Has bits (right s) p:=⟨by omega,by rw[Qfh hl];exact h.2⟩
theorem Qhk (bits p:Nat):∀(n:Nat) (s:Sd),In bits s->s.level+n=bits->Has bits s p->∀x∈beside bits p n s,¬Has bits x p
 | 0,_,_,_,_=>λ_ h=>nomatch h
 | n+1,s,hs,hn,hp=>by
  have hl:s.level<bits:=by omega
  unfold beside
  split
  ·rename_i h
   intro x hx
   rcases List.mem_append.1 hx with hx|hx
   ·exact Qhk bits p n _ (left_in hs hl) (show s.level+1+n=bits by omega) (Qwo hl hp h) x hx
   ·rw[List.mem_singleton.1 hx]
    intro hh;have:=hh.1
    omega
  ·rename_i h
   intro x hx
   rcases List.mem_cons.1 hx with hx|hx
   ·rw[hx]
    intro hh;have:=hh.2;rw[Qd9] at this;exact h this
   ·exact Qhk bits p n _ (right_in hs hl) (show s.level+1+n=bits by omega) (Qux hl hp h) x hx
theorem Qqx {bits:Nat}{A B:List Sd}{s:Sd}{p:Nat}(h:Good bits (A++s::B))(hp:Has bits s p):(∀t∈A,¬Has bits t p)/\∀t∈B,¬Has bits t p:=by
 obtain⟨pA,pB,pAB⟩:=List.pairwise_append.1 h.2;obtain⟨psB,_⟩:=List.pairwise_cons.1 pB;refine⟨λt ht hh=>?_,λt ht hh=>?_⟩
 ·have:=pAB t ht s (by simp)
  have:=hh.2;have:=hp.1
  omega
 ·have:=psB t ht
  have:=hh.1;have:=hp.2
  omega
theorem Took.good {bits:Nat}{L L':List Sd}{pl er:Int}{k:List UInt8}(h:Took bits L pl L' k er)(hG:Good bits L):Good bits L'/\L'.length<=L.length+bits:=by
 cases h with
 | out _=>exact⟨hG,by omega⟩
 | gone _ _ _ _=>exact⟨hG,by omega⟩
 | took A B s p h1 h2 h3 h4=>
  subst h3;have hin:In bits s:=hG.1 s (by simp)
  have hb:=beside_good bits p (bits-s.level) s hin (by have:=hin.1;omega)
  refine⟨Qnp hG hb.1 hb.2,?_⟩;simp[beside_length]
  omega
theorem Took.mine {bits:Nat}{L L':List Sd}{er:Int}{k:List UInt8}{p:Nat}(h:Took bits L (p:Int) L' k er)(hG:Good bits L)(hp:p<2 ^ bits):∀s∈L',¬Has bits s p:=by
 cases h with
 | out h=>omega
 | gone q h1 _ h3=>
  obtain rfl:p=q:=by omega
  exact h3
 | took A B s q h1 h2 h3 h4=>
  obtain rfl:p=q:=by omega
  subst h3;have hin:In bits s:=hG.1 s (by simp)
  obtain⟨o1,o2⟩:=Qqx hG h4;intro x hx;simp only[List.mem_append] at hx
  rcases hx with(hx|hx)|hx
  ·exact o1 x hx
  ·exact Qhk bits p _ s hin (by have:=hin.1;omega) h4 x hx
  ·exact o2 x hx
theorem KeyAt.one {bits:Nat}{L:List Sd}{p:Nat}{k m:List UInt8}(hG:Good bits L)(h1:KeyAt bits L p k)(h2:KeyAt bits L p m):k=m:=by
 obtain⟨s,hs,hp,rfl⟩:=h1;obtain⟨t,ht,hq,rfl⟩:=h2;obtain⟨A,B,rfl⟩:=List.append_of_mem hs;obtain⟨o1,o2⟩:=Qqx hG hp;simp only[List.mem_append,List.mem_cons] at ht
 rcases ht with ht|ht|ht
 ·exact absurd hq (o1 t ht)
 ·rw[ht]
 ·exact absurd hq (o2 t ht)
end Pp
theorem Qdq:zY = (bY Pp.z32).toArray:=by rfl
theorem RowIs.keptBut {w w':World}{rb r2 bits b2:Nat}{sl s2:Value}{L M:List Sd}(h:RowIs w r2 b2 s2 M)(hM:∀s∈M,s.self.length=32)(hr:RowIs w rb bits sl L)(hne:r2≠rb)(k:Kept w.heap.size rb w w'):RowIs w' r2 b2 s2 M:=by
 refine⟨(k.block r2 (zF h.1) hne).trans h.1,?_⟩;obtain⟨ad,g,o,c,rfl,h1,h2⟩:=h.2;refine⟨ad,g,o,c,rfl,λi hi=>?_,h2⟩
 obtain⟨q1,q2,q3⟩:=h1 i hi;exact⟨q1,zC q2 k.size,Qaf k q3 q2 (Qiq (hM _ (List.getElem_mem hi)) hr.1 q3)⟩
theorem Qqn (bits:Nat)(hb:bits<=32)(L:List Sd)(rb:Nat)(sl:Value)(pl:Int)(w:World)(hR:RowIs w rb bits sl L)(hG:Pp.Good bits L)(hn:L.length<1000000):
  Calls Tryz.prog 50 #[.pointer (some ⟨rb,0,none⟩),.pointer none,.int .i64 pl] w λe w'=>∃L' k er,e=.returned (.tuple #[.agg (bY k).toArray,.int .i64 er])/\Pp.Took bits L pl L' k er/\Kept w.heap.size w.heap.size w w':=by
 by_cases h:pl<0\/((2 ^ bits:Nat):Int)<=pl
 ·refine(Quq (some ⟨rb,0,none⟩) (.pointer none) pl 0 1 (by decide) w (λw2 k=>Qq1 bits hb L rb sl pl w2 (hR.kept k) h)).mono ?_
  rintro e w' ⟨rfl,k⟩;exact⟨L,Pp.z32,1,by rw[Qdq],.out h,k⟩
 ·obtain⟨p,rfl⟩:∃p:Nat,pl=(p:Int):=⟨pl.toNat,by omega⟩
  have hp:p<2 ^ bits:=by omega
  rcases Pp.has_or bits L p with⟨A,B,s,rfl,hs⟩|hnone
  ·refine(Qwg bits hb A B s rb sl p w hR hG hn hp hs.1 hs.2).mono ?_
   rintro e w' ⟨rfl,k⟩;exact⟨_,_,_,rfl,.took A B s p rfl hp rfl hs,k⟩
  ·refine(Quq (some ⟨rb,0,none⟩) (.pointer none) p 0 10 (by decide) w (λw2 k=>Qns bits hb L rb sl p w2 (hR.kept k) hG (by omega) (by omega) (by omega) (λi hi hh=>hnone _ (List.getElem_mem hi) ⟨by omega,by omega⟩))).mono ?_
   rintro e w' ⟨rfl,k⟩;exact⟨L,Pp.z32,10,by rw[Qdq],.gone p rfl hp hnone,k⟩
theorem Qei (bits:Nat)(hb:bits<=32)(L:List Sd)(rb:Nat)(sl:Value)(pl:Int)(w:World)(hR:RowIs w rb bits sl L)(hG:Pp.Good bits L)(hn:L.length<1000000):
  Calls Tryz.prog 44 #[.pointer (some ⟨rb,0,none⟩),.pointer none,.int .i64 pl] w λe w'=>∃L' k er,e=.returned (.tuple #[.agg (bY k).toArray,.int .i64 er])/\Pp.Took bits L pl L' k er/\∃sl',RowIs w' rb bits sl' L'/\Kept w.heap.size rb w w'/\Near w sl sl':=by
 have hrb:=zF hR.1
 by_cases h:pl<0\/((2 ^ bits:Nat):Int)<=pl
 ·refine(Qtu (some ⟨rb,0,none⟩) (.pointer none) pl 0 1 (by decide) w (λw2 k=>Qq1 bits hb L rb sl pl w2 (hR.kept k) h)).mono ?_
  rintro e w' ⟨rfl,k⟩;exact⟨L,Pp.z32,1,by rw[Qdq],.out h,sl,hR.kept k,k.mono (zB _) (λi hi _=>zD hi),Near.refl _ _⟩
 ·obtain⟨p,rfl⟩:∃p:Nat,pl=(p:Int):=⟨pl.toNat,by omega⟩
  have hp:p<2 ^ bits:=by omega
  rcases Pp.has_or bits L p with⟨A,B,s,rfl,hs⟩|hnone
  ·refine(Qtv bits hb A B s rb sl p w hR hG hn hp hs.1 hs.2).mono ?_
   rintro e w' ⟨rfl,sl',hr,k,hn'⟩;exact⟨_,_,_,rfl,.took A B s p rfl hp rfl hs,sl',hr,k,hn'⟩
  ·refine(Qtu (some ⟨rb,0,none⟩) (.pointer none) p 0 10 (by decide) w (λw2 k=>Qns bits hb L rb sl p w2 (hR.kept k) hG (by omega) (by omega) (by omega) (λi hi hh=>hnone _ (List.getElem_mem hi) ⟨by omega,by omega⟩))).mono ?_
   rintro e w' ⟨rfl,k⟩;exact⟨L,Pp.z32,10,by rw[Qdq],.gone p rfl hp hnone,sl,hR.kept k,k.mono (zB _) (λi hi _=>zD hi),Near.refl _ _⟩
theorem row_take (bits:Nat)(hb:bits<=32)(L:List Sd)(rb:Nat)(sl:Value)(pl:Int)(w:World)(hR:RowIs w rb bits sl L)(hG:Pp.Good bits L)(hn:L.length<1000000):
  Calls Tryz.prog 44 #[.pointer (some ⟨rb,0,none⟩),.pointer none,.int .i64 pl] w λe w'=>∃L' k er,e=.returned (.tuple #[.agg (bY k).toArray,.int .i64 er])/\Pp.Took bits L pl L' k er/\∃sl',RowIs w' rb bits sl' L'/\Kept w.heap.size rb w w':=by
 refine(Qei bits hb L rb sl pl w hR hG hn).mono ?_;rintro e w' ⟨L',k,er,he,ht,sl',hr,kk,_⟩;exact⟨L',k,er,he,ht,sl',hr,kk⟩
end Go.Proofs.YtnlbgggnpoeleaaGreatDoor
