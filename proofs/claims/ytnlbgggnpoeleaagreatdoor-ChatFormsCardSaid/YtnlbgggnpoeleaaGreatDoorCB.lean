/-
 ChatMem; ChatAt: several texts in one.
-/
import Derived.Test.YtnlbgggnpoeleaaGreatDoorEC
set_option maxRecDepth 100000
set_option maxHeartbeats 6400000
namespace Go.Proofs.YtnlbgggnpoeleaaGreatDoor
open Go.RowKit Go.Lib
open List renaming setIfInBounds_toArray -> sA, set_cons_zero -> sB, set_cons_succ -> sC
open BigFrame renaming wpList_want -> wQ
theorem OwnC.frm14 {w w':World}{b:Nat}{T:TypeId}{n:Nat}{v:Value}{R:List (List Value)}(h:OwnC w b T n v R)(hb:∀k,v.ownBlock=some k->k<w.heap.size->w'.heap[k]?=w.heap[k]?):OwnC w' b T n v R:=by
 refine⟨h.1,h.2.1,?_⟩
 rcases h.2.2 with h1|⟨g,cap,cur,h1,h2,h3,h4⟩
 ·exact .inl h1
 ·exact .inr ⟨g,cap,cur,h1,h2,(hb g (by rw[h1];rfl) (zF h3)).trans h3,h4⟩
theorem Qr6 {w w':World}{b:Nat}{T:TypeId}{n m:Nat}{v:Value}{R:List Value}(h:w.ownsRow b T n v m R)(hb:∀k,v.ownBlock=some k->k<w.heap.size->w'.heap[k]?=w.heap[k]?):w'.ownsRow b T n v m R:=by
 refine⟨h.1,?_⟩
 rcases h.2 with h1|⟨g,cap,cur,h1,h2,h3,h4⟩
 ·exact .inl h1
 ·exact .inr ⟨g,cap,cur,h1,h2,(hb g (by rw[h1];rfl) (zF h3)).trans h3,h4⟩
theorem Mine.frm14 {B B':Nat->Prop}{w w':World}{lv pv:Value}{L:List Lf}{P:List Pr}{SL:List Value}(h:Mine B w lv pv L P SL)(hf:∀k,k<w.heap.size->¬B k->w'.heap[k]?=w.heap[k]?)(hb:∀k,k<w.heap.size->B' k->B k)(hn:∀k,B' k->k<w'.heap.size):Mine B' w' lv pv L P SL:=
 have hs:∀t∈SL,∀g,t.ownBlock=some g->g<w.heap.size:=λt ht g e=>by
  obtain⟨i,hi,rfl⟩:=List.getElem_of_mem ht;have hp:i<P.length:=by rw[<-h.len];exact hi
  exact(World.ownsRow.lt (h.so i P[i] SL[i] (List.getElem?_eq_getElem hp) (List.getElem?_eq_getElem hi)) g e).2
 { h with
   lo:=h.lo.frm14 λk e hk=>hf k hk (h.ol k e)
   po:=h.po.frm14 λk e hk=>hf k hk (h.op k e)
   so:=λi p s hp hss=>Qr6 (h.so i p s hp hss) λk e hk=>hf k hk (h.os s (List.mem_of_getElem? hss) k e)
   ol:=λg e b=>h.ol g e (hb g (h.lo.2.lt g e).2 b)
   op:=λg e b=>h.op g e (hb g (h.po.2.lt g e).2 b)
   os:=λt ht g e b=>h.os t ht g e (hb g (hs t ht g e) b)
   bnd:=hn }
theorem RowIs.frm14 {w w':World}{rb bits:Nat}{sl:Value}{Ls:List Sd}(h:RowIs w rb bits sl Ls)(hz:w.heap.size<=w'.heap.size)(h1:w'.heap[rb]?=w.heap[rb]?)(h2:∀k,sl.ownBlock=some k->Ls≠[]->k<w.heap.size->w'.heap[k]?=w.heap[k]?):RowIs w' rb bits sl Ls:=by
 refine⟨h1.trans h.1,?_⟩;obtain⟨ad,g',o,c,rfl,q,hc⟩:=h.2;refine⟨ad,g',o,c,rfl,λi hi=>?_,hc⟩
 obtain⟨q1,q2,q3⟩:=q i hi;exact⟨q1,zC q2 hz,λj v hv=>(World.cell?_of_block (w:=w) (h2 g' (by rw[q1];rfl) (λe=>by rw[e] at hi;exact absurd hi (Nat.not_lt_zero _)) q2)).trans (q3 j v hv)⟩
def Loc (base eb hi:Nat)(X:Nat->Prop)(sl:Value)(Ls:List Sd):Prop:=∀k,sl.ownBlock=some k->Ls≠[]->(base<=k/\k<eb)\/(hi<k/\¬X k)
theorem RowIs.own_lt {w:World}{rb bits:Nat}{sl:Value}{Ls:List Sd}(h:RowIs w rb bits sl Ls)(hne:Ls≠[]):∀k,sl.ownBlock=some k->k<w.heap.size:=λk e=>by
 obtain⟨ad,g',o,c,rfl,q,_⟩:=h.2;obtain⟨q1,q2,_⟩:=q 0 (List.length_pos_iff.2 hne);rw[q1] at e
 cases e
 exact q2
structure Lay where
 lo:Nat
 lv:Value
 pv:Value
 ib:Nat
 si:Value
 g:Nat
 R:List (Option Nat)
structure EraSt (w:World) (base eb hi:Nat) (X:Nat->Prop) (y:Lay) (f:Fm) (L:List Lf) (P:List Pr) (me forks sent:Int) (ex:List UInt8) (S0:List Sd) (S:Nat->List Sd):Prop where
 cells:w.heap[eb]?=some (.cells (ecells (f.cells y.lv y.pv) me (.slice none 0 0) (.pointer (some ⟨y.ib,0,none⟩)) forks (.slice (some ⟨y.g,0,none⟩) L.length L.length) sent ex).toArray 97 (0,0))
 ord:base<=y.lo/\y.lo<=y.ib/\y.ib<y.g/\y.g<eb/\eb<=hi/\hi<w.heap.size
 tree:∃SL,Mine (λi=>i<base\/(y.lo<=i/\i<w.heap.size)) w y.lv y.pv L P SL
 init:RowIs w y.ib 32 y.si S0
 iloc:Loc base eb hi X y.si S0
 xb:∀k,X k->k<w.heap.size
 own:OwnC w 0 94 1 (.slice (some ⟨y.g,0,none⟩) L.length L.length) (y.R.map λo=>[rptr o])
 len:y.R.length=L.length
 blank:∀(j:Nat) (hj:j<L.length),(y.R[j]?=some none↔(L[j]'hj).name=0)
 row:∀(j rb:Nat),y.R[j]?=some (some rb)->y.g<rb/\rb<eb/\∃sl,RowIs w rb 8 sl (S j)/\Loc base eb hi X sl (S j)
 apart:∀i j rb:Nat,y.R[i]?=some (some rb)->y.R[j]?=some (some rb)->i=j
section
variable {w w':World} {base eb hi:Nat} {X:Nat->Prop} {y:Lay} {f:Fm} {L:List Lf} {P:List Pr} {me forks sent:Int} {ex:List UInt8} {S0:List Sd} {S:Nat->List Sd}
theorem EraSt.far (h:EraSt w base eb hi X y f L P me forks sent ex S0 S)(hz:w.heap.size<=w'.heap.size)(hf:∀k,k<w.heap.size->base<=k->k<=eb\/(hi<k/\¬X k)->w'.heap[k]?=w.heap[k]?):EraSt w' base eb hi X y f L P me forks sent ex S0 S:=by
 obtain⟨o1,o2,o3,o4,o5,o6⟩:=h.ord
 have hL:∀sl Ls,Loc base eb hi X sl Ls->∀k,sl.ownBlock=some k->Ls≠[]->k<w.heap.size->w'.heap[k]?=w.heap[k]?:=λsl Ls hl k e hne hk=>by
  rcases hl k e hne with h1|h1
  ·exact hf k hk h1.1 (.inl (by omega))
  ·exact hf k hk (by omega) (.inr h1)
 exact
  { h with
    cells:=(hf eb (zF h.cells) (by omega) (.inl (zB _))).trans h.cells
    ord:=⟨o1,o2,o3,o4,o5,zC o6 hz⟩
    xb:=λk hk=>zC (h.xb k hk) hz
    tree:=by
     obtain⟨SL,m⟩:=h.tree;exact⟨SL,m.frm14 (λk hk hb=>hf k hk (by omega) (.inl (by omega))) (λk hk b=>by omega) (λk b=>by omega)⟩
    init:=h.init.frm14 hz (hf _ (zF h.init.1) (by omega) (.inl (by omega))) (hL _ _ h.iloc)
    own:=h.own.frm14 λk e hk=>by
     obtain rfl:y.g=k:=Option.some.inj e;exact hf _ hk (by omega) (.inl (by omega))
    row:=λj rb hj=>by
     obtain⟨h1,h2,sl,h3,h4⟩:=h.row j rb hj;exact⟨h1,h2,sl,h3.frm14 hz (hf _ (zF h3.1) (by omega) (.inl (by omega))) (hL _ _ h4),h4⟩ }
theorem EraSt.kept (h:EraSt w base eb hi X y f L P me forks sent ex S0 S)(k:Kept w.heap.size w.heap.size w w'):EraSt w' base eb hi X y f L P me forks sent ex S0 S:=
 h.far k.size λi hk _ _=>k.block i hk (zD hk)
theorem EraSt.drew (h:EraSt w base eb hi X y f L P me forks sent ex S0 S):EraSt w.drew base eb hi X y f L P me forks sent ex S0 S:=h.kept zI.drew
theorem EraSt.box (h:EraSt w base eb hi X y f L P me forks sent ex S0 S)(o:Obj):EraSt (w.alloc o) base eb hi (λk=>X k\/k=w.heap.size) y f L P me forks sent ex S0 S:=
 have h2:=h.kept ((Kept.refl w.heap.size w.heap.size w).alloc (zB _) o)
 { h2 with
   iloc:=λk e hne=>by
    have hlt:=h.init.own_lt hne k e
    rcases h.iloc k e hne with h1|h1
    ·exact .inl h1
    ·exact .inr ⟨h1.1,λhx=>hx.elim h1.2 (λe2=>by omega)⟩
   xb:=λk hk=>by
    have hs:(w.alloc o).heap.size=w.heap.size+1:=by simp
    rcases hk with hk|hk
    ·have:=h.xb k hk
     omega
    ·omega
   row:=λj rb hj=>by
    obtain⟨q1,q2,sl,q3,q4⟩:=h2.row j rb hj;refine⟨q1,q2,?_⟩;obtain⟨_,_,sl,q3,q4⟩:=h.row j rb hj;refine⟨sl,q3.kept ((Kept.refl w.heap.size w.heap.size w).alloc (zB _) o),λk e hne=>?_⟩
    have hlt:=q3.own_lt hne k e
    rcases q4 k e hne with h1|h1
    ·exact .inl h1
    ·exact .inr ⟨h1.1,λhx=>hx.elim h1.2 (λe2=>by omega)⟩ }
theorem EraSt.mono {X':Nat->Prop}(h:EraSt w base eb hi X y f L P me forks sent ex S0 S)(hx:∀k,X' k->X k):EraSt w base eb hi X' y f L P me forks sent ex S0 S:=
 { h with
   iloc:=λk e hne=>(h.iloc k e hne).imp id (λq=>⟨q.1,λq2=>q.2 (hx k q2)⟩)
   xb:=λk hk=>h.xb k (hx k hk)
   row:=λj rb hj=>by
    obtain⟨q1,q2,sl,q3,q4⟩:=h.row j rb hj;exact⟨q1,q2,sl,q3,λk e hne=>(q4 k e hne).imp id (λq=>⟨q.1,λq2=>q.2 (hx k q2)⟩)⟩ }
theorem EraSt.aside (h:EraSt w base eb hi X y f L P me forks sent ex S0 S){b:Nat}(hb:X b)(hh:eb<b)(g:w.grownBy w' (some b)):EraSt w' base eb hi X y f L P me forks sent ex S0 S:=
 h.far g.size λi hi2 _ h2=>g.block i hi2 λe=>by
  obtain rfl:i=b:=Option.some.inj e
  rcases h2 with h2|h2
  ·omega
  ·exact h2.2 hb
theorem Qpu (F:List Value)(hF:F.length=163)(me:Int)(kv ip:Value)(forks:Int)(av:Value)(s s':Int)(ex:List UInt8):(ecells F me kv ip forks av s ex).set 168 (.int .i64 s')=ecells F me kv ip forks av s' ex:=by
 unfold ecells;rw[List.set_append_right _ _ (by omega),hF]
 rfl
theorem EraSt.setSent (h:EraSt w base eb hi X y f L P me forks sent ex S0 S)(hfo:f.Ok)(s':Int):EraSt (w.setCell ⟨eb,168,none⟩ (.int .i64 s')) base eb hi X y f L P me forks s' ex S0 S:=by
 obtain⟨o1,o2,o3,o4,o5,o6⟩:=h.ord;have hg:=Qbb w eb 168 (.int .i64 s');have hf:∀k,k<w.heap.size->k≠eb->(w.setCell ⟨eb,168,none⟩ (.int .i64 s')).heap[k]?=w.heap[k]?:=λk hk hne=>hg.block k hk (λe=>hne (Option.some.inj e))
 have hL:∀sl Ls,Loc base eb hi X sl Ls->∀k,sl.ownBlock=some k->Ls≠[]->k<w.heap.size->(w.setCell ⟨eb,168,none⟩ (.int .i64 s')).heap[k]?=w.heap[k]?:=λsl Ls hl k e hne hk=>hf k hk (by rcases hl k e hne with h1|h1 <;> omega)
 exact
  { h with
    cells:=by
     have:=Qaj h.cells 168 (.int .i64 s')
     rwa[Qpu _ (Fm.cells_length hfo _ _)] at this
    ord:=⟨o1,o2,o3,o4,o5,zC o6 hg.size⟩
    xb:=λk hk=>zC (h.xb k hk) hg.size
    tree:=by
     obtain⟨SL,m⟩:=h.tree;exact⟨SL,m.frm14 (λk hk hb=>hf k hk (by omega)) (λk hk b=>by omega) (λk b=>by have:=hg.size;omega)⟩
    init:=h.init.frm14 hg.size (hf _ (zF h.init.1) (by omega)) (hL _ _ h.iloc)
    own:=h.own.frm14 λk e hk=>by
     obtain rfl:y.g=k:=Option.some.inj e;exact hf _ hk (by omega)
    row:=λj rb hj=>by
     obtain⟨h1,h2,sl,h3,h4⟩:=h.row j rb hj;exact⟨h1,h2,sl,h3.frm14 hg.size (hf _ (zF h3.1) (by omega)) (hL _ _ h4),h4⟩ }
def putS (S:Nat->List Sd)(j:Nat)(M:List Sd):Nat->List Sd:=λi=>if i=j then M else S i
theorem EraSt.took (h:EraSt w base eb hi X y f L P me forks sent ex S0 S)(h0:∀s∈S0,s.self.length=32)(hS:∀i,∀s∈S i,s.self.length=32){j rb:Nat}(hj:y.R[j]?=some (some rb)){sl sl':Value}{M:List Sd}(hr:RowIs w rb 8 sl (S j))(hl:Loc base eb hi X sl (S j))(hne0:S j≠[])(hr':RowIs w' rb 8 sl' M)(k:Kept w.heap.size rb w w')(hn:Near w sl sl'):
  EraSt w' base eb hi X y f L P me forks sent ex S0 (putS S j M):=by
 obtain⟨o1,o2,o3,o4,o5,o6⟩:=h.ord;obtain⟨g1,g2,_⟩:=h.row j rb hj;have hf:∀i,i<w.heap.size->i≠rb->w'.heap[i]?=w.heap[i]?:=λi hi2 hne=>k.block i hi2 hne
 exact
  { h with
    cells:=(hf eb (zF h.cells) (by omega)).trans h.cells
    ord:=⟨o1,o2,o3,o4,o5,zC o6 k.size⟩
    xb:=λi hi2=>zC (h.xb i hi2) k.size
    tree:=by
     obtain⟨SL,m⟩:=h.tree;have:=k.size;exact⟨SL,m.frm14 (λi hk hb=>hf i hk (by omega)) (λi hk b=>by omega) (λi b=>by omega)⟩
    init:=h.init.keptBut h0 hr (by omega) k
    own:=h.own.frm14 λi e hk=>by
     obtain rfl:y.g=i:=Option.some.inj e;exact hf _ hk (by omega)
    row:=λi rb2 hi2=>by
     by_cases e:i=j
     ·subst e
      rw[hj] at hi2
      cases hi2
      refine⟨g1,g2,sl',?_,λq hq _=>?_⟩
      ·rw[putS,zG rfl];exact hr'
      ·rcases hn q hq with h9|h9
       ·exact hl q h9 hne0
       ·exact .inr ⟨by omega,λhx=>by have:=h.xb q hx;omega⟩
     ·obtain⟨h1,h2,s2,h3,h4⟩:=h.row i rb2 hi2
      have hne:rb2≠rb:=λe2=>e (h.apart i j rb (by rw[<-e2];exact hi2) hj)
      rw[putS,if_neg e];exact⟨h1,h2,s2,h3.keptBut (hS i) hr hne k,h4⟩ }
end
theorem EraNew.st {w w' w2:World}{eb:Nat}{f:Fm}{L:List Lf}{P:List Pr}{me:Int}{j cc:List UInt8}(h:EraNew w w' eb f L P me j cc)(k:Kept w'.heap.size w'.heap.size w' w2)(hi:Nat)(h1:eb<=hi)(h2:hi<w2.heap.size):
  ∃y,EraSt w2 w.heap.size eb hi (λ_=>False) y f L P me 0 0 (Ky.key j cc 6) [⟨0,0,Ky.key j cc 3⟩] (λi=>[⟨0,0,Ky.app (Ky.key j cc 5) i⟩]):=by
 obtain⟨lo,lv,pv,ib,sl,g,R,hc,hk,⟨o1,o2,o3,o4⟩,⟨SL,hm⟩,hri,hli,hap,hrb⟩:=h;have hap2:=hap.kept k;have m2:=hm.later14 k;refine⟨⟨lo,lv,pv,ib,sl,g,R⟩,?_⟩
 exact
  { cells:=rK hc k
    ord:=⟨o1,o2,o3,o4,h1,h2⟩
    tree:=⟨SL,m2.frm14 (λ_ _ _=>rfl) (λi hk2 b=>by
     have b2:i<w.heap.size\/(lo<=i/\i<w2.heap.size):=b
     omega) (λi b=>by
     have b2:i<w.heap.size\/(lo<=i/\i<w2.heap.size):=b;have:=k.size;have:=hk.size
     omega)⟩
    init:=hri.kept k
    iloc:=λq e _=>.inl (by have:=hli q e;omega)
    xb:=λ_ hx=>hx.elim
    own:=hap2.own
    len:=hap2.len
    blank:=λi hi2=>hap2.blank i hi2 hi2
    row:=λi rb hir=>by
     obtain⟨q1,s2,q2,q3⟩:=hap2.row i rb hir;exact⟨q1,hrb i rb hir,s2,q2,λq e _=>.inl (by have:=q3 q e;have:=hrb i rb hir;omega)⟩
    apart:=hap2.apart }
section
variable {w:World} {base eb hi:Nat} {X:Nat->Prop} {y:Lay} {f:Fm} {L:List Lf} {P:List Pr} {me forks sent:Int} {ex:List UInt8} {S0:List Sd} {S:Nat->List Sd}
theorem EraSt.at_frame (h:EraSt w base eb hi X y f L P me forks sent ex S0 S):w.rangeAt eb 0 (f.cells y.lv y.pv):=Qu4 (Qam h.cells)
theorem EraSt.at_id (h:EraSt w base eb hi X y f L P me forks sent ex S0 S)(hf:f.Ok):(loadVar 23 ⟨eb,0,none⟩).run Tryz.prog w=.ok (.agg (bY f.id).toArray) w:=Qb3 (Fm.at_id h.at_frame) hf.1
theorem EraSt.at_depth (h:EraSt w base eb hi X y f L P me forks sent ex S0 S)(hf:f.Ok):w.cell? ⟨eb,64,none⟩=some (.int .i64 f.depth):=by
 have:=Fm.at_depth h.at_frame hf
 simpa using this
theorem EraSt.at_tree (h:EraSt w base eb hi X y f L P me forks sent ex S0 S)(hf:f.Ok):(loadVar 45 ⟨eb,65,none⟩).run Tryz.prog w=.ok (.agg #[y.lv,y.pv]) w:=by
 have:=Qdm (Fm.at_tree h.at_frame hf)
 simpa using this
theorem EraSt.at_mid (h:EraSt w base eb hi X y f L P me forks sent ex S0 S)(hf:f.Ok):w.cell? ⟨eb,163,none⟩=some (.int .i64 me)/\w.cell? ⟨eb,167,none⟩=some (.slice (some ⟨y.g,0,none⟩) L.length L.length)/\w.cell? ⟨eb,168,none⟩=some (.int .i64 sent)/\w.frozen? ⟨eb,168,none⟩=false:=by
 have h1:=Qxn (Qam h.cells) (Fm.cells_length hf _ _);simp only[Nat.zero_add] at h1;exact⟨h1 0 _ rfl,h1 4 _ rfl,h1 5 _ rfl,Qa0 h.cells 168⟩
theorem EraSt.at_row (h:EraSt w base eb hi X y f L P me forks sent ex S0 S){j:Nat}{o:Option Nat}(hj:y.R[j]?=some o):w.cell? ⟨y.g,j,none⟩=some (rptr o):=by
 obtain⟨ad,g,c,e,h1,_⟩:=h.own.at;have hjl:j<(y.R.map λo=>[rptr o]).length:=by rw[List.length_map];exact(List.getElem?_eq_some_iff.1 hj).1
 obtain⟨e2,_,_,hr⟩:=h1 j hjl;rw[e2] at e;injection e with e3 _ _
 injection e3 with e3
 injection e3 with e3 _ _
 subst e3
 have h2:=hr 0 (rptr o) (by
  rw[List.getElem_map];rw[List.getElem?_eq_some_iff] at hj;obtain⟨_,hj⟩:=hj;rw[hj]
  rfl)
 simpa using h2
theorem EraSt.lvs (h:EraSt w base eb hi X y f L P me forks sent ex S0 S):Lvs w y.lv L/\Pts w y.pv P:=by
 obtain⟨SL,m⟩:=h.tree;exact⟨m.lvs,m.pts⟩
end
theorem Qa3 {w:World}{g o:Nat}{n:Int}(h:w.cell? ⟨g,o,none⟩=some (.int .i64 n)):(loadVar 3 ⟨g,o,none⟩).run Tryz.prog w=.ok (.int .i64 n) w:=by
 go_simp
theorem Qkg {base eb hi:Nat}{X:Nat->Prop}{y:Lay}{f:Fm}{L:List Lf}{P:List Pr}{me forks sent:Int}{ex:List UInt8}{S0:List Sd}{S:Nat->List Sd}(w:World)(h:EraSt w base eb hi X y f L P me forks sent ex S0 S)(hf:f.Ok)(hn:L.length<=1000)(hp:P.length<=1000)(hpl:∀p∈P,p.loose.length<=1000):
  Calls Tryz.prog 43 #[.pointer (some ⟨eb,0,none⟩)] w λe w'=>e=.returned (.int .i64 (Tt.place L P me))/\Kept w.heap.size w.heap.size w w':=by
 have HPL:=hid (λ(x:World) (k:Kept w.heap.size w.heap.size w x)=>Qc0 y.lv y.pv L P me x (h.kept k).lvs.1 (h.kept k).lvs.2 hn hp hpl)
 have LT:=hid (λ(x:World) (k:Kept w.heap.size w.heap.size w x)=>(h.kept k).at_tree hf)
 have LM:=hid (λ(x:World) (k:Kept w.heap.size w.heap.size w x)=>Qa3 ((h.kept k).at_mid hf).1)
 obtain⟨SL,m⟩:=h.tree;obtain⟨lad,lc,hlv⟩:=m.lvs.shape;obtain⟨pad,pc,hpv⟩:=m.pts.shape;obtain⟨ln,hln⟩:∃x,x=L.length:=⟨_,rfl⟩;obtain⟨pn,hpn⟩:∃x,x=P.length:=⟨_,rfl⟩;rw[<-hln] at hlv;rw[<-hpn] at hpv;rw[hlv,hpv] at HPL LT;obtain⟨pm,hpm⟩:∃x,x=Tt.place L P me:=⟨_,rfl⟩;rw[<-hpm] at HPL |-;clear h hf hn hp hpl m hlv hpv hln hpn hpm
 go_enter Tryz.func43,Tryz.ntmps43
 go_upto_region 3 with fail
 refine wp_region_noPanic ?_;refine wp_region_held_drew (S:=λw'=>Kept w.heap.size w.heap.size w w') (by kernel_rfl) (zI.drew) (λhH=>?_)
 refine tkE (i:=0) 5 rfl hH ?_
 apply zH
 ·intro w9 _
  go_simp
  first|done|rfl
 simp only[sA,sB,sC];refine tkE (i:=1) 6 rfl hH ?_
 apply zH
 ·intro w9 _
  go_simp
  first|done|rfl
 simp only[sA,sB,sC];refine tkE (i:=2) 7 rfl hH ?_
 apply zH
 ·intro w9 _
  go_simp
  first|done|rfl
 simp only[sA,sB,sC];refine tkE (i:=3) 8 rfl hH ?_
 apply zH
 ·intro w9 _
  go_simp
  first|done|rfl
 simp only[sA,sB,sC];refine tkA (i:=4) 9 (.agg #[.slice lad ln lc,.slice pad pn pc]) rfl (yK (by kernel_rfl) 45 _ rfl (eb) (65) rfl (.agg #[.slice lad ln lc,.slice pad pn pc]) (LT.out)) hH ?_
 simp only[sA,sB,sC];refine tkE (i:=5) 10 rfl hH ?_
 apply zH
 ·intro w9 _
  go_simp
  first|done|rfl
 simp only[sA,sB,sC];refine tkE (i:=6) 11 rfl hH ?_
 apply zH
 ·intro w9 _
  go_simp
  first|done|rfl
 simp only[sA,sB,sC];refine tkE (i:=7) 12 rfl hH ?_
 apply zH
 ·intro w9 _
  go_simp
  first|done|rfl
 simp only[sA,sB,sC];refine tkA (i:=8) 13 (.int .i64 me) rfl (yK (by kernel_rfl) 3 _ rfl (eb) (163) rfl (.int .i64 me) (LM.out)) hH ?_
 simp only[sA,sB,sC];refine wpAnyH_ready (rs:=[9]) (by kernel_rfl) (by simp) ?_
 refine AllReadyH.cons rfl (λK hK=>?_) AllReadyH.nil
 rw[zG (by rfl)]
 go_simp
 go_wp2_with (go_at_call 49;refine(HPL.out _ (Kept.refl w.heap.size w.heap.size w).drew).mono ?_;rintro e x1 ⟨rfl,kx1⟩)
 have X1:Kept w.heap.size w.heap.size w x1:=(Kept.refl w.heap.size w.heap.size w).drew.trans (kx1.mono (Kept.refl w.heap.size w.heap.size w).drew.size (λi hi _=>zD (zC hi (Kept.refl w.heap.size w.heap.size w).drew.size)))
 refine hK.out _ _ (X1) (λhH=>?_)
 clear hK K;refine tkE (i:=10) 2 rfl hH ?_
 apply zH
 ·intro w9 _
  go_simp
  first|done|rfl
 simp only[sA,sB,sC];refine wpAnyH_done (by kernel_rfl) ?_ _
 refine NoPanic.normal ?_;go_wp2;go_ret;exact⟨rfl,X1⟩
theorem Qf1 {base eb hi:Nat}{X:Nat->Prop}{y:Lay}{f:Fm}{L:List Lf}{P:List Pr}{me forks sent:Int}{ex:List UInt8}{S0:List Sd}{S:Nat->List Sd}(w:World)(h:EraSt w base eb hi X y f L P me forks sent ex S0 S)(hf:f.Ok)(hn:L.length<=1000)(j:Nat)(hj:j<L.length)(o:Option Nat)(ho:y.R[j]?=some o):
  Calls Tryz.prog 42 #[.pointer (some ⟨eb,0,none⟩),.int .i64 (j:Int)] w λe w'=>e=.returned (rptr o)/\w'=w:=by
 have c167:=(h.at_mid hf).2.1;have cj:=h.at_row ho;obtain⟨g,hg⟩:∃g,g=y.g:=⟨_,rfl⟩;rw[<-hg] at c167 cj;obtain⟨ln,hln⟩:∃x,x=L.length:=⟨_,rfl⟩;rw[<-hln] at c167;have hjl:(j:Int)<(ln:Int):=by omega
 have hj9:(j:Int)<=1000:=by omega
 have hl9:(ln:Int)<=1000:=by omega
 have hj0:¬(j:Int)<0:=by omega
 have hjn:¬(ln:Int)<=(j:Int):=by omega
 obtain⟨pa,hpa⟩:∃pa,rptr o=.pointer pa:=by cases o <;> exact⟨_,rfl⟩
 rw[hpa] at cj |-;clear h hf hn hj ho hg hln hpa
 go_enter Tryz.func42,Tryz.ntmps42
 go_upto_region 1 with fail
 refine zA ?_;iterate 11(refine wW λK hK=>?_;go_simp;apply hK;clear hK K)
 go_upto_region 3 with fail
 refine zA ?_;iterate 8(refine wW λK hK=>?_;go_simp;apply hK;clear hK K)
 go_wp2;go_ret;exact⟨rfl,rfl⟩
end Go.Proofs.YtnlbgggnpoeleaaGreatDoor
