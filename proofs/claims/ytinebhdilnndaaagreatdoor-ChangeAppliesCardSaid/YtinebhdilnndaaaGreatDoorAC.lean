/-
 ApRef; ApRefApply: several texts in one.
-/
import Derived.Test.YtinebhdilnndaaaGreatDoorAB
import Derived.Test.YtinebhdilnndaaaGreatDoorAA
set_option maxRecDepth 100000
set_option maxHeartbeats 12800000
namespace Go.Proofs.YtinebhdilnndaaaGreatDoor
open Go.RowKit Go.Lib
open List renaming setIfInBounds_toArray -> sA, set_cons_zero -> sB, set_cons_succ -> sC
open BigFrame renaming wpList_want -> wQ
theorem range_chg10 {w:World}{b o:Nat}{p:Cg}(h:w.rangeAt b o p.cells)(ok:p.Ok):w.rangeAt b (o + 35) p.chg:=λj v hj=>by
 have hlt:j < p.chg.length:=by
  rcases Nat.lt_or_ge j p.chg.length with h | h
  ·exact h
  ·rw [List.getElem?_eq_none h] at hj; cases hj
 have:=h (35 + j) v (by
  unfold Cg.cells;rw [List.getElem?_append_right (by rw [bcells_length,ok.1]; omega),bcells_length,ok.1,List.getElem?_append_right (by simp [Cg.mid]; omega),List.getElem?_append_left (by simp [Cg.mid]; omega)]
  simp only [Cg.mid,List.length_cons,List.length_nil];rw [show 35 + j - 32 - (0 + 1 + 1 + 1) = j by omega]
  exact hj)
 rwa [<- Nat.add_assoc] at this
theorem load_chg10 {w:World}{b o:Nat}{p:Cg}(h:w.rangeAt b o p.chg)(ok:p.Ok):(loadVar 44 ⟨b,o,none⟩).run Tryz.prog w = .ok (.agg p.chg.toArray) w:=
 run_loadVar_mid w b o 44 _ _ h Tryz.underlying44 rfl (by have:=chgInfo (Cg.csize ok); simpa using this)
structure Rb (w0 w:World) (a0:Nat) (lv pv fv:Value) (s:Gp):Prop where
 kp:Kp w0 w
 a:a0 = w0.heap.size
 sz:a0 + 4<=w.heap.size
 trow:w.heap[a0]? = some (.cells #[lv,pv] 25 (0,0))
 srow:w.heap[a0 + 1]? = some (.cells (icells s.ts).toArray 27 (0,0))
 xrow:w.heap[a0 + 2]? = some (.cells #[.slice none 0 0,.slice none 0 0] 25 (0,0))
 yrow:w.heap[a0 + 3]? = some (.cells (icells Ap.z64).toArray 27 (0,0))
 fr:Ints w (a0 + 4) fv s.fr
 ts:s.ts.length = 64
structure Rm (w0 w:World) (a0:Nat) (lv pv fv:Value) (s:Gp):Prop extends Rb w0 w a0 lv pv fv s where
 tr:(Lvs w0 lv s.L/\Pts w0 pv s.P)\/∃ SL,Mine (λk=>k < a0 + 4\/fv.ownBlock = some k) w lv pv s.L s.P SL
section
variable {w0 w w1:World} {a0:Nat} {lv pv lv' pv' fv:Value} {s:Gp} {L':List Lf} {P':List Pr} {SL':List Value} {B:Nat->Prop}
theorem Rm.lvs (h:Rm w0 w a0 lv pv fv s):Lvs w lv s.L:=by
 rcases h.tr with ⟨h1,_⟩ | ⟨_,m⟩
 ·exact h1.kept h.kp
 ·exact m.lvs
theorem Rm.pts (h:Rm w0 w a0 lv pv fv s):Pts w pv s.P:=by
 rcases h.tr with ⟨_,h1⟩ | ⟨_,m⟩
 ·exact h1.kept h.kp
 ·exact m.pts
theorem Rb.kept (h:Rb w0 w a0 lv pv fv s)(k:Kp w w1):Rb w0 w1 a0 lv pv fv s:=
 { h with
   kp:=h.kp.onto k
   sz:=Nat.le_trans h.sz k.size
   trow:=row_kept h.trow k
   srow:=row_kept h.srow k
   xrow:=row_kept h.xrow k
   yrow:=row_kept h.yrow k
   fr:=World.ownsRow.kept h.fr k.grew (own_ne_none _) }
theorem Rm.kept (h:Rm w0 w a0 lv pv fv s)(k:Kp w w1):Rm w0 w1 a0 lv pv fv s:=
 ⟨h.toRb.kept k,h.tr.imp id (λ⟨SL,m⟩=>⟨SL,m.kept k⟩)⟩
theorem Rb.asideU {ub:Nat}(h:Rb w0 w a0 lv pv fv s)(hu:a0 + 4<=ub/\fv.ownBlock≠some ub)(g:w.grownBy w1 (some ub)):Rb w0 w1 a0 lv pv fv s:=by
 have hlow:∀ q,q < a0 + 4->w1.heap[q]? = w.heap[q]?:=λq hq=>g.block q (Nat.lt_of_lt_of_le hq h.sz) (λe=>by have:=Option.some.inj e; omega)
 exact {
  kp:=h.kp.grown g h.kp.size (λq e=>by cases e; have:=h.a; omega)
  a:=h.a
  sz:=Nat.le_trans h.sz g.size
  trow:=(hlow _ (by omega)).trans h.trow
  srow:=(hlow _ (by omega)).trans h.srow
  xrow:=(hlow _ (by omega)).trans h.xrow
  yrow:=(hlow _ (by omega)).trans h.yrow
  fr:=World.ownsRow.kept h.fr g (.inr hu.2)
  ts:=h.ts }
theorem Rb.tree (h:Rb w0 w a0 lv pv fv s)(m:Mine B w lv' pv' L' P' SL')(hB:∀ k,k < a0 + 4\/fv.ownBlock = some k->B k):Rm w0 (w.setRow a0 #[lv',pv']) a0 lv' pv' fv ⟨L',P',s.ts,s.fr⟩:=by
 have g:=grown_setRow w a0 #[lv',pv'];have hne:∀ k,k≠a0->(w.setRow a0 #[lv',pv']).heap[k]? = w.heap[k]?:=λk hk=>setRow_other w a0 k #[lv',pv'] hk
 exact { toRb:={
  kp:=h.kp.grown g h.kp.size (λq e=>by cases e; rw [h.a]; exact Nat.le_refl _)
  a:=h.a
  sz:=Nat.le_trans h.sz g.size
  trow:=setRow_heap w a0 _ #[lv',pv'] _ _ h.trow
  srow:=(hne _ (by omega)).trans h.srow
  xrow:=(hne _ (by omega)).trans h.xrow
  yrow:=(hne _ (by omega)).trans h.yrow
  fr:=World.ownsRow.kept h.fr g (.inr (λe=>by have:=(World.ownsRow.lt h.fr a0 e).1; omega))
  ts:=h.ts },tr:=.inr ⟨SL',(m.aside (b:=a0) (hB a0 (.inl (by omega))) g).mono hB⟩ }
theorem Rb.time (h:Rb w0 w a0 lv pv fv s)(k:Nat)(hk:k < 64)(x:Int):
  ((w.cell? ⟨a0 + 1,k,none⟩).isSome = true/\w.frozen? ⟨a0 + 1,k,none⟩ = false)/\Rb w0 (w.setCell ⟨a0 + 1,k,none⟩ (.int .i64 x)) a0 lv pv fv ⟨s.L,s.P,s.ts.set k x,s.fr⟩:=by
 have g:=grown_set w (a0 + 1) k (.int .i64 x);have ht:=there_rowA h.srow (o:=0) (n:=64) (by rw [icells_length,h.ts]; omega) k hk
 rw [Nat.zero_add] at ht;have hne:∀ q,q≠a0 + 1->(w.setCell ⟨a0 + 1,k,none⟩ (.int .i64 x)).heap[q]? = w.heap[q]?:=λq hq=>Below.heap_setCell _ _ _ _ hq
 refine⟨ht,?_⟩
 exact {
  kp:=h.kp.grown g h.kp.size (λq e=>by cases e; rw [h.a]; omega)
  a:=h.a
  sz:=Nat.le_trans h.sz g.size
  trow:=(hne _ (by omega)).trans h.trow
  srow:=by
   have h1:=cells_set h.srow k (.int .i64 x);rw [icells_set] at h1;exact h1
  xrow:=(hne _ (by omega)).trans h.xrow
  yrow:=(hne _ (by omega)).trans h.yrow
  fr:=World.ownsRow.kept h.fr g (.inr (λe=>by have:=(World.ownsRow.lt h.fr (a0 + 1) e).1; omega))
  ts:=by rw [List.length_set]; exact h.ts }
theorem Rb.more (h:Rb w0 w a0 lv pv fv s)(x:Int)(hl:s.fr.length<=1000):
  ∃ ad n c w2,(Builtin.append_ #[38,38] 38 #[fv,.slice (some ⟨w.heap.size,0,none⟩) 1 1]).run Tryz.prog (w.alloc (.cells #[.int .i64 x] 3)) = .ok (.slice ad n c) w2 /\
   Rb w0 w2 a0 lv pv (.slice ad n c) ⟨s.L,s.P,s.ts,s.fr ++ [x]⟩/\(∀ (B:Nat->Prop) (lv2 pv2:Value) (L2:List Lf) (P2:List Pr) (SL2:List Value),Mine B w lv2 pv2 L2 P2 SL2->(∀ b,fv.ownBlock = some b->B b)->Mine (λk=>B k\/(Value.slice ad n c).ownBlock = some k) w2 lv2 pv2 L2 P2 SL2)/\(∀ q o,w.heap[q]? = some o->fv.ownBlock≠some q->w2.heap[q]? = some o):=by
 have ka:=kA w (.cells #[.int .i64 x] 3)
 have ha:=h.kept ka;have hcell:(w.alloc (.cells #[.int .i64 x] 3)).cell? ⟨w.heap.size,0,none⟩ = some (.int .i64 x):=World.cell?_alloc_new w _ _ 0
 obtain⟨v',w2,e1,e2,e3,e4⟩:=append_intA (w.alloc (.cells #[.int .i64 x] 3)) (a0 + 4) fv s.fr x ha.fr w.heap.size 1 hcell (by omega) ha.sz
 obtain⟨ad,n,c,rfl⟩:=one_slice e2;have hlow:∀ q,q < a0 + 4->w2.heap[q]? = (w.alloc (.cells #[.int .i64 x] 3)).heap[q]?:=λq hq=>e3.block q (Nat.lt_of_lt_of_le hq ha.sz) (λe=>by have:=(World.ownsRow.lt ha.fr q e.symm).1; omega)
 have hmine:∀ (B:Nat->Prop) (lv2 pv2:Value) (L2:List Lf) (P2:List Pr) (SL2:List Value),Mine B w lv2 pv2 L2 P2 SL2->(∀ b,fv.ownBlock = some b->B b)->Mine (λk=>B k\/(Value.slice ad n c).ownBlock = some k) w2 lv2 pv2 L2 P2 SL2:=λB lv2 pv2 L2 P2 SL2 m hb=>by
  have m1:=(m.kept ka).asideO fv.ownBlock hb e3
  exact(m.kept ka).also (λk hk=>by
   rcases hk with hk | hk
   ·exact .inl hk
   ·rcases e4 with e5 | e5
    ·exact .inl (hb k (e5 ▸ hk))
    ·rw [e5] at hk
     have h5:=Option.some.inj hk;have h6:=(World.ownsRow.lt e2 k (by rw [e5]; exact congrArg some h5)).2
     exact .inr ⟨by omega,h6⟩) m1 e3.size
 refine⟨ad,n,c,w2,e1,?_,hmine,λq o hq hne=>(e3.block q (Nat.lt_of_lt_of_le (lt_of_block hq) ka.size) (λe=>hne e.symm)).trans (row_kept hq ka)⟩
 exact {
  kp:=ha.kp.grown e3 ha.kp.size (λq e=>by have:=(World.ownsRow.lt ha.fr q e).1; have:=h.a; omega)
  a:=h.a
  sz:=Nat.le_trans ha.sz e3.size
  trow:=(hlow _ (by omega)).trans ha.trow
  srow:=(hlow _ (by omega)).trans ha.srow
  xrow:=(hlow _ (by omega)).trans ha.xrow
  yrow:=(hlow _ (by omega)).trans ha.yrow
  fr:=e2
  ts:=h.ts }
end
theorem refapply_calls10 (lv pv rv av:Value)(L:List Lf)(P:List Pr)(ts:List Int)(R:List Pn)(A:List Cg)(w:World)(hL:Lvs w lv L)(hP:Pts w pv P)(hR:Pns w rv R)(hA:Cgs w av A)(hn:L.length<=1000)(hp:P.length<=1000)(hpl:∀ p∈P,p.loose.length<=1000)(h64:ts.length = 64)(hrn:R.length<=1000)(hrc:∀ p∈R,p.cards.length<=1000)(hal:A.length<=1000):
  Calls Tryz.prog 14 #[.agg #[lv,pv],.agg (icells ts).toArray,rv,av] w λe w'=>∃ lv' pv' fv',e = .returned (.tuple #[.agg #[lv',pv'],.agg (icells (Ap.result R L P ts A).2.ts).toArray,fv',.int .i64 (Ap.result R L P ts A).1])/\Kept w.heap.size w.heap.size w w'/\Ints w' 0 fv' (Ap.result R L P ts A).2.fr/\∃ SL,Mine (λk=>k < w.heap.size) w' lv' pv' (Ap.result R L P ts A).2.L (Ap.result R L P ts A).2.P SL:=by
 obtain⟨lad,lc,rfl⟩:=hL.shape;obtain⟨pad,pc,rfl⟩:=hP.shape;obtain⟨rad,rc,rfl⟩:=hR.shape;obtain⟨aad,ac,rfl⟩:=hA.shape;obtain⟨ln,hln⟩:∃ q,q = L.length:=⟨_,rfl⟩;obtain⟨pn,hpn⟩:∃ q,q = P.length:=⟨_,rfl⟩;obtain⟨rn,hrn0⟩:∃ q,q = R.length:=⟨_,rfl⟩;obtain⟨an,han⟩:∃ q,q = A.length:=⟨_,rfl⟩;rw [<- hln] at hL;rw [<- hpn] at hP;rw [<- hrn0] at hR;rw [<- han] at hA;rw [<- hln,<- hpn,<- hrn0,<- han];obtain⟨TD,hTD⟩:∃ D,D = (icells ts).toArray:=⟨_,rfl⟩;rw [<- hTD];have han9:(an:Int)<=1000:=by omega
 have HAN:=hid han;have HTD:=hid hTD;have HLV:=hid hL;have HPV:=hid hP;have HR:=hid hR;have HA:=hid hA;have HN:=hid hn;have HPN:=hid hp;have HPL:=hid hpl;have H64:=hid h64;have HRN:=hid hrn;have HRC:=hid hrc;have HAL:=hid hal;have HZI:=hid (timesInfo (cs:=(icells Ap.z64).toArray) rfl);have HTI:=hid (timesInfo (cs:=TD) (by rw [hTD]; simp [icells_length,h64]))
 have HRI:=hid (λ(u:World) (kk:Kept w.heap.size w.heap.size w u)=>refright_calls8 _ _ L P u (hL.kept kk) (hP.kept kk) hpl)
 obtain⟨rt,hrt⟩:∃ b,b = Tt.right L P:=⟨_,rfl⟩;rw [<- hrt] at HRI;have HRT:=hid hrt;clear hL hP hR hA hln hpn hrn0 han hTD hn hp hpl h64 hrn hrc hal hrt
 go_enter Tryz.func14,Tryz.ntmps14
 go_upto_region 0 with fail
 refine wp_region_lit ?_;iterate 2 (refine wW λK hK=>?_;go_simp;apply hK;clear hK K)
 refine @wpL_alloc _ _ _ _ _ _ _ _ ?_ 25 rfl _ (alloc_tree _) ?_;kernel_rfl
 simp only [Act.put,sA,sB,sC];refine @wpL_alloc _ _ _ _ _ _ _ _ ?_ 27 rfl _ (alloc_times _) ?_;kernel_rfl
 simp only [Act.put,sA,sB,sC];have hz1:(w.alloc (.cells #[.slice lad ln lc,.slice pad pn pc] 25)).heap.size = w.heap.size + 1:=by simp
 have hz2:((w.alloc (.cells #[.slice lad ln lc,.slice pad pn pc] 25)).alloc (.cells TD 27)).heap.size = w.heap.size + 2:=by simp
 have hz3:(((w.alloc (.cells #[.slice lad ln lc,.slice pad pn pc] 25)).alloc (.cells TD 27)).alloc (.cells #[.slice none 0 0,.slice none 0 0] 25)).heap.size = w.heap.size + 3:=by simp
 have hz4:((((w.alloc (.cells #[.slice lad ln lc,.slice pad pn pc] 25)).alloc (.cells TD 27)).alloc (.cells #[.slice none 0 0,.slice none 0 0] 25)).alloc (.cells (icells Ap.z64).toArray 27)).heap.size = w.heap.size + 4:=by simp
 have k1:Kept w.heap.size w.heap.size w ((((w.alloc (.cells #[.slice lad ln lc,.slice pad pn pc] 25)).alloc (.cells TD 27)).alloc (.cells #[.slice none 0 0,.slice none 0 0] 25)).alloc (.cells (icells Ap.z64).toArray 27)):=((((Kept.refl _ _ _).alloc (Nat.le_refl _) _).alloc (by simp) _).alloc (by simp; omega) _).alloc (by simp; omega) _
 have r4:((((w.alloc (.cells #[.slice lad ln lc,.slice pad pn pc] 25)).alloc (.cells TD 27)).alloc (.cells #[.slice none 0 0,.slice none 0 0] 25)).alloc (.cells (icells Ap.z64).toArray 27)).heap[w.heap.size + 3]? = some (.cells (icells Ap.z64).toArray 27 (0,0)):=by rw [<- hz3]; exact heap_new _ _
 have r3:((((w.alloc (.cells #[.slice lad ln lc,.slice pad pn pc] 25)).alloc (.cells TD 27)).alloc (.cells #[.slice none 0 0,.slice none 0 0] 25)).alloc (.cells (icells Ap.z64).toArray 27)).heap[w.heap.size + 2]? = some (.cells #[.slice none 0 0,.slice none 0 0] 25 (0,0)):=by
  rw [heap_alloc_old _ _ (by rw [hz3]; omega),<- hz2]; exact heap_new _ _
 have r2:((((w.alloc (.cells #[.slice lad ln lc,.slice pad pn pc] 25)).alloc (.cells TD 27)).alloc (.cells #[.slice none 0 0,.slice none 0 0] 25)).alloc (.cells (icells Ap.z64).toArray 27)).heap[w.heap.size + 1]? = some (.cells TD 27 (0,0)):=by
  rw [heap_alloc_old _ _ (by rw [hz3]; omega),heap_alloc_old _ _ (by rw [hz2]; omega),<- hz1]; exact heap_new _ _
 have r1:((((w.alloc (.cells #[.slice lad ln lc,.slice pad pn pc] 25)).alloc (.cells TD 27)).alloc (.cells #[.slice none 0 0,.slice none 0 0] 25)).alloc (.cells (icells Ap.z64).toArray 27)).heap[w.heap.size]? = some (.cells #[.slice lad ln lc,.slice pad pn pc] 25 (0,0)):=by
  rw [heap_alloc_old _ _ (by rw [hz3]; omega),heap_alloc_old _ _ (by rw [hz2]; omega),heap_alloc_old _ _ (by rw [hz1]; omega)]; exact heap_new _ _
 (try rw [hz3])
 (try rw [hz2])
 (try rw [hz1])
 generalize (((w.alloc (.cells #[.slice lad ln lc,.slice pad pn pc] 25)).alloc (.cells TD 27)).alloc (.cells #[.slice none 0 0,.slice none 0 0] 25)).alloc (.cells (icells Ap.z64).toArray 27) = w1 at k1 r1 r2 r3 r4 hz4 |-
 have K1:=hid k1;have T1:=hid r1;have S1:=hid r2;have X1:=hid r3;have Y1:=hid r4;have Z1:=hid hz4;obtain⟨a0,ha0⟩:∃ a,a = w.heap.size:=⟨_,rfl⟩;rw [<- ha0] at T1 S1 X1 Y1 Z1
 (try rw [<- ha0])
 have HA0:=hid ha0;clear hz1 hz2 hz3 hz4 k1 r1 r2 r3 r4 ha0;iterate 2 (refine wW λK hK=>?_;go_simp;apply hK;clear hK K)
 go_upto_region 1 with fail
 refine wp_region_lit ?_;refine wLk 25 (.tmp 4) rfl (a0) (0) rfl (.agg #[.slice lad ln lc,.slice pad pn pc]) (run_loadVar_row w1 a0 25 25 _ (0,0) _ T1.out Tryz.underlying25 rfl treeInfo) ?_
 simp only [Act.put,sA,sB,sC];refine wW λK hK=>?_;go_simp;go_at_call 35
 refine(HRI.out _ K1.out).mono ?_;rintro e w2 ⟨rfl,k2⟩;have K2:=hid (K1.out.onto k2);have T2:=hid (row_kept T1.out k2);have S2:=hid (row_kept S1.out k2);have X2:=hid (row_kept X1.out k2);have Y2:=hid (row_kept Y1.out k2);have HSZ2:=hid (show a0 + 4<=w2.heap.size by rw [<- Z1.out]; exact k2.size)
 clear k2;apply hK;clear hK K;refine wW λK hK=>?_;go_simp;apply hK;clear hK K
 cases rt with
 | false=>
  have hno:Tt.right L P = false:=HRT.out.symm;have HE:=hid (Ap.result_no (R:=R) (ts:=ts) (A:=A) hno);clear hno
  as_aux_lemma=>
   go_upto_region 2 with fail
   refine wp_region_lit ?_;refine @wpL_build0 _ _ _ _ _ _ _ ?_ 25 rfl _ (build_tree0 _) ?_;kernel_rfl
   simp only [Act.put,sA,sB,sC];refine @wpL_build0 _ _ _ _ _ _ _ ?_ 27 rfl _ (build_times0 _) ?_;kernel_rfl
   simp only [Act.put,sA,sB,sC];refine wpList_store_row rfl 25 _ _ rfl (a0 + 2) #[.slice none 0 0,.slice none 0 0] rfl rfl 25 #[.slice none 0 0,.slice none 0 0] X2.out treeInfo rfl (tree_all _ _ _ _ _ _) ?_
   simp only [Act.put];have X8:=setRow_heap w2 (a0 + 2) _ #[.slice none 0 0,.slice none 0 0] _ _ X2.out;have Y8:=(setRow_other w2 (a0 + 2) (a0 + 3) #[.slice none 0 0,.slice none 0 0] (by omega)).trans Y2.out
   refine wpList_store_row rfl 27 _ _ rfl (a0 + 3) (icells Ap.z64).toArray rfl rfl 27 (icells Ap.z64).toArray Y8 HZI.out rfl (icells_all _) ?_
   simp only [Act.put];iterate 2 (refine wW λK hK=>?_;go_simp;apply hK;clear hK K)
   have Y9:=setRow_heap (w2.setRow (a0 + 2) #[.slice none 0 0,.slice none 0 0]) (a0 + 3) _ (icells Ap.z64).toArray _ _ Y8;have X9:=(setRow_other (w2.setRow (a0 + 2) #[.slice none 0 0,.slice none 0 0]) (a0 + 3) (a0 + 2) (icells Ap.z64).toArray (by omega)).trans X8
   have K9:Kept w.heap.size w.heap.size w ((w2.setRow (a0 + 2) #[.slice none 0 0,.slice none 0 0]).setRow (a0 + 3) (icells Ap.z64).toArray):=kept_setRow10 (kept_setRow10 K2.out (a0 + 2) (by rw [HA0.out]; omega) _) (a0 + 3) (by rw [HA0.out]; omega) _
   generalize (w2.setRow (a0 + 2) #[.slice none 0 0,.slice none 0 0]).setRow (a0 + 3) (icells Ap.z64).toArray = w9 at X9 Y9 K9 |-;go_wp2;refine bodyPost_ret (results_row4A rfl _ _ (a0 + 2) (a0 + 3) 25 #[.slice none 0 0,.slice none 0 0] (0,0) _ 27 (icells Ap.z64).toArray (0,0) _ rfl rfl X9 Y9 Tryz.underlying25 rfl treeInfo Tryz.underlying27 rfl HZI.out) rfl ?_
   rw [HE.out];exact⟨_,_,_,rfl,K9,ints_nil w9,[],none_mine w w9 (by exact K9.size)⟩
 | true=>
  have hyes:Tt.right L P = true:=HRT.out.symm;have HY:=hid hyes;have HE:=hid (Ap.result_yes (R:=R) (ts:=ts) (A:=A) hyes);clear hyes
  as_aux_lemma=>
   go_upto_region 3 with fail
   refine wp_region_lit ?_;refine wW λK hK=>?_;go_simp;apply hK;clear hK K
   go_upto_region 4 with fail
   refine wp_region_lit ?_;refine wW λK hK=>?_;go_simp;apply hK;clear hK K;have G4:Hid (Rm w w2 a0 (.slice lad ln lc) (.slice pad pn pc) (.slice none 0 0) ⟨L,P,ts,[]⟩):=hid ⟨⟨K2.out,HA0.out,HSZ2.out,T2.out,by rw [<- HTD.out]; exact S2.out,X2.out,Y2.out,World.ownsRow_nil _ _ _ _,H64.out⟩,.inl ⟨HLV.out,HPV.out⟩⟩
   go_wp2_with fail
   go_loopw [12,13] (λs12 s13 x=>∃ i:Nat,s13 = .int .i64 (i:Int)/\Hid (i<=an)/\∃ lv pv s,Hid (Rm w x a0 lv pv s12 s)/\Hid (s.fr.length<=i)/\Hid (Tt.right s.L s.P = true)/\Hid (Ap.result R L P ts A = Ap.run R s (A.drop i))) (λ_ s13 _=>an - (RowKit.intOf s13).toNat)
   case atStart=>exact⟨0,rfl,hid (Nat.zero_le _),_,_,_,G4,hid (Nat.le_refl _),HY,hid (by rw [HE.out,List.drop_zero])⟩
   case round=>
    clear G4 T2 S2 X2 Y2;obtain⟨i,rfl,hi,lv5,pv5,s5,G5,HF5,HY5,HE5⟩:=hrel;obtain⟨fad,fn,fc,hfv⟩:=one_slice G5.out.fr;subst hfv;obtain⟨la5,lc5,rfl⟩:=G5.out.lvs.shape;obtain⟨pa5,pc5,rfl⟩:=G5.out.pts.shape;obtain⟨ln5,hln5⟩:∃ q,q = s5.L.length:=⟨_,rfl⟩;obtain⟨pn5,hpn5⟩:∃ q,q = s5.P.length:=⟨_,rfl⟩;rw [<- hln5,<- hpn5] at G5;have HLN5:=hid hln5;have HPN5:=hid hpn5;clear hln5 hpn5
    by_cases hlt:i < an
    ·have hiA:i < A.length:=by rw [<- HAN.out]; exact hlt
     have hlti:(i:Int) < (an:Int):=by omega
     have hi0:¬ (i:Int) < 0:=by omega
     have HIA:=hid hiA;obtain⟨aad',ag,ao,ac',hsl,hcell⟩:=HA.out;rw [<- HAN.out] at hsl;injection hsl with h1 h2 h3
     subst h1 h3;clear h2;obtain⟨had,hg,hok,hr⟩:=hcell i hiA;subst had;have hr2:=range_kept10 hr hg G5.out.kp;obtain⟨c,hc⟩:∃ c,c = A[i]'hiA:=⟨_,rfl⟩;rw [<- hc] at hok hr2;have HC:=hid (show c = A[i]'HIA.out from hc);have hla:=load_chg10 (range_chg10 hr2 hok) hok;obtain⟨CD,hCD⟩:∃ D,D = c.chg.toArray:=⟨_,rfl⟩;have HCS:=hid (show CD.size = 34 by rw [hCD]; exact Cg.csize hok)
     have HCI:=hid (chgInfo HCS.out);have HCA:=hid (show CD.all (·.oneCell') = true by rw [hCD]; exact c.call)
     rw [<- hCD] at hla;have HLA:=hid hla;have HCD:=hid hCD;have HOK:=hid hok;have HLT:=hid hlt;clear hr hr2 hla hCD hg hc hlt hiA hok hcell
     as_aux_lemma=>
      go_upto_region 7 with fail
      refine wp_region_lit ?_;iterate 4 (refine wW λK hK=>?_;go_simp;apply hK;clear hK K)
      refine wLk 44 (.tmp 34) rfl (ag) (ao + i * 101 + 35) rfl (.agg CD) (HLA.out) ?_
      simp only [Act.put,sA,sB,sC];refine @wpL_alloc _ _ _ _ _ _ _ _ ?_ 44 rfl _ (alloc_chg _) ?_;kernel_rfl
      simp only [Act.put,sA,sB,sC];refine wpList_store_row rfl 44 _ _ rfl (wr.heap.size) CD rfl rfl 44 Cm.zero.chg.toArray (heap_new _ _) (HCI.out) (by rw [HCS.out]; exact Cg.csize Cm.zero_ok) (HCA.out) ?_
      simp only [Act.put];rw [World.setRow_alloc_new];have ka:=kA wr (.cells CD 44)
      have ra:=heap_new wr (.cells CD 44)
      generalize wr.alloc (.cells CD 44) = w6 at ka ra |-
      obtain⟨cb,hcb⟩:∃ n,n = wr.heap.size:=⟨_,rfl⟩;rw [<- hcb] at ra
      (try rw [<- hcb])
      have G6:=hid (G5.out.kept ka);have R6:=hid ra;have HCB:=hid (show a0 + 4<=cb by rw [hcb]; exact G5.out.sz)
      clear ka ra hcb
      go_upto_region 8 with fail
      refine wp_region_lit ?_;refine wLk 25 (.tmp 4) rfl (a0) (0) rfl (.agg #[.slice la5 ln5 lc5,.slice pa5 pn5 pc5]) (run_loadVar_row w6 a0 25 25 _ (0,0) _ G6.out.trow Tryz.underlying25 rfl treeInfo) ?_
      simp only [Act.put,sA,sB,sC];refine @wpL_alloc _ _ _ _ _ _ _ _ ?_ 25 rfl _ (alloc_tree _) ?_;kernel_rfl
      simp only [Act.put,sA,sB,sC];refine wpList_store_row rfl 25 _ _ rfl (w6.heap.size) #[.slice la5 ln5 lc5,.slice pa5 pn5 pc5] rfl rfl 25 #[.slice none 0 0,.slice none 0 0] (heap_new _ _) (treeInfo) (rfl) (tree_all _ _ _ _ _ _) ?_
      simp only [Act.put];rw [World.setRow_alloc_new];have ka:=kA w6 (.cells #[.slice la5 ln5 lc5,.slice pa5 pn5 pc5] 25)
      have ra:=heap_new w6 (.cells #[.slice la5 ln5 lc5,.slice pa5 pn5 pc5] 25)
      generalize w6.alloc (.cells #[.slice la5 ln5 lc5,.slice pa5 pn5 pc5] 25) = w8 at ka ra |-
      obtain⟨ub,hub⟩:∃ n,n = w6.heap.size:=⟨_,rfl⟩;rw [<- hub] at ra
      (try rw [<- hub])
      have G8:=hid (G6.out.kept ka);have U8:=hid ra;have R8:=hid (row_kept R6.out ka);have HUW:=hid (show ub = w6.heap.size from hub);have HUB:=hid (show a0 + 4<=ub/\cb≠ub by rw [hub]; exact⟨G6.out.sz,Nat.ne_of_lt (lt_of_block R6.out)⟩)
      clear ka ra hub;have HRG:=hid (λ(x:World) (kk:Kept w8.heap.size ub w8 x)=>rangeAt_keptA kk (row_range0 (by rw [<- HCD.out]; exact R8.out):w8.rangeAt cb 0 c.chg) (lt_of_block R8.out) HUB.out.2)
      obtain⟨kd,hkd⟩:∃ q,q = c.kind:=⟨_,rfl⟩;obtain⟨nm,hnm⟩:∃ q,q = c.name:=⟨_,rfl⟩;have HKD:=hid hkd;have HNM:=hid hnm;have HKX:=hid (λ(x:World) (kk:Kept w8.heap.size ub w8 x)=>(by have h9:=chg_kind (HRG.out x kk); rw [<- HKD.out] at h9; exact h9:x.cell? ⟨cb,0,none⟩ = some (.int .i64 kd)))
      have HNX:=hid (λ(x:World) (kk:Kept w8.heap.size ub w8 x)=>(by have h9:=chg_name (HRG.out x kk); rw [<- HNM.out] at h9; exact h9:x.cell? ⟨cb,1,none⟩ = some (.int .i64 nm)))
      obtain⟨PD,hPD⟩:∃ D,D = (bcells c.pub).toArray:=⟨_,rfl⟩;have HPX:=hid (λ(x:World) (kk:Kept w8.heap.size ub w8 x)=>(by have h9:=chg_pub (HRG.out x kk); rw [Nat.zero_add] at h9; rw [hPD]; exact load_hash h9 HOK.out.2.1:(loadVar 30 ⟨cb,2,none⟩).run Tryz.prog x = .ok (.agg PD) x))
      have HTX:=hid (λ(x:World) (kk:Kept w8.heap.size ub w8 x)=>(run_loadVar_row x a0 25 25 _ (0,0) _ ((kk.block a0 (lt_of_block G8.out.trow) (by have:=HUB.out.1; omega)).trans G8.out.trow) Tryz.underlying25 rfl treeInfo:(loadVar 25 ⟨a0,0,none⟩).run Tryz.prog x = .ok (.agg #[.slice la5 ln5 lc5,.slice pa5 pn5 pc5]) x))
      have hn5:s5.L.length<=1000:=by have:=(Tt.right_parts HY5.out).1; omega
      have HPLA:=hid (λ(x:World) (kk:Kp w8 x)=>refplace_calls (.slice la5 ln5 lc5) (.slice pa5 pn5 pc5) s5.L nm x (G8.out.kept kk).lvs hn5 ⟨_,_,_,rfl⟩)
      obtain⟨pl,hpl⟩:∃ pl,pl = Tt.rplace s5.L nm:=⟨_,rfl⟩;rw [<- hpl] at HPLA;have HPL5:=hid (show pl = Tt.place s5.L s5.P c.name by rw [hpl,Tt.place_same10 HY5.out,hnm])
      have HREN:=hid (λ(x:World) (kk:Kp w8 x)=>refrenew_any (.slice la5 ln5 lc5) (.slice pa5 pn5 pc5) s5.L s5.P pl x (G8.out.kept kk).lvs (G8.out.kept kk).pts (right_looseA HY5.out) HY5.out c.pub HOK.out.2.1)
      have HREM:=hid (λ(x:World) (kk:Kp w8 x)=>refremove_any (.slice la5 ln5 lc5) (.slice pa5 pn5 pc5) s5.L s5.P pl x (G8.out.kept kk).lvs (G8.out.kept kk).pts (right_looseA HY5.out) HY5.out)
      rw [<- hPD] at HREN;obtain⟨er,her⟩:∃ er,er = Tt.noneErr s5.L pl:=⟨_,rfl⟩;rw [<- her] at HREN HREM;have HER:=hid her;have KR:=hid (Kept.refl w8.heap.size ub w8);have HUF:=hid (show(Value.slice fad fn fc).ownBlock≠some ub from λe=>by have h9:=(World.ownsRow.lt G6.out.fr ub e).2; have h8:=HUW.out; omega)
      clear hkd hnm hPD hn5 hpl her
      go_upto_region 9 with fail
      refine wp_region_lit ?_;refine wW λK hK=>?_;go_simp;apply hK;clear hK K
      go_upto_region 10 with fail
      refine wp_region_lit ?_;refine wW λK hK=>?_;go_simp;apply hK;clear hK K;refine wLk 3 (.tmp 37) rfl (cb) (0) rfl (.int .i64 kd) (load_int10 (HKX.out _ KR.out)) ?_
      simp only [Act.put,sA,sB,sC];refine wW λK hK=>?_;go_simp;apply hK;clear hK K
      by_cases hk2:kd = 2
      ·subst hk2
       have HK2:=hid (show c.kind = 2 from HKD.out.symm);have HEE:=hid (show Ap.err R s5 c = er by rw [Ap.err_set (.inl HK2.out),<- HPL5.out,<- HER.out])
       have HNN:=hid (show Ap.next R s5 c = ⟨Tt.renL s5.L pl c.pub,Tt.renP s5.L s5.P pl,s5.ts,s5.fr⟩ by rw [Ap.next_ren HK2.out,<- HPL5.out])
       as_aux_lemma=>
        go_upto_region 11 with fail
        have K80:Kp w8 w8.drew:=(Kept.refl _ _ _).drew;refine wp_region_noPanic ?_;refine wp_region_held_drew (S:=λx=>Kept w8.heap.size ub w8 x) (by kernel_rfl) ((Kept.refl _ _ _).drew) (λhH=>?_)
        obtain⟨wd,hwd⟩:∃ wd,wd = w8.drew:=⟨_,rfl⟩;rw [<- hwd] at hH K80 |-;have Kwd:=hid K80;have Hwd:=hid hH;clear hwd K80;refine tkA (i:=0) 41 (.agg #[.slice la5 ln5 lc5,.slice pa5 pn5 pc5]) rfl (yieldsIf_load_known (by kernel_rfl) 25 _ rfl (a0) (0) rfl (.agg #[.slice la5 ln5 lc5,.slice pa5 pn5 pc5]) (λx hx=>HTX.out x hx)) hH ?_
        simp only [sA,sB,sC];refine tkA (i:=1) 42 (.agg #[.slice la5 ln5 lc5,.slice pa5 pn5 pc5]) rfl (yieldsIf_load_known (by kernel_rfl) 25 _ rfl (a0) (0) rfl (.agg #[.slice la5 ln5 lc5,.slice pa5 pn5 pc5]) (λx hx=>HTX.out x hx)) hH ?_
        simp only [sA,sB,sC];refine tkE (i:=2) 43 rfl hH ?_
        apply Exists.intro;apply And.intro
        ·intro w9 _
         go_simp
         first | done | rfl
        simp only [sA,sB,sC];refine tkA (i:=3) 44 (.int .i64 nm) rfl (yieldsIf_load_known (by kernel_rfl) 3 _ rfl (cb) (1) rfl (.int .i64 nm) (λx hx=>load_int10 (HNX.out x hx))) hH ?_
        simp only [sA,sB,sC];refine tkE (i:=5) 46 rfl hH ?_
        apply Exists.intro;apply And.intro
        ·intro w9 _
         go_simp
         first | done | rfl
        simp only [sA,sB,sC];refine tkA (i:=6) 47 (.agg PD) rfl (yieldsIf_load_known (by kernel_rfl) 30 _ rfl (cb) (2) rfl (.agg PD) (λx hx=>HPX.out x hx)) hH ?_
        simp only [sA,sB,sC];refine wpAnyH_ready (rs:=[4]) (by kernel_rfl) (by simp) ?_
        refine AllReadyH.cons rfl (λK hK=>?_) AllReadyH.nil
        rw [if_pos (by rfl)]
        go_simp
        go_wp2_with (go_at_call 38; refine(HPLA.out _ Kwd.out).mono ?_; rintro e x4 ⟨rfl,k4⟩)
        have K4:=hid (Kwd.out.onto k4);refine hK.out _ _ (K4.out.mono (Nat.le_refl _) (λi hi _=>Nat.ne_of_lt hi)) (λhH=>?_)
        clear hK K k4;refine wpAnyH_ready (rs:=[7]) (by kernel_rfl) (by simp) ?_
        refine AllReadyH.cons rfl (λK hK=>?_) AllReadyH.nil
        rw [if_pos (by rfl)]
        go_simp
        go_wp2_with (go_at_call 37; refine(HREN.out _ K4.out).mono ?_; rintro e x7 ⟨lv2,pv2,rfl,k7,SL2,m7⟩)
        obtain⟨la2,ln2,lc2,rfl⟩:=ownc_slice m7.lo;obtain⟨pa2,pn2,pc2,rfl⟩:=ownc_slice m7.po;have KQ:=hid (K4.out.onto k7);have M7:=hid m7;have UQ:=hid (row_kept U8.out KQ.out);have GQ:=hid (G8.out.kept KQ.out);have UL:=hid (show ub < x4.heap.size from Nat.lt_of_lt_of_le (lt_of_block U8.out) K4.out.size);have UA:=hid (show a0 + 4<=ub/\(Value.slice fad fn fc).ownBlock≠some ub from⟨HUB.out.1,HUF.out⟩);have FL:=hid (λ(k:Nat) (hk:k < a0 + 4\/(Value.slice fad fn fc).ownBlock = some k)=>(hk.elim (λq=>Nat.lt_of_lt_of_le q (Nat.le_trans G8.out.sz K4.out.size)) (λq=>(World.ownsRow.lt (G8.out.kept K4.out).fr k q).2):k < x4.heap.size))
        refine hK.out _ _ (KQ.out.mono (Nat.le_refl _) (λi hi _=>Nat.ne_of_lt hi)) (λhH=>?_)
        clear hK K k7 m7;refine tkE (i:=8) 40 rfl hH ?_
        apply Exists.intro;apply And.intro
        ·intro w9 _
         go_simp
         first | done | rfl
        simp only [sA,sB,sC];refine tkE (i:=9) 49 rfl hH ?_
        apply Exists.intro;apply And.intro
        ·intro w9 _
         go_simp
         first | done | rfl
        simp only [sA,sB,sC];refine tkE (i:=10) 50 rfl hH ?_
        apply Exists.intro;apply And.intro
        ·intro w9 _
         go_simp
         first | done | rfl
        simp only [sA,sB,sC];refine wpAnyH_ready (rs:=[11]) (by kernel_rfl) (by simp) ?_
        refine AllReadyH.cons rfl (λK hK=>?_) AllReadyH.nil
        rw [if_pos (by rfl)]
        refine wp_store_row_none 25 _ _ rfl rfl ub #[.slice la2 ln2 lc2,.slice pa2 pn2 pc2] rfl rfl 25 #[.slice la5 ln5 lc5,.slice pa5 pn5 pc5] UQ.out treeInfo rfl (tree_all _ _ _ _ _ _) ?_
        have U9:=hid (setRow_heap x7 ub _ #[.slice la2 ln2 lc2,.slice pa2 pn2 pc2] _ _ UQ.out);have g9:=grown_setRow x7 ub #[.slice la2 ln2 lc2,.slice pa2 pn2 pc2];have M9:=hid (M7.out.aside (b:=ub) UL.out g9);have KS9:Hid (Kept w8.heap.size ub w8 (x7.setRow ub #[.slice la2 ln2 lc2,.slice pa2 pn2 pc2])):=hid ((KQ.out.mono (Nat.le_refl _) (λi hi _=>Nat.ne_of_lt hi)).trans ⟨rfl,rfl,rfl,by simp [World.setRow],λi hi hne=>setRow_other x7 ub i #[.slice la2 ln2 lc2,.slice pa2 pn2 pc2] hne⟩)
        have G9:=hid (GQ.out.toRb.asideU UA.out g9);generalize x7.setRow ub #[.slice la2 ln2 lc2,.slice pa2 pn2 pc2] = w9 at U9 M9 KS9 G9 |-;refine hK.out _ _ KS9.out (λhH=>?_)
        clear hK K g9;refine tkE (i:=12) 16 rfl hH ?_
        apply Exists.intro;apply And.intro
        ·intro w9 _
         go_simp
         first | done | rfl
        simp only [sA,sB,sC];refine wpAnyH_done (by kernel_rfl) ?_ _
        refine NoPanic.normal ?_;clear hH;have HKY:=hid (HKX.out _ KS9.out)
        go_upto_region 12 with fail
        refine wp_region_lit ?_;refine wW λK hK=>?_;go_simp;apply hK;clear hK K;refine wLk 3 (.tmp 51) rfl (cb) (0) rfl (.int .i64 2) (load_int10 HKY.out) ?_
        simp only [Act.put,sA,sB,sC];refine wW λK hK=>?_;go_simp;apply hK;clear hK K
        go_upto_region 14 with fail
        refine wp_region_lit ?_;refine wW λK hK=>?_;go_simp;apply hK;clear hK K;refine wLk 3 (.tmp 63) rfl (cb) (0) rfl (.int .i64 2) (load_int10 HKY.out) ?_
        simp only [Act.put,sA,sB,sC];refine wW λK hK=>?_;go_simp;apply hK;clear hK K
        by_cases he:er = 0
        ·subst he
         have HE0:=HEE
         as_aux_lemma=>
          go_upto_region 23 with fail
          refine wp_region_lit ?_;iterate 2 (refine wW λK hK=>?_;go_simp;apply hK;clear hK K)
          go_upto_region 25 with fail
          refine wp_region_lit ?_;refine wLk 25 (.tmp 15) rfl (ub) (0) rfl (.agg #[.slice la2 ln2 lc2,.slice pa2 pn2 pc2]) (run_loadVar_row w9 ub 25 25 _ (0,0) _ U9.out Tryz.underlying25 rfl treeInfo) ?_
          simp only [Act.put,sA,sB,sC];refine wpList_store_row rfl 25 _ _ rfl a0 #[.slice la2 ln2 lc2,.slice pa2 pn2 pc2] rfl rfl 25 #[.slice la5 ln5 lc5,.slice pa5 pn5 pc5] G9.out.trow treeInfo rfl (tree_all _ _ _ _ _ _) ?_
          simp only [Act.put];have GZ:=hid (G9.out.tree M9.out (λk hk=>FL.out k hk))
          generalize w9.setRow a0 #[.slice la2 ln2 lc2,.slice pa2 pn2 pc2] = wz at GZ |-;go_wp2
          go_roundw
          case rel=>
           refine⟨i + 1,by simp,hid HLT.out,_,_,Ap.next R s5 c,hid (by rw [HNN.out]; exact GZ.out),hid (Nat.le_trans (Ap.next_fr R s5 c) (by have:=HF5.out; omega)),hid (Ap.next_right HY5.out HE0.out),hid ?_⟩
           rw [HE5.out,Ap.run_ok HIA.out (by rw [<- HC.out]; exact HE0.out),<- HC.out]
          case measure=>have:=HLT.out; simp [RowKit.intOf]; omega
        ·have heb:(er != 0) = true:=by simp [he]
         have HNE:=hid he;have X9:=hid G9.out.xrow;have Y9:=hid G9.out.yrow;clear he
         as_aux_lemma=>
          go_upto_region 23 with fail
          refine wp_region_lit ?_;iterate 2 (refine wW λK hK=>?_;go_simp;apply hK;clear hK K)
          have HFIN:=hid (show Ap.result R L P ts A = (er,Ap.none) by rw [HE5.out,Ap.run_bad HIA.out (by rw [<- HC.out,HEE.out]; exact HNE.out),<- HC.out,HEE.out])
          go_upto_region 24 with fail
          refine wp_region_lit ?_;refine @wpL_build0 _ _ _ _ _ _ _ ?_ 25 rfl _ (build_tree0 _) ?_;kernel_rfl
          simp only [Act.put,sA,sB,sC];refine @wpL_build0 _ _ _ _ _ _ _ ?_ 27 rfl _ (build_times0 _) ?_;kernel_rfl
          simp only [Act.put,sA,sB,sC];refine wW λK hK=>?_;go_simp;apply hK;clear hK K;refine wpList_store_row rfl 25 _ _ rfl (a0 + 2) #[.slice none 0 0,.slice none 0 0] rfl rfl 25 #[.slice none 0 0,.slice none 0 0] X9.out treeInfo rfl (tree_all _ _ _ _ _ _) ?_
          simp only [Act.put];have X8:=setRow_heap w9 (a0 + 2) _ #[.slice none 0 0,.slice none 0 0] _ _ X9.out;have Y8:=(setRow_other w9 (a0 + 2) (a0 + 3) #[.slice none 0 0,.slice none 0 0] (by omega)).trans Y9.out
          refine wpList_store_row rfl 27 _ _ rfl (a0 + 3) (icells Ap.z64).toArray rfl rfl 27 (icells Ap.z64).toArray Y8 HZI.out rfl (icells_all _) ?_
          simp only [Act.put];iterate 2 (refine wW λK hK=>?_;go_simp;apply hK;clear hK K)
          have Y9:=setRow_heap (w9.setRow (a0 + 2) #[.slice none 0 0,.slice none 0 0]) (a0 + 3) _ (icells Ap.z64).toArray _ _ Y8;have X9:=(setRow_other (w9.setRow (a0 + 2) #[.slice none 0 0,.slice none 0 0]) (a0 + 3) (a0 + 2) (icells Ap.z64).toArray (by omega)).trans X8
          have K9:Kept w.heap.size w.heap.size w ((w9.setRow (a0 + 2) #[.slice none 0 0,.slice none 0 0]).setRow (a0 + 3) (icells Ap.z64).toArray):=kept_setRow10 (kept_setRow10 G9.out.kp (a0 + 2) (by rw [HA0.out]; omega) _) (a0 + 3) (by rw [HA0.out]; omega) _
          generalize (w9.setRow (a0 + 2) #[.slice none 0 0,.slice none 0 0]).setRow (a0 + 3) (icells Ap.z64).toArray = w9 at X9 Y9 K9 |-;go_wp2;refine bodyPost_ret (results_row4A rfl _ _ (a0 + 2) (a0 + 3) 25 #[.slice none 0 0,.slice none 0 0] (0,0) _ 27 (icells Ap.z64).toArray (0,0) _ rfl rfl X9 Y9 Tryz.underlying25 rfl treeInfo Tryz.underlying27 rfl HZI.out) rfl ?_
          rw [HFIN.out];exact⟨_,_,_,rfl,K9,ints_nil w9,[],none_mine w w9 (by exact K9.size)⟩
      ·have hb2:(kd == 2) = false:=by simpa using hk2
       have HB2:=hid hb2
       by_cases hk3:kd = 3
       ·subst hk3
        have HK3:=hid (show c.kind = 3 from HKD.out.symm);have HEE:=hid (show Ap.err R s5 c = er by rw [Ap.err_set (.inr HK3.out),<- HPL5.out,<- HER.out])
        have HNN:=hid (show Ap.next R s5 c = ⟨Tt.outL s5.L pl,Tt.outP s5.L s5.P pl,s5.ts,s5.fr⟩ by rw [Ap.next_out HK3.out,<- HPL5.out])
        clear hk2 hb2
        as_aux_lemma=>
         go_upto_region 12 with fail
         refine wp_region_lit ?_;refine wW λK hK=>?_;go_simp;apply hK;clear hK K;refine wLk 3 (.tmp 51) rfl (cb) (0) rfl (.int .i64 3) (load_int10 (HKX.out _ KR.out)) ?_
         simp only [Act.put,sA,sB,sC];refine wW λK hK=>?_;go_simp;apply hK;clear hK K
         go_upto_region 13 with fail
         have K80:Kp w8 w8.drew:=(Kept.refl _ _ _).drew;refine wp_region_noPanic ?_;refine wp_region_held_drew (S:=λx=>Kept w8.heap.size ub w8 x) (by kernel_rfl) ((Kept.refl _ _ _).drew) (λhH=>?_)
         obtain⟨wd,hwd⟩:∃ wd,wd = w8.drew:=⟨_,rfl⟩;rw [<- hwd] at hH K80 |-;have Kwd:=hid K80;have Hwd:=hid hH;clear hwd K80;refine tkA (i:=0) 55 (.agg #[.slice la5 ln5 lc5,.slice pa5 pn5 pc5]) rfl (yieldsIf_load_known (by kernel_rfl) 25 _ rfl (a0) (0) rfl (.agg #[.slice la5 ln5 lc5,.slice pa5 pn5 pc5]) (λx hx=>HTX.out x hx)) hH ?_
         simp only [sA,sB,sC];refine tkA (i:=1) 56 (.agg #[.slice la5 ln5 lc5,.slice pa5 pn5 pc5]) rfl (yieldsIf_load_known (by kernel_rfl) 25 _ rfl (a0) (0) rfl (.agg #[.slice la5 ln5 lc5,.slice pa5 pn5 pc5]) (λx hx=>HTX.out x hx)) hH ?_
         simp only [sA,sB,sC];refine tkE (i:=2) 57 rfl hH ?_
         apply Exists.intro;apply And.intro
         ·intro w9 _
          go_simp
          first | done | rfl
         simp only [sA,sB,sC];refine tkA (i:=3) 58 (.int .i64 nm) rfl (yieldsIf_load_known (by kernel_rfl) 3 _ rfl (cb) (1) rfl (.int .i64 nm) (λx hx=>load_int10 (HNX.out x hx))) hH ?_
         simp only [sA,sB,sC];refine wpAnyH_ready (rs:=[4]) (by kernel_rfl) (by simp) ?_
         refine AllReadyH.cons rfl (λK hK=>?_) AllReadyH.nil
         rw [if_pos (by rfl)]
         go_simp
         go_wp2_with (go_at_call 38; refine(HPLA.out _ Kwd.out).mono ?_; rintro e x4 ⟨rfl,k4⟩)
         have K4:=hid (Kwd.out.onto k4);refine hK.out _ _ (K4.out.mono (Nat.le_refl _) (λi hi _=>Nat.ne_of_lt hi)) (λhH=>?_)
         clear hK K k4;refine wpAnyH_ready (rs:=[5]) (by kernel_rfl) (by simp) ?_
         refine AllReadyH.cons rfl (λK hK=>?_) AllReadyH.nil
         rw [if_pos (by rfl)]
         go_simp
         go_wp2_with (go_at_call 39; refine(HREM.out _ K4.out).mono ?_; rintro e x7 ⟨lv2,pv2,rfl,k7,SL2,m7⟩)
         obtain⟨la2,ln2,lc2,rfl⟩:=ownc_slice m7.lo;obtain⟨pa2,pn2,pc2,rfl⟩:=ownc_slice m7.po;have KQ:=hid (K4.out.onto k7);have M7:=hid m7;have UQ:=hid (row_kept U8.out KQ.out);have GQ:=hid (G8.out.kept KQ.out);have UL:=hid (show ub < x4.heap.size from Nat.lt_of_lt_of_le (lt_of_block U8.out) K4.out.size);have UA:=hid (show a0 + 4<=ub/\(Value.slice fad fn fc).ownBlock≠some ub from⟨HUB.out.1,HUF.out⟩);have FL:=hid (λ(k:Nat) (hk:k < a0 + 4\/(Value.slice fad fn fc).ownBlock = some k)=>(hk.elim (λq=>Nat.lt_of_lt_of_le q (Nat.le_trans G8.out.sz K4.out.size)) (λq=>(World.ownsRow.lt (G8.out.kept K4.out).fr k q).2):k < x4.heap.size))
         refine hK.out _ _ (KQ.out.mono (Nat.le_refl _) (λi hi _=>Nat.ne_of_lt hi)) (λhH=>?_)
         clear hK K k7 m7;refine tkE (i:=6) 54 rfl hH ?_
         apply Exists.intro;apply And.intro
         ·intro w9 _
          go_simp
          first | done | rfl
         simp only [sA,sB,sC];refine tkE (i:=7) 61 rfl hH ?_
         apply Exists.intro;apply And.intro
         ·intro w9 _
          go_simp
          first | done | rfl
         simp only [sA,sB,sC];refine tkE (i:=8) 62 rfl hH ?_
         apply Exists.intro;apply And.intro
         ·intro w9 _
          go_simp
          first | done | rfl
         simp only [sA,sB,sC];refine wpAnyH_ready (rs:=[9]) (by kernel_rfl) (by simp) ?_
         refine AllReadyH.cons rfl (λK hK=>?_) AllReadyH.nil
         rw [if_pos (by rfl)]
         refine wp_store_row_none 25 _ _ rfl rfl ub #[.slice la2 ln2 lc2,.slice pa2 pn2 pc2] rfl rfl 25 #[.slice la5 ln5 lc5,.slice pa5 pn5 pc5] UQ.out treeInfo rfl (tree_all _ _ _ _ _ _) ?_
         have U9:=hid (setRow_heap x7 ub _ #[.slice la2 ln2 lc2,.slice pa2 pn2 pc2] _ _ UQ.out);have g9:=grown_setRow x7 ub #[.slice la2 ln2 lc2,.slice pa2 pn2 pc2];have M9:=hid (M7.out.aside (b:=ub) UL.out g9);have KS9:Hid (Kept w8.heap.size ub w8 (x7.setRow ub #[.slice la2 ln2 lc2,.slice pa2 pn2 pc2])):=hid ((KQ.out.mono (Nat.le_refl _) (λi hi _=>Nat.ne_of_lt hi)).trans ⟨rfl,rfl,rfl,by simp [World.setRow],λi hi hne=>setRow_other x7 ub i #[.slice la2 ln2 lc2,.slice pa2 pn2 pc2] hne⟩)
         have G9:=hid (GQ.out.toRb.asideU UA.out g9);generalize x7.setRow ub #[.slice la2 ln2 lc2,.slice pa2 pn2 pc2] = w9 at U9 M9 KS9 G9 |-;refine hK.out _ _ KS9.out (λhH=>?_)
         clear hK K g9;refine tkE (i:=10) 16 rfl hH ?_
         apply Exists.intro;apply And.intro
         ·intro w9 _
          go_simp
          first | done | rfl
         simp only [sA,sB,sC];refine wpAnyH_done (by kernel_rfl) ?_ _
         refine NoPanic.normal ?_;clear hH;have HKY:=hid (HKX.out _ KS9.out)
         go_upto_region 14 with fail
         refine wp_region_lit ?_;refine wW λK hK=>?_;go_simp;apply hK;clear hK K;refine wLk 3 (.tmp 63) rfl (cb) (0) rfl (.int .i64 3) (load_int10 HKY.out) ?_
         simp only [Act.put,sA,sB,sC];refine wW λK hK=>?_;go_simp;apply hK;clear hK K
         by_cases he:er = 0
         ·subst he
          have HE0:=HEE
          as_aux_lemma=>
           go_upto_region 23 with fail
           refine wp_region_lit ?_;iterate 2 (refine wW λK hK=>?_;go_simp;apply hK;clear hK K)
           go_upto_region 25 with fail
           refine wp_region_lit ?_;refine wLk 25 (.tmp 15) rfl (ub) (0) rfl (.agg #[.slice la2 ln2 lc2,.slice pa2 pn2 pc2]) (run_loadVar_row w9 ub 25 25 _ (0,0) _ U9.out Tryz.underlying25 rfl treeInfo) ?_
           simp only [Act.put,sA,sB,sC];refine wpList_store_row rfl 25 _ _ rfl a0 #[.slice la2 ln2 lc2,.slice pa2 pn2 pc2] rfl rfl 25 #[.slice la5 ln5 lc5,.slice pa5 pn5 pc5] G9.out.trow treeInfo rfl (tree_all _ _ _ _ _ _) ?_
           simp only [Act.put];have GZ:=hid (G9.out.tree M9.out (λk hk=>FL.out k hk))
           generalize w9.setRow a0 #[.slice la2 ln2 lc2,.slice pa2 pn2 pc2] = wz at GZ |-;go_wp2
           go_roundw
           case rel=>
            refine⟨i + 1,by simp,hid HLT.out,_,_,Ap.next R s5 c,hid (by rw [HNN.out]; exact GZ.out),hid (Nat.le_trans (Ap.next_fr R s5 c) (by have:=HF5.out; omega)),hid (Ap.next_right HY5.out HE0.out),hid ?_⟩
            rw [HE5.out,Ap.run_ok HIA.out (by rw [<- HC.out]; exact HE0.out),<- HC.out]
           case measure=>have:=HLT.out; simp [RowKit.intOf]; omega
         ·have heb:(er != 0) = true:=by simp [he]
          have HNE:=hid he;have X9:=hid G9.out.xrow;have Y9:=hid G9.out.yrow;clear he
          as_aux_lemma=>
           go_upto_region 23 with fail
           refine wp_region_lit ?_;iterate 2 (refine wW λK hK=>?_;go_simp;apply hK;clear hK K)
           have HFIN:=hid (show Ap.result R L P ts A = (er,Ap.none) by rw [HE5.out,Ap.run_bad HIA.out (by rw [<- HC.out,HEE.out]; exact HNE.out),<- HC.out,HEE.out])
           go_upto_region 24 with fail
           refine wp_region_lit ?_;refine @wpL_build0 _ _ _ _ _ _ _ ?_ 25 rfl _ (build_tree0 _) ?_;kernel_rfl
           simp only [Act.put,sA,sB,sC];refine @wpL_build0 _ _ _ _ _ _ _ ?_ 27 rfl _ (build_times0 _) ?_;kernel_rfl
           simp only [Act.put,sA,sB,sC];refine wW λK hK=>?_;go_simp;apply hK;clear hK K;refine wpList_store_row rfl 25 _ _ rfl (a0 + 2) #[.slice none 0 0,.slice none 0 0] rfl rfl 25 #[.slice none 0 0,.slice none 0 0] X9.out treeInfo rfl (tree_all _ _ _ _ _ _) ?_
           simp only [Act.put];have X8:=setRow_heap w9 (a0 + 2) _ #[.slice none 0 0,.slice none 0 0] _ _ X9.out;have Y8:=(setRow_other w9 (a0 + 2) (a0 + 3) #[.slice none 0 0,.slice none 0 0] (by omega)).trans Y9.out
           refine wpList_store_row rfl 27 _ _ rfl (a0 + 3) (icells Ap.z64).toArray rfl rfl 27 (icells Ap.z64).toArray Y8 HZI.out rfl (icells_all _) ?_
           simp only [Act.put];iterate 2 (refine wW λK hK=>?_;go_simp;apply hK;clear hK K)
           have Y9:=setRow_heap (w9.setRow (a0 + 2) #[.slice none 0 0,.slice none 0 0]) (a0 + 3) _ (icells Ap.z64).toArray _ _ Y8;have X9:=(setRow_other (w9.setRow (a0 + 2) #[.slice none 0 0,.slice none 0 0]) (a0 + 3) (a0 + 2) (icells Ap.z64).toArray (by omega)).trans X8
           have K9:Kept w.heap.size w.heap.size w ((w9.setRow (a0 + 2) #[.slice none 0 0,.slice none 0 0]).setRow (a0 + 3) (icells Ap.z64).toArray):=kept_setRow10 (kept_setRow10 G9.out.kp (a0 + 2) (by rw [HA0.out]; omega) _) (a0 + 3) (by rw [HA0.out]; omega) _
           generalize (w9.setRow (a0 + 2) #[.slice none 0 0,.slice none 0 0]).setRow (a0 + 3) (icells Ap.z64).toArray = w9 at X9 Y9 K9 |-;go_wp2;refine bodyPost_ret (results_row4A rfl _ _ (a0 + 2) (a0 + 3) 25 #[.slice none 0 0,.slice none 0 0] (0,0) _ 27 (icells Ap.z64).toArray (0,0) _ rfl rfl X9 Y9 Tryz.underlying25 rfl treeInfo Tryz.underlying27 rfl HZI.out) rfl ?_
           rw [HFIN.out];exact⟨_,_,_,rfl,K9,ints_nil w9,[],none_mine w w9 (by exact K9.size)⟩
       ·have hb3:(kd == 3) = false:=by simpa using hk3
        by_cases hk1:kd = 1
        ·subst hk1
         have HK1:=hid (show c.kind = 1 from HKD.out.symm);have HEE:=hid (show Ap.err R s5 c = Ap.aerr R s5 nm by rw [Ap.err_add HK1.out,<- HNM.out])
         clear hk2 hb2 hk3
         as_aux_lemma=>
          go_upto_region 12 with fail
          refine wp_region_lit ?_;refine wW λK hK=>?_;go_simp;apply hK;clear hK K;refine wLk 3 (.tmp 51) rfl (cb) (0) rfl (.int .i64 1) (load_int10 (HKX.out _ KR.out)) ?_
          simp only [Act.put,sA,sB,sC];refine wW λK hK=>?_;go_simp;apply hK;clear hK K
          go_upto_region 14 with fail
          refine wp_region_lit ?_;refine wW λK hK=>?_;go_simp;apply hK;clear hK K;refine wLk 3 (.tmp 63) rfl (cb) (0) rfl (.int .i64 1) (load_int10 (HKX.out _ KR.out)) ?_
          simp only [Act.put,sA,sB,sC];refine wW λK hK=>?_;go_simp;apply hK;clear hK K;obtain⟨T5,hT5⟩:∃ D,D = (icells s5.ts).toArray:=⟨_,rfl⟩;have HT5I:=hid (timesInfo (cs:=T5) (by rw [hT5]; simp [icells_length,G8.out.ts]))
          have hcard:=refcard_calls10 (.slice rad rn rc) s5.ts R nm w8 (HR.out.kept G8.out.kp) G8.out.ts HRN.out HRC.out;have hts:=G8.out.srow;rw [<- hT5] at hcard hts;obtain⟨ce,hce⟩:∃ ce,ce = Ap.cardErr R s5.ts nm:=⟨_,rfl⟩;obtain⟨KDD,hKD⟩:∃ D,D = (cdCells (Ap.cardOf R s5.ts nm)).toArray:=⟨_,rfl⟩;rw [<- hce,<- hKD] at hcard
          have hkok:CdOk (Ap.cardOf R s5.ts nm):=by
           by_cases h0:Ap.cardErr R s5.ts nm = 0
           ·rw [Ap.cardOf_yes h0]; exact(HR.out.ok _ (Ap.person_mem (Ap.cardErr_zero h0).1)).2 _ (Ap.card_mem (Ap.cardErr_zero h0).2)
           ·rw [Ap.cardOf_no h0]; exact⟨rfl,rfl⟩
          have HKS:=hid (show KDD.size = 64 by rw [hKD,List.size_toArray]; exact cdCells_length hkok)
          have HKI:=hid (cardInfo HKS.out);have HKA:=hid (show KDD.all (·.oneCell') = true by rw [hKD]; exact all_oneCell_toArray (cdCells_one _))
          have HCRD:=hid hcard;have HTS:=hid hts;have HCE:=hid hce;have HKDD:=hid hKD;have HT5:=hid hT5;clear hcard hts hce hKD hkok hT5
          go_upto_region 15 with fail
          refine wp_region_lit ?_;refine wLk 27 (.tmp 5) rfl (a0 + 1) (0) rfl (.agg T5) (run_loadVar_row w8 (a0 + 1) 27 27 _ (0,0) _ HTS.out Tryz.underlying27 rfl HT5I.out) ?_
          simp only [Act.put,sA,sB,sC];iterate 2 (refine wW λK hK=>?_;go_simp;apply hK;clear hK K)
          refine wLk 3 (.tmp 69) rfl (cb) (1) rfl (.int .i64 nm) (load_int10 (HNX.out _ KR.out)) ?_
          simp only [Act.put,sA,sB,sC];refine wW λK hK=>?_;go_simp;go_at_call 40
          refine(HCRD.out).mono ?_;rintro e w9 ⟨rfl,k9⟩;apply hK;clear hK K;iterate 3 (refine wW λK hK=>?_;go_simp;apply hK;clear hK K)
          refine @wpL_alloc _ _ _ _ _ _ _ _ ?_ 50 rfl _ (alloc_card _) ?_;kernel_rfl
          simp only [Act.put,sA,sB,sC];refine wpList_store_row rfl 50 _ _ rfl (w9.heap.size) KDD rfl rfl 50 (cdCells (Tt.z32,Tt.z32)).toArray (heap_new _ _) (HKI.out) (by rw [HKS.out]; rfl) (HKA.out) ?_
          simp only [Act.put];rw [World.setRow_alloc_new];refine wW λK hK=>?_;go_simp;apply hK;clear hK K;have kx:=k9.onto (kA w9 (.cells KDD 50))
          have rk:=heap_new w9 (.cells KDD 50)
          generalize w9.alloc (.cells KDD 50) = w15 at kx rk |-
          obtain⟨db,hdb⟩:∃ n,n = w9.heap.size:=⟨_,rfl⟩;rw [<- hdb] at rk
          (try rw [<- hdb])
          have HDU:=hid (show ub≠db by have:=lt_of_block U8.out; have:=k9.size; omega)
          have KX:=hid kx;have RK:=hid rk;have GX:=hid (G8.out.kept kx);have UX:=hid (row_kept U8.out kx);clear kx rk k9 hdb
          go_upto_region 16 with fail
          refine wp_region_lit ?_;iterate 2 (refine wW λK hK=>?_;go_simp;apply hK;clear hK K)
          by_cases hc0:ce = 0
          ·subst hc0
           have HC0:=hid (show Ap.cardErr R s5.ts nm = 0 from HCE.out.symm)
           as_aux_lemma=>
            go_upto_region 17 with fail
            refine wp_region_lit ?_;iterate 2 (refine wW λK hK=>?_;go_simp;apply hK;clear hK K)
            go_upto_region 18 with fail
            refine wp_region_lit ?_;refine wW λK hK=>?_;go_simp;apply hK;clear hK K;obtain⟨hkn,hlf⟩:=Ap.cardErr_zero HC0.out;obtain⟨hn1,hn64,hnr⟩:=Ap.known_iff.1 hkn;obtain⟨hcn0,hcnl⟩:=Ap.left_iff.1 hlf;obtain⟨k,rfl⟩:∃ k:Nat,nm = (k:Int) + 1:=⟨(nm - 1).toNat,by omega⟩
            have hk:k < 64:=by omega
            have hki:(k:Int) < 64:=by omega
            obtain⟨q,hq⟩:∃ q:Nat,Ap.count s5.ts ((k:Int) + 1) = (q:Int):=⟨(Ap.count s5.ts ((k:Int) + 1)).toNat,by omega⟩
            have hq1000:(q:Int)<=1000:=by have:=HRC.out _ (Ap.person_mem hkn); omega
            have hkt:k < s5.ts.length:=by rw [G8.out.ts]; exact hk
            have HKT:=hid hkt
            have HTC:=hid (show s5.ts[k]'HKT.out = (q:Int) by
             rw [<- hq,Ap.count,show((k:Int) + 1).toNat - 1 = k by omega,List.getD_eq_getElem?_getD,List.getElem?_eq_getElem hkt,Option.getD_some])
            have HBU:=hid (show Ap.bump s5.ts ((k:Int) + 1) = s5.ts.set k ((q:Int) + 1) by rw [Ap.bump,hq,show((k:Int) + 1).toNat - 1 = k by omega])
            have HK64:=hid hk;have hkr:k < R.length:=by omega
            obtain⟨rad',rg,ro,rc',hsl,hcell⟩:=HR.out;injection hsl with h1 h2 h3
            subst h1 h3;obtain⟨had,hrg,hver,cv,hrow,hzz⟩:=hcell k hkr;clear hzz;subst had;obtain⟨p,hp⟩:∃ p,p = R[k]'hkr:=⟨_,rfl⟩;rw [<- hp] at hver hrow
            have HPE:=hid (show Ap.person R ((k:Int) + 1) = p by
             rw [Ap.person,show((k:Int) + 1).toNat - 1 = k by omega,List.getD_eq_getElem?_getD,List.getElem?_eq_getElem hkr,Option.getD_some,hp])
            have hrn2:(k:Int) < (rn:Int):=by omega
            have hk0:¬ (k:Int) < 0:=by omega
            obtain⟨cd,hcd⟩:∃ d,d = Ap.card R s5.ts ((k:Int) + 1):=⟨_,rfl⟩;have hcok:CdOk cd:=by rw [hcd]; exact(HR.out.ok _ (Ap.person_mem hkn)).2 _ (Ap.card_mem hlf)
            have HKY:=hid (show KDD = (cdCells cd).toArray by rw [HKDD.out,Ap.cardOf_yes HC0.out,hcd])
            have HCOK:=hid hcok;have HVER:=hid hver;have HLEF:=hid (show Ap.leaf R s5.ts ((k:Int) + 1) = ⟨(k:Int) + 1,cd.2,p.ver,Tt.z32⟩ by rw [Ap.leaf,<- hcd,HPE.out])
            obtain⟨l,hl⟩:∃ l:Lf,l = ⟨(k:Int) + 1,cd.2,p.ver,Tt.z32⟩:=⟨_,rfl⟩;have hlo:l.Ok:=by rw [hl]; exact⟨hcok.2,hver,rfl⟩
            have HNMX:=hid (show l.name = (k:Int) + 1 by rw [hl])
            have HADD:=hid (λ(x:World) (kk:Kp w15 x)=>refadd_any (.slice la5 ln5 lc5) (.slice pa5 pn5 pc5) s5.L s5.P l hlo x (GX.out.kept kk).lvs (GX.out.kept kk).pts (right_looseA HY5.out) HY5.out)
            have HBL:=hid (λu=>build_leaf3 u ((k:Int) + 1) cd.2 p.ver hcok.2 hver)
            rw [<- hl] at HBL;obtain⟨LD,hLD⟩:∃ D,D = l.cells.toArray:=⟨_,rfl⟩;rw [<- hLD] at HADD HBL;obtain⟨D1,hD1⟩:∃ D,D = (bcells cd.2).toArray:=⟨_,rfl⟩;obtain⟨D2,hD2⟩:∃ D,D = (bcells p.ver).toArray:=⟨_,rfl⟩;rw [<- hD1,<- hD2] at HBL;obtain⟨er2,her2⟩:∃ q,q = Tt.addErr s5.L l.name:=⟨_,rfl⟩;obtain⟨at9,hat⟩:∃ q,q = Tt.addAt s5.L l.name:=⟨_,rfl⟩;rw [<- her2,<- hat] at HADD;have HER2:=hid her2;have HAT:=hid hat;have HL9:=hid hl;have HKW:=hid (show IntKind.i64.wrap (k:Int) = (k:Int) from wrap_small _ (by omega) (by omega))
            have HQW:=hid (show IntKind.i64.wrap ((q:Int) + 1) = (q:Int) + 1 from wrap_small _ (by omega) (by omega))
            have HX8:=hid (λ(x:World) (kk:Kept w15.heap.size ub w15 x)=>(((KX.out.mono (Nat.le_refl _) (λi hi _=>Nat.ne_of_lt hi)).trans (kk.mono KX.out.size (λi hi h=>h))):Kept w8.heap.size ub w8 x))
            have HCV:=hid (λ(x:World) (kk:Kept w15.heap.size ub w15 x)=>(by
             have hr9:=RK.out;rw [HKY.out] at hr9;have h9:w15.rangeAt db 0 (cdCells cd):=row_part10 hr9 [] _ [] (by simp) 0 rfl
             have h8:=card_init h9 HCOK.out;rw [Nat.zero_add] at h8;rw [hD1]
             exact load_hash (rangeAt_keptA kk h8 (lt_of_block RK.out) HDU.out.symm) HCOK.out.2:(loadVar 30 ⟨db,32,none⟩).run Tryz.prog x = .ok (.agg D1) x))
            have HRGU:=hid (show rg≠ub by have:=G8.out.a; have:=HUB.out.1; omega)
            have HPVX:=hid (λ(x:World) (kk:Kept w15.heap.size ub w15 x)=>(by rw [hD2]; exact load_hash (rangeAt_keptA kk (person_ver (range_kept10 hrow hrg GX.out.kp)) (Nat.lt_of_lt_of_le hrg GX.out.kp.size) HRGU.out) HVER.out:(loadVar 30 ⟨rg,ro + k * 33,none⟩).run Tryz.prog x = .ok (.agg D2) x))
            clear hkn hlf hnr hcn0 hcnl hq hkt hkr hcell hver hrow hrg hp hcd hcok hl hlo hLD hD1 hD2 her2 hat h2 hn1 hn64
            go_upto_region 19 with fail
            have K80:Kp w15 w15.drew:=(Kept.refl _ _ _).drew;refine wp_region_noPanic ?_;refine wp_region_held_drew (S:=λx=>Kept w15.heap.size ub w15 x) (by kernel_rfl) ((Kept.refl _ _ _).drew) (λhH=>?_)
            obtain⟨wd,hwd⟩:∃ wd,wd = w15.drew:=⟨_,rfl⟩;rw [<- hwd] at hH K80 |-;have Kwd:=hid K80;clear hwd K80;refine tkA (i:=0) 78 (.agg #[.slice la5 ln5 lc5,.slice pa5 pn5 pc5]) rfl (yieldsIf_load_known (by kernel_rfl) 25 _ rfl (a0) (0) rfl (.agg #[.slice la5 ln5 lc5,.slice pa5 pn5 pc5]) (λx hx=>HTX.out x (HX8.out x hx))) hH ?_
            simp only [sA,sB,sC];refine tkE (i:=1) 79 rfl hH ?_
            apply Exists.intro;apply And.intro
            ·intro w9 _
             go_simp
             first | done | rfl
            simp only [sA,sB,sC];refine tkA (i:=2) 80 (.int .i64 ((k:Int) + 1)) rfl (yieldsIf_load_known (by kernel_rfl) 3 _ rfl (cb) (1) rfl (.int .i64 ((k:Int) + 1)) (λx hx=>load_int10 (HNX.out x (HX8.out x hx)))) hH ?_
            simp only [sA,sB,sC];refine tkE (i:=3) 81 rfl hH ?_
            apply Exists.intro;apply And.intro
            ·intro w9 _
             go_simp
             first | done | rfl
            simp only [sA,sB,sC];refine tkA (i:=4) 82 (.agg D1) rfl (yieldsIf_load_known (by kernel_rfl) 30 _ rfl (db) (32) rfl (.agg D1) (λx hx=>HCV.out x hx)) hH ?_
            simp only [sA,sB,sC];refine tkE (i:=5) 83 rfl hH ?_
            apply Exists.intro;apply And.intro
            ·intro w9 _
             go_simp
             first | done | rfl
            simp only [sA,sB,sC];refine tkE (i:=6) 84 rfl hH ?_
            apply Exists.intro;apply And.intro
            ·intro w9 _
             go_simp
             first | done | rfl
            simp only [sA,sB,sC];refine tkA (i:=7) 85 (.int .i64 ((k:Int) + 1)) rfl (yieldsIf_load_known (by kernel_rfl) 3 _ rfl (cb) (1) rfl (.int .i64 ((k:Int) + 1)) (λx hx=>load_int10 (HNX.out x (HX8.out x hx)))) hH ?_
            simp only [sA,sB,sC];refine tkA (i:=8) 86 (.int .i64 (k:Int)) rfl (.inl ⟨by kernel_rfl,λw9 _=>by go_simp; first | exact HKW.out | rw [HKW.out]⟩) hH ?_
            simp only [sA,sB,sC];refine tkE (i:=9) 87 rfl hH ?_
            apply Exists.intro;apply And.intro
            ·intro w9 _
             go_simp
             first | done | rfl
            simp only [sA,sB,sC];refine tkE (i:=10) 88 rfl hH ?_
            apply Exists.intro;apply And.intro
            ·intro w9 _
             go_simp
             first | done | rfl
            simp only [sA,sB,sC];refine tkA (i:=11) 89 (.agg D2) rfl (yieldsIf_load_known (by kernel_rfl) 30 _ rfl (rg) (ro + k * 33) rfl (.agg D2) (λx hx=>HPVX.out x hx)) hH ?_
            simp only [sA,sB,sC];refine tkA (i:=12) 90 (.agg LD) rfl (yieldsIf_buildN (by kernel_rfl) 48 _ rfl #[(0,.int .i64 ((k:Int) + 1)),(1,.agg D1),(2,.agg D2)] (by simp only [List.map_toArray,List.map_cons,List.map_nil]; rfl) (.agg LD) (λx=>HBL.out x)) hH ?_
            simp only [sA,sB,sC];refine wpAnyH_ready (rs:=[13]) (by kernel_rfl) (by simp) ?_
            refine AllReadyH.cons rfl (λK hK=>?_) AllReadyH.nil
            rw [if_pos (by rfl)]
            go_simp
            go_wp2_with (go_at_call 41; refine(HADD.out _ Kwd.out).mono ?_; rintro e x7 ⟨lv2,pv2,rfl,k7,SL2,m7⟩)
            obtain⟨la2,ln2,lc2,rfl⟩:=ownc_slice m7.lo;obtain⟨pa2,pn2,pc2,rfl⟩:=ownc_slice m7.po;have KQ:=hid (Kwd.out.onto k7);have M7:=hid m7;have UQ:=hid (row_kept UX.out KQ.out);have GQ:=hid (GX.out.kept KQ.out);have UL:=hid (show ub < wd.heap.size from Nat.lt_of_lt_of_le (lt_of_block UX.out) Kwd.out.size);have UA:=hid (show a0 + 4<=ub/\(Value.slice fad fn fc).ownBlock≠some ub from⟨HUB.out.1,HUF.out⟩);have FL:=hid (λ(k:Nat) (hk:k < a0 + 4\/(Value.slice fad fn fc).ownBlock = some k)=>(hk.elim (λq=>Nat.lt_of_lt_of_le q (Nat.le_trans GX.out.sz Kwd.out.size)) (λq=>(World.ownsRow.lt (GX.out.kept Kwd.out).fr k q).2):k < wd.heap.size))
            refine hK.out _ _ (KQ.out.mono (Nat.le_refl _) (λi hi _=>Nat.ne_of_lt hi)) (λhH=>?_)
            clear hK K k7 m7;refine tkE (i:=14) 77 rfl hH ?_
            apply Exists.intro;apply And.intro
            ·intro w9 _
             go_simp
             first | done | rfl
            simp only [sA,sB,sC];refine tkE (i:=15) 92 rfl hH ?_
            apply Exists.intro;apply And.intro
            ·intro w9 _
             go_simp
             first | done | rfl
            simp only [sA,sB,sC];refine tkE (i:=16) 93 rfl hH ?_
            apply Exists.intro;apply And.intro
            ·intro w9 _
             go_simp
             first | done | rfl
            simp only [sA,sB,sC];refine tkE (i:=17) 94 rfl hH ?_
            apply Exists.intro;apply And.intro
            ·intro w9 _
             go_simp
             first | done | rfl
            simp only [sA,sB,sC];refine wpAnyH_ready (rs:=[18]) (by kernel_rfl) (by simp) ?_
            refine AllReadyH.cons rfl (λK hK=>?_) AllReadyH.nil
            rw [if_pos (by rfl)]
            refine wp_store_row_none 25 _ _ rfl rfl ub #[.slice la2 ln2 lc2,.slice pa2 pn2 pc2] rfl rfl 25 #[.slice la5 ln5 lc5,.slice pa5 pn5 pc5] UQ.out treeInfo rfl (tree_all _ _ _ _ _ _) ?_
            have U9:=hid (setRow_heap x7 ub _ #[.slice la2 ln2 lc2,.slice pa2 pn2 pc2] _ _ UQ.out);have g9:=grown_setRow x7 ub #[.slice la2 ln2 lc2,.slice pa2 pn2 pc2];have M9:=hid (M7.out.aside (b:=ub) UL.out g9);have KS9:Hid (Kept w15.heap.size ub w15 (x7.setRow ub #[.slice la2 ln2 lc2,.slice pa2 pn2 pc2])):=hid ((KQ.out.mono (Nat.le_refl _) (λi hi _=>Nat.ne_of_lt hi)).trans ⟨rfl,rfl,rfl,by simp [World.setRow],λi hi hne=>setRow_other x7 ub i #[.slice la2 ln2 lc2,.slice pa2 pn2 pc2] hne⟩)
            have G9:=hid (GQ.out.toRb.asideU UA.out g9);generalize x7.setRow ub #[.slice la2 ln2 lc2,.slice pa2 pn2 pc2] = w9 at U9 M9 KS9 G9 |-;refine hK.out _ _ KS9.out (λhH=>?_)
            clear hK K g9;refine tkE (i:=19) 19 rfl hH ?_
            apply Exists.intro;apply And.intro
            ·intro w9 _
             go_simp
             first | done | rfl
            simp only [sA,sB,sC];refine tkE (i:=20) 16 rfl hH ?_
            apply Exists.intro;apply And.intro
            ·intro w9 _
             go_simp
             first | done | rfl
            simp only [sA,sB,sC];refine wpAnyH_done (by kernel_rfl) ?_ _
            refine NoPanic.normal ?_;clear hH
            by_cases he:er2 = 0
            ·subst he
             have HE0:=hid (show Ap.err R s5 c = 0 by rw [HEE.out,Ap.aerr_yes HC0.out,<- HNMX.out,<- HER2.out])
             as_aux_lemma=>
              go_upto_region 20 with fail
              refine wp_region_lit ?_;iterate 2 (refine wW λK hK=>?_;go_simp;apply hK;clear hK K)
              have hti:w9.cell? ⟨a0 + 1,k,none⟩ = some (.int .i64 (q:Int)):=by
               have h9:=cells_at G9.out.srow k (by rw [icells_length]; exact HKT.out)
               rw [h9];have h8:=icells_at HKT.out;rw [List.getElem?_eq_getElem (by rw [icells_length]; exact HKT.out)] at h8
               rw [h8,HTC.out]
              obtain⟨hth,hg10⟩:=G9.out.time k HK64.out ((q:Int) + 1);have HTH:=hid hth;have G10:=hid hg10;have gset:=grown_set w9 (a0 + 1) k (.int .i64 ((q:Int) + 1));have M10:=hid (M9.out.aside (b:=a0 + 1) (FL.out _ (.inl (by omega))) gset)
              have U10:=hid ((gset.block ub (lt_of_block U9.out) (λe=>by have:=Option.some.inj e; have:=HUB.out.1; omega)).trans U9.out)
              clear hth hg10 gset
              go_upto_region 21 with fail
              refine wp_region_lit ?_;refine wW λK hK=>?_;go_simp;apply hK;clear hK K;refine wLk 3 (.tmp 97) rfl (cb) (1) rfl (.int .i64 ((k:Int) + 1)) (load_int10 (HNX.out _ (HX8.out _ KS9.out))) ?_
              simp only [Act.put,sA,sB,sC];refine wW λK hK=>?_;go_simp;apply hK;clear hK K;rw [HKW.out];refine wW λK hK=>?_;go_simp;apply hK;clear hK K;refine wLk 3 (.tmp 100) rfl (a0 + 1) (k) rfl (.int .i64 (q:Int)) (load_int10 hti) ?_
              simp only [Act.put,sA,sB,sC];refine wW λK hK=>?_;go_simp;apply hK;clear hK K;rw [HQW.out];refine wW λK hK=>?_;go_simp;apply hK;clear hK K;refine @wpL_store_cellA _ _ _ _ _ _ _ ?_ 3 _ _ rfl (a0 + 1) k (.int .i64 ((q:Int) + 1)) rfl rfl HTH.out rfl (by kernel_rfl) ?_;kernel_rfl
              simp only [Act.put];generalize w9.setCell ⟨a0 + 1,k,none⟩ (.int .i64 ((q:Int) + 1)) = w10 at G10 M10 U10 |-;clear hti;obtain⟨ad9,n9,c9,w11,hr9,hg11,hmv,hbk⟩:=G10.out.more at9 (show s5.fr.length<=1000 by have:=HF5.out; have:=hi.out; have:=HAL.out; have:=HAN.out; omega)
              have G11:=hid hg11;have HR9:=hid hr9;have M11:=hid (hmv _ _ _ _ _ _ M10.out (λb e=>FL.out b (.inr e)))
              have U11:=hid (hbk ub _ U10.out HUF.out);clear hg11 hr9 hmv hbk
              go_upto_region 22 with fail
              refine wp_region_lit ?_;iterate 2 (refine wW λK hK=>?_;go_simp;apply hK;clear hK K)
              refine @wpL_build_known _ _ _ _ _ _ _ _ ?_ 38 (.tmp 105) rfl (.int .i64 at9) _ rfl (build_int1 w10 at9) ?_;kernel_rfl
              simp only [Act.put,sA,sB,sC];refine wpList_append_known rfl (.tmp 104) (.tmp 106) 38 38 38 rfl rfl (.slice fad fn fc) (.slice (some ⟨w10.heap.size,0,none⟩) 1 1) rfl rfl HR9.out ?_
              simp only [Act.put,sA,sB,sC];refine wW λK hK=>?_;go_simp;apply hK;clear hK K
              have HNN:=hid (show Ap.next R s5 c = ⟨Tt.putL s5.L l,Tt.putP s5.L s5.P l.name,s5.ts.set k ((q:Int) + 1),s5.fr ++ [at9]⟩ by
               rw [Ap.next_add HK1.out,<- HNM.out];unfold Ap.anext
               rw [HBU.out,HLEF.out,<- HL9.out,HAT.out,HNMX.out])
              go_upto_region 23 with fail
              refine wp_region_lit ?_;iterate 2 (refine wW λK hK=>?_;go_simp;apply hK;clear hK K)
              go_upto_region 25 with fail
              refine wp_region_lit ?_;refine wLk 25 (.tmp 15) rfl (ub) (0) rfl (.agg #[.slice la2 ln2 lc2,.slice pa2 pn2 pc2]) (run_loadVar_row w11 ub 25 25 _ (0,0) _ U11.out Tryz.underlying25 rfl treeInfo) ?_
              simp only [Act.put,sA,sB,sC];refine wpList_store_row rfl 25 _ _ rfl a0 #[.slice la2 ln2 lc2,.slice pa2 pn2 pc2] rfl rfl 25 #[.slice la5 ln5 lc5,.slice pa5 pn5 pc5] G11.out.trow treeInfo rfl (tree_all _ _ _ _ _ _) ?_
              simp only [Act.put];have GZ:=hid (G11.out.tree M11.out (λk hk=>hk.elim (λq=>.inl (FL.out k (.inl q))) (λq=>.inr q)))
              generalize w11.setRow a0 #[.slice la2 ln2 lc2,.slice pa2 pn2 pc2] = wz at GZ |-;go_wp2
              go_roundw
              case rel=>
               refine⟨i + 1,by simp,hid HLT.out,_,_,Ap.next R s5 c,hid (by rw [HNN.out]; exact GZ.out),hid (Nat.le_trans (Ap.next_fr R s5 c) (by have:=HF5.out; omega)),hid (Ap.next_right HY5.out HE0.out),hid ?_⟩
               rw [HE5.out,Ap.run_ok HIA.out (by rw [<- HC.out]; exact HE0.out),<- HC.out]
              case measure=>have:=HLT.out; simp [RowKit.intOf]; omega
            ·have heb:(er2 == 0) = false:=by simpa using he
             have heb2:(er2 != 0) = true:=by simp [he]
             have HNE:=hid he;have HE9:=hid (show Ap.err R s5 c = er2 by rw [HEE.out,Ap.aerr_yes HC0.out,<- HNMX.out,<- HER2.out])
             have X9:=hid G9.out.xrow;have Y9:=hid G9.out.yrow;clear he HEE;have HEE:=HE9
             as_aux_lemma=>
              go_upto_region 20 with fail
              refine wp_region_lit ?_;iterate 2 (refine wW λK hK=>?_;go_simp;apply hK;clear hK K)
              go_upto_region 23 with fail
              refine wp_region_lit ?_;iterate 2 (refine wW λK hK=>?_;go_simp;apply hK;clear hK K)
              have HFIN:=hid (show Ap.result R L P ts A = (er2,Ap.none) by rw [HE5.out,Ap.run_bad HIA.out (by rw [<- HC.out,HEE.out]; exact HNE.out),<- HC.out,HEE.out])
              go_upto_region 24 with fail
              refine wp_region_lit ?_;refine @wpL_build0 _ _ _ _ _ _ _ ?_ 25 rfl _ (build_tree0 _) ?_;kernel_rfl
              simp only [Act.put,sA,sB,sC];refine @wpL_build0 _ _ _ _ _ _ _ ?_ 27 rfl _ (build_times0 _) ?_;kernel_rfl
              simp only [Act.put,sA,sB,sC];refine wW λK hK=>?_;go_simp;apply hK;clear hK K;refine wpList_store_row rfl 25 _ _ rfl (a0 + 2) #[.slice none 0 0,.slice none 0 0] rfl rfl 25 #[.slice none 0 0,.slice none 0 0] X9.out treeInfo rfl (tree_all _ _ _ _ _ _) ?_
              simp only [Act.put];have X8:=setRow_heap w9 (a0 + 2) _ #[.slice none 0 0,.slice none 0 0] _ _ X9.out;have Y8:=(setRow_other w9 (a0 + 2) (a0 + 3) #[.slice none 0 0,.slice none 0 0] (by omega)).trans Y9.out
              refine wpList_store_row rfl 27 _ _ rfl (a0 + 3) (icells Ap.z64).toArray rfl rfl 27 (icells Ap.z64).toArray Y8 HZI.out rfl (icells_all _) ?_
              simp only [Act.put];iterate 2 (refine wW λK hK=>?_;go_simp;apply hK;clear hK K)
              have Y9:=setRow_heap (w9.setRow (a0 + 2) #[.slice none 0 0,.slice none 0 0]) (a0 + 3) _ (icells Ap.z64).toArray _ _ Y8;have X9:=(setRow_other (w9.setRow (a0 + 2) #[.slice none 0 0,.slice none 0 0]) (a0 + 3) (a0 + 2) (icells Ap.z64).toArray (by omega)).trans X8
              have K9:Kept w.heap.size w.heap.size w ((w9.setRow (a0 + 2) #[.slice none 0 0,.slice none 0 0]).setRow (a0 + 3) (icells Ap.z64).toArray):=kept_setRow10 (kept_setRow10 G9.out.kp (a0 + 2) (by rw [HA0.out]; omega) _) (a0 + 3) (by rw [HA0.out]; omega) _
              generalize (w9.setRow (a0 + 2) #[.slice none 0 0,.slice none 0 0]).setRow (a0 + 3) (icells Ap.z64).toArray = w9 at X9 Y9 K9 |-;go_wp2;refine bodyPost_ret (results_row4A rfl _ _ (a0 + 2) (a0 + 3) 25 #[.slice none 0 0,.slice none 0 0] (0,0) _ 27 (icells Ap.z64).toArray (0,0) _ rfl rfl X9 Y9 Tryz.underlying25 rfl treeInfo Tryz.underlying27 rfl HZI.out) rfl ?_
              rw [HFIN.out];exact⟨_,_,_,rfl,K9,ints_nil w9,[],none_mine w w9 (by exact K9.size)⟩
          ·have hcb:(ce == 0) = false:=by simpa using hc0
           have hcb2:(ce != 0) = true:=by simp [hc0]
           have HNE:=hid hc0;have HE9:=hid (show Ap.err R s5 c = ce by rw [HEE.out,Ap.aerr_no (by rw [<- HCE.out]; exact hc0),HCE.out])
           have X9:=hid GX.out.xrow;have Y9:=hid GX.out.yrow;clear hc0 HEE;have HEE:=HE9
           as_aux_lemma=>
            go_upto_region 17 with fail
            refine wp_region_lit ?_;iterate 2 (refine wW λK hK=>?_;go_simp;apply hK;clear hK K)
            go_upto_region 23 with fail
            refine wp_region_lit ?_;iterate 2 (refine wW λK hK=>?_;go_simp;apply hK;clear hK K)
            have HFIN:=hid (show Ap.result R L P ts A = (ce,Ap.none) by rw [HE5.out,Ap.run_bad HIA.out (by rw [<- HC.out,HEE.out]; exact HNE.out),<- HC.out,HEE.out])
            go_upto_region 24 with fail
            refine wp_region_lit ?_;refine @wpL_build0 _ _ _ _ _ _ _ ?_ 25 rfl _ (build_tree0 _) ?_;kernel_rfl
            simp only [Act.put,sA,sB,sC];refine @wpL_build0 _ _ _ _ _ _ _ ?_ 27 rfl _ (build_times0 _) ?_;kernel_rfl
            simp only [Act.put,sA,sB,sC];refine wW λK hK=>?_;go_simp;apply hK;clear hK K;refine wpList_store_row rfl 25 _ _ rfl (a0 + 2) #[.slice none 0 0,.slice none 0 0] rfl rfl 25 #[.slice none 0 0,.slice none 0 0] X9.out treeInfo rfl (tree_all _ _ _ _ _ _) ?_
            simp only [Act.put];have X8:=setRow_heap w15 (a0 + 2) _ #[.slice none 0 0,.slice none 0 0] _ _ X9.out;have Y8:=(setRow_other w15 (a0 + 2) (a0 + 3) #[.slice none 0 0,.slice none 0 0] (by omega)).trans Y9.out
            refine wpList_store_row rfl 27 _ _ rfl (a0 + 3) (icells Ap.z64).toArray rfl rfl 27 (icells Ap.z64).toArray Y8 HZI.out rfl (icells_all _) ?_
            simp only [Act.put];iterate 2 (refine wW λK hK=>?_;go_simp;apply hK;clear hK K)
            have Y9:=setRow_heap (w15.setRow (a0 + 2) #[.slice none 0 0,.slice none 0 0]) (a0 + 3) _ (icells Ap.z64).toArray _ _ Y8;have X9:=(setRow_other (w15.setRow (a0 + 2) #[.slice none 0 0,.slice none 0 0]) (a0 + 3) (a0 + 2) (icells Ap.z64).toArray (by omega)).trans X8
            have K9:Kept w.heap.size w.heap.size w ((w15.setRow (a0 + 2) #[.slice none 0 0,.slice none 0 0]).setRow (a0 + 3) (icells Ap.z64).toArray):=kept_setRow10 (kept_setRow10 GX.out.kp (a0 + 2) (by rw [HA0.out]; omega) _) (a0 + 3) (by rw [HA0.out]; omega) _
            generalize (w15.setRow (a0 + 2) #[.slice none 0 0,.slice none 0 0]).setRow (a0 + 3) (icells Ap.z64).toArray = w9 at X9 Y9 K9 |-;go_wp2;refine bodyPost_ret (results_row4A rfl _ _ (a0 + 2) (a0 + 3) 25 #[.slice none 0 0,.slice none 0 0] (0,0) _ 27 (icells Ap.z64).toArray (0,0) _ rfl rfl X9 Y9 Tryz.underlying25 rfl treeInfo Tryz.underlying27 rfl HZI.out) rfl ?_
            rw [HFIN.out];exact⟨_,_,_,rfl,K9,ints_nil w9,[],none_mine w w9 (by exact K9.size)⟩
        ·have hb1:(kd == 1) = false:=by simpa using hk1
         have HEE:=hid (show Ap.err R s5 c = 7 from Ap.err_else (by rw [<- HKD.out]; exact hk1) (by rw [<- HKD.out]; exact hk2) (by rw [<- HKD.out]; exact hk3))
         clear hk1 hk2 hk3
         as_aux_lemma=>
          go_upto_region 12 with fail
          refine wp_region_lit ?_;refine wW λK hK=>?_;go_simp;apply hK;clear hK K;refine wLk 3 (.tmp 51) rfl (cb) (0) rfl (.int .i64 kd) (load_int10 (HKX.out _ KR.out)) ?_
          simp only [Act.put,sA,sB,sC];refine wW λK hK=>?_;go_simp;apply hK;clear hK K
          go_upto_region 14 with fail
          refine wp_region_lit ?_;refine wW λK hK=>?_;go_simp;apply hK;clear hK K;refine wLk 3 (.tmp 63) rfl (cb) (0) rfl (.int .i64 kd) (load_int10 (HKX.out _ KR.out)) ?_
          simp only [Act.put,sA,sB,sC];refine wW λK hK=>?_;go_simp;apply hK;clear hK K
          go_upto_region 23 with fail
          refine wp_region_lit ?_;iterate 2 (refine wW λK hK=>?_;go_simp;apply hK;clear hK K)
          have HNE:=hid (show(7:Int)≠0 by decide)
          have X9:=hid G8.out.xrow;have Y9:=hid G8.out.yrow;have HFIN:=hid (show Ap.result R L P ts A = (7,Ap.none) by rw [HE5.out,Ap.run_bad HIA.out (by rw [<- HC.out,HEE.out]; exact HNE.out),<- HC.out,HEE.out])
          go_upto_region 24 with fail
          refine wp_region_lit ?_;refine @wpL_build0 _ _ _ _ _ _ _ ?_ 25 rfl _ (build_tree0 _) ?_;kernel_rfl
          simp only [Act.put,sA,sB,sC];refine @wpL_build0 _ _ _ _ _ _ _ ?_ 27 rfl _ (build_times0 _) ?_;kernel_rfl
          simp only [Act.put,sA,sB,sC];refine wW λK hK=>?_;go_simp;apply hK;clear hK K;refine wpList_store_row rfl 25 _ _ rfl (a0 + 2) #[.slice none 0 0,.slice none 0 0] rfl rfl 25 #[.slice none 0 0,.slice none 0 0] X9.out treeInfo rfl (tree_all _ _ _ _ _ _) ?_
          simp only [Act.put];have X8:=setRow_heap w8 (a0 + 2) _ #[.slice none 0 0,.slice none 0 0] _ _ X9.out;have Y8:=(setRow_other w8 (a0 + 2) (a0 + 3) #[.slice none 0 0,.slice none 0 0] (by omega)).trans Y9.out
          refine wpList_store_row rfl 27 _ _ rfl (a0 + 3) (icells Ap.z64).toArray rfl rfl 27 (icells Ap.z64).toArray Y8 HZI.out rfl (icells_all _) ?_
          simp only [Act.put];iterate 2 (refine wW λK hK=>?_;go_simp;apply hK;clear hK K)
          have Y9:=setRow_heap (w8.setRow (a0 + 2) #[.slice none 0 0,.slice none 0 0]) (a0 + 3) _ (icells Ap.z64).toArray _ _ Y8;have X9:=(setRow_other (w8.setRow (a0 + 2) #[.slice none 0 0,.slice none 0 0]) (a0 + 3) (a0 + 2) (icells Ap.z64).toArray (by omega)).trans X8
          have K9:Kept w.heap.size w.heap.size w ((w8.setRow (a0 + 2) #[.slice none 0 0,.slice none 0 0]).setRow (a0 + 3) (icells Ap.z64).toArray):=kept_setRow10 (kept_setRow10 G8.out.kp (a0 + 2) (by rw [HA0.out]; omega) _) (a0 + 3) (by rw [HA0.out]; omega) _
          generalize (w8.setRow (a0 + 2) #[.slice none 0 0,.slice none 0 0]).setRow (a0 + 3) (icells Ap.z64).toArray = w9 at X9 Y9 K9 |-;go_wp2;refine bodyPost_ret (results_row4A rfl _ _ (a0 + 2) (a0 + 3) 25 #[.slice none 0 0,.slice none 0 0] (0,0) _ 27 (icells Ap.z64).toArray (0,0) _ rfl rfl X9 Y9 Tryz.underlying25 rfl treeInfo Tryz.underlying27 rfl HZI.out) rfl ?_
          rw [HFIN.out];exact⟨_,_,_,rfl,K9,ints_nil w9,[],none_mine w w9 (by exact K9.size)⟩
    ·have hnl:¬ (i:Int) < (an:Int):=by omega
     have HFIN:=hid (show Ap.result R L P ts A = (0,s5) by rw [HE5.out,Ap.run_end (by rw [<- HAN.out]; omega)])
     clear hlt
     as_aux_lemma=>
      go_upto_region 26 with fail
      have hnn:s5.L.length<=1000:=by have:=(Tt.right_parts HY5.out).1; omega
      have hpp:s5.P.length<=1000:=by have:=(Tt.right_parts HY5.out).1; have:=(Tt.right_parts HY5.out).2.1; omega
      have HCP:=hid (λ(x:World) (g:Rm w x a0 (.slice la5 ln5 lc5) (.slice pa5 pn5 pc5) (.slice fad fn fc) s5)=>refcopy_calls _ _ s5.L s5.P x g.lvs g.pts hnn hpp (right_looseA HY5.out))
      obtain⟨T5,hT5⟩:∃ D,D = (icells s5.ts).toArray:=⟨_,rfl⟩;have HT5S:=hid (show T5.size = 64 by rw [hT5]; simp [icells_length,G5.out.ts])
      have HT5I:=hid (timesInfo HT5S.out);have HT5A:=hid (show T5.all (·.oneCell') = true by rw [hT5]; exact icells_all _)
      have HT5:=hid hT5;clear hT5 hnn hpp;refine wp_region_noPanic ?_;refine wp_region_held_drew (S:=λx=>x.heap[a0]? = some (.cells #[.slice la5 ln5 lc5,.slice pa5 pn5 pc5] 25 (0,0))/\x.heap[a0 + 1]? = some (.cells T5 27 (0,0))) (by kernel_rfl) ⟨G5.out.trow,by rw [HT5.out]; exact G5.out.srow⟩ (λhH=>?_)
      have GD:=hid (G5.out.kept ((Kept.refl wr.heap.size wr.heap.size wr).drew));obtain⟨wd,hwd⟩:∃ wd,wd = wr.drew:=⟨_,rfl⟩;rw [<- hwd] at hH GD |-;clear hwd;refine tkA (i:=0) 114 (.agg #[.slice la5 ln5 lc5,.slice pa5 pn5 pc5]) rfl (yieldsIf_load_known (by kernel_rfl) 25 _ rfl (a0) (0) rfl (.agg #[.slice la5 ln5 lc5,.slice pa5 pn5 pc5]) (λx hx=>run_loadVar_row x a0 25 25 _ (0,0) _ hx.1 Tryz.underlying25 rfl treeInfo)) hH ?_
      simp only [sA,sB,sC];refine tkA (i:=2) 116 (.agg T5) rfl (yieldsIf_load_known (by kernel_rfl) 27 _ rfl (a0 + 1) (0) rfl (.agg T5) (λx hx=>run_loadVar_row x (a0 + 1) 27 27 _ (0,0) _ hx.2 Tryz.underlying27 rfl HT5I.out)) hH ?_
      simp only [sA,sB,sC];refine tkE (i:=3) 117 rfl hH ?_
      apply Exists.intro;apply And.intro
      ·intro w9 _
       go_simp
       first | done | rfl
      simp only [sA,sB,sC];refine wpAnyH_ready (rs:=[1]) (by kernel_rfl) (by simp) ?_
      refine AllReadyH.cons rfl (λK hK=>?_) AllReadyH.nil
      rw [if_pos (by rfl)]
      go_simp
      go_wp2_with (go_at_call 42; refine(HCP.out _ GD.out).mono ?_; rintro e x1 ⟨lv2,pv2,rfl,k1,SL2,m1⟩)
      obtain⟨la2,ln2,lc2,rfl⟩:=ownc_slice m1.lo;obtain⟨pa2,pn2,pc2,rfl⟩:=ownc_slice m1.po;have GE:=hid (GD.out.kept k1);have M1:=hid (m1.mono (B':=λk=>k < a0 + 4) (λk hk=>Nat.lt_of_lt_of_le hk GD.out.sz))
      refine hK.out _ _ ⟨GE.out.trow,by rw [HT5.out]; exact GE.out.srow⟩ (λhH=>?_)
      clear hK K k1 m1;refine wpAnyH_ready (rs:=[4]) (by kernel_rfl) (by simp) ?_
      refine AllReadyH.cons rfl (λK hK=>?_) AllReadyH.nil
      rw [if_pos (by rfl)]
      refine wp_store_row_none 25 _ _ rfl rfl (a0 + 2) #[.slice la2 ln2 lc2,.slice pa2 pn2 pc2] rfl rfl 25 #[.slice none 0 0,.slice none 0 0] GE.out.xrow treeInfo rfl (tree_all _ _ _ _ _ _) ?_
      have X6:=setRow_heap x1 (a0 + 2) _ #[.slice la2 ln2 lc2,.slice pa2 pn2 pc2] _ _ GE.out.xrow;have T6:=(setRow_other x1 (a0 + 2) a0 #[.slice la2 ln2 lc2,.slice pa2 pn2 pc2] (by omega)).trans GE.out.trow
      have S6:=(setRow_other x1 (a0 + 2) (a0 + 1) #[.slice la2 ln2 lc2,.slice pa2 pn2 pc2] (by omega)).trans GE.out.srow
      have Y6:=(setRow_other x1 (a0 + 2) (a0 + 3) #[.slice la2 ln2 lc2,.slice pa2 pn2 pc2] (by omega)).trans GE.out.yrow
      have g6:=grown_setRow x1 (a0 + 2) #[.slice la2 ln2 lc2,.slice pa2 pn2 pc2];have M6:=M1.out.aside (b:=a0 + 2) (by omega) g6
      have F6:=World.ownsRow.kept GE.out.fr g6 (.inr (λe=>by have:=(World.ownsRow.lt GE.out.fr _ e).1; omega))
      have K6:=kept_setRow10 GE.out.kp (a0 + 2) (by have:=GE.out.a; omega) #[.slice la2 ln2 lc2,.slice pa2 pn2 pc2]
      generalize x1.setRow (a0 + 2) #[.slice la2 ln2 lc2,.slice pa2 pn2 pc2] = w6 at X6 T6 S6 Y6 M6 F6 K6 |-;have X6:=hid X6;have T6:=hid T6;have S6:=hid S6;have Y6:=hid Y6;have M6:=hid M6;have F6:=hid F6;have K6:=hid K6;clear g6;refine hK.out _ _ ⟨T6.out,by rw [HT5.out]; exact S6.out⟩ (λhH=>?_)
      clear hK K;refine wpAnyH_ready (rs:=[5]) (by kernel_rfl) (by simp) ?_
      refine AllReadyH.cons rfl (λK hK=>?_) AllReadyH.nil
      rw [if_pos (by rfl)]
      refine wp_store_row_none 27 _ _ rfl rfl (a0 + 3) T5 rfl rfl 27 (icells Ap.z64).toArray Y6.out HT5I.out (by rw [HT5S.out]; rfl) HT5A.out ?_
      have Y7:=setRow_heap w6 (a0 + 3) _ T5 _ _ Y6.out;have X7:=(setRow_other w6 (a0 + 3) (a0 + 2) T5 (by omega)).trans X6.out
      have T7:=(setRow_other w6 (a0 + 3) a0 T5 (by omega)).trans T6.out
      have S7:=(setRow_other w6 (a0 + 3) (a0 + 1) T5 (by omega)).trans S6.out
      have g7:=grown_setRow w6 (a0 + 3) T5;have M7:=M6.out.aside (b:=a0 + 3) (by omega) g7
      have F7:=World.ownsRow.kept F6.out g7 (.inr (λe=>by have:=(World.ownsRow.lt F6.out _ e).1; omega))
      have K7:=kept_setRow10 K6.out (a0 + 3) (by have:=GE.out.a; omega) T5
      generalize w6.setRow (a0 + 3) T5 = w7 at X7 Y7 T7 S7 M7 F7 K7 |-;have X7:=hid X7;have Y7:=hid Y7;have M7:=hid M7;have F7:=hid F7;have K7:=hid K7;clear g7;refine hK.out _ _ ⟨T7,by rw [HT5.out]; exact S7⟩ (λhH=>?_)
      clear hK K T7 S7;refine tkE (i:=6) 10 rfl hH ?_
      apply Exists.intro;apply And.intro
      ·intro w9 _
       go_simp
       first | done | rfl
      simp only [sA,sB,sC];refine tkE (i:=7) 11 rfl hH ?_
      apply Exists.intro;apply And.intro
      ·intro w9 _
       go_simp
       first | done | rfl
      simp only [sA,sB,sC];refine wpAnyH_done (by kernel_rfl) ?_ _
      refine NoPanic.normal ?_;clear hH;go_wp2;refine bodyPost_ret (results_row4A rfl _ _ (a0 + 2) (a0 + 3) 25 _ (0,0) _ 27 T5 (0,0) _ rfl rfl X7.out Y7.out Tryz.underlying25 rfl treeInfo Tryz.underlying27 rfl HT5I.out) rfl ?_
      rw [HFIN.out];exact⟨_,_,_,by rw [HT5.out]; rfl,K7.out,owns_lower F7.out (Nat.zero_le _),_,M7.out.mono (λq hq=>by have:=GE.out.a; omega)⟩
end Go.Proofs.YtinebhdilnndaaaGreatDoor
