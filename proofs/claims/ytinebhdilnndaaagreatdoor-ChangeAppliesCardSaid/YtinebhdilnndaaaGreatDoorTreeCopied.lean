/-
 The landed copied.
-/
import Derived.Test.YtinebhdilnndaaaGreatDoorGY
import Derived.Test.YtinebhdilnndaaaGreatDoorTreeBlank
set_option maxRecDepth 100000
set_option maxHeartbeats 6400000
namespace Go.Proofs.YtinebhdilnndaaaGreatDoor
open Go.RowKit Go.Lib
open List renaming setIfInBounds_toArray -> sA, set_cons_zero -> sB, set_cons_succ -> sC
open BigFrame renaming wpList_want -> wQ
theorem append_nums (w:World)(v:Value)(l:List Int)(hv:Nums w v l)(hl:l.length<=100000):
  ∃ v' w',(Builtin.append_ #[38,38] 38 #[.slice none 0 0,v]).run Tryz.prog w = .ok v' w'/\Ints w' w.heap.size v' l/\w.grownBy w' none:=by
 obtain⟨i0,hi,hz0,hz1,hz2⟩:=info_parts intInfo;obtain⟨ad,c,g,o,rfl,h1⟩:=hv
 cases ad with
 | none=>
  have hl0:l.length = 0:=by
   rcases Nat.eq_zero_or_pos l.length with h | h
   ·exact h
   ·cases (h1 0 h).1
  obtain rfl:=List.length_eq_zero_iff.1 hl0;refine⟨.slice none 0 0,w,?_,World.ownsRow_nil _ _ _ _,⟨rfl,rfl,rfl,Nat.le_refl _,λ_ _ _=>rfl⟩⟩
  simp [Builtin.append_,run_underlying Tryz.underlying38,sizeOf,typeInfo,hi,Builtin.lenOf,Builtin.firstCells]
 | some a=>
  obtain⟨v',w',e1,e2,e3,_⟩:=run_append_own_at (P:=Tryz.prog) (w:=w) w.heap.size 38 38 3 i0 (.int .i64 0) 1 8 Tryz.underlying38 hi hz0 hz1 hz2 rfl (by decide) (.slice none 0 0) 0 [] (World.ownsRow_nil _ _ _ _) a l.length c (l.map (Value.int .i64))
   (by rw [List.length_map,Nat.mul_one]) (λj u hu=>by
    have hj:j < l.length:=by
     have:=(List.getElem?_eq_some_iff.1 hu).1
     rwa [List.length_map] at this
    obtain⟨h2,_,h3⟩:=h1 j hj
    cases h2
    rw [Addr.add_lit];rw [List.getElem?_map,List.getElem?_eq_getElem hj] at hu
    cases hu
    exact h3) (λu hu=>by
    obtain⟨n,_,rfl⟩:=List.mem_map.1 hu
    rfl) (by unfold maxLen; omega) (by omega) (Nat.le_refl _)
  refine⟨v',w',e1,?_,e3⟩;rw [Nat.zero_add,List.nil_append] at e2;exact e2
theorem pr_set {p:Pr}(h:p.Ok)(x y:Value):(p.cells x).set 65 y = p.cells y:=by
 unfold Pr.cells;rw [List.set_cons_succ,List.set_append_right _ _ (by rw [bcells_length,h.1]; decide),bcells_length,h.1,List.set_append_right _ _ (by rw [bcells_length,h.2]; decide),bcells_length,h.2]
 rfl
section
variable {B:Nat->Prop} {w w1:World} {lv pv s:Value} {L:List Lf} {P:List Pr} {SL:List Value} {l:List Int}
theorem Mine.fresh (h:Mine B w lv pv L P SL)(hs:Ints w1 w.heap.size s l):Dif lv.ownBlock s.ownBlock/\Dif pv.ownBlock s.ownBlock/\(∀ (j:Nat) (t:Value),SL[j]? = some t->Dif s.ownBlock t.ownBlock)/\∀ g,s.ownBlock = some g->¬ B g:=by
 have key:∀ x:Option Nat,(∀ g,x = some g->g < w.heap.size)->Dif x s.ownBlock:=λx hx=>by
  cases x with
  | none=>exact .inl rfl
  | some g=>
   refine .inr λe=>?_
   have h1:=(World.ownsRow.lt hs g e.symm).1;have h2:=hx g rfl
   omega
 refine⟨key _ λg e=>(h.lo.2.lt g e).2,key _ λg e=>(h.po.2.lt g e).2,λj t ht=>Dif.symm (key _ λg e=>?_),λg e b=>?_⟩
 ·have hj:j < P.length:=by rw [<- h.len]; exact(List.getElem?_eq_some_iff.1 ht).1
  exact(World.ownsRow.lt (h.so j _ t (List.getElem?_eq_getElem hj) ht) g e).2
 ·have:=(World.ownsRow.lt hs g e).1
  have:=h.bnd g b
  omega
end
structure CopySt (w u:World) (ln pn gl gp gt:Nat):Prop where
 k:Kept w.heap.size w.heap.size w u
 lo:OwnC u 0 48 97 (.slice (some ⟨gl,0,none⟩) ln ln) (List.replicate ln Lf.zero.cells)
 po:OwnC u 0 68 66 (.slice (some ⟨gp,0,none⟩) pn pn) (List.replicate pn (Pr.zero.cells (.slice none 0 0)))
 t:u.heap[gt]? = some (.cells #[.slice (some ⟨gl,0,none⟩) ln ln,.slice (some ⟨gp,0,none⟩) pn pn] 25 (0,0))
 bl:w.heap.size<=gl
 bp:w.heap.size<=gp
 bt:w.heap.size<=gt
 lp:gl≠gp
 lt:gl≠gt
 pt:gp≠gt
theorem zip_rep (n:Nat):List.zipWith Pr.cells (List.replicate n Pr.zero) (List.replicate n (.slice none 0 0)) = List.replicate n (Pr.zero.cells (.slice none 0 0)):=by
 induction n with
 | zero=>rfl
 | succ n ih=>rw [List.replicate_succ,List.replicate_succ,List.replicate_succ,List.zipWith_cons_cons,ih]
theorem rep_next (P:List Pr)(i:Nat)(hi:i < P.length):(P.take i ++ List.replicate (P.length - i) Pr.zero).set i P[i] = P.take (i + 1) ++ List.replicate (P.length - (i + 1)) Pr.zero:=by
 have h1:(P.take i).length = i:=by rw [List.length_take]; omega
 rw [List.set_append_right _ _ (by omega),h1,Nat.sub_self,show P.length - i = (P.length - (i + 1)) + 1 by omega,List.replicate_succ,List.set_cons_zero,List.take_succ_eq_append_getElem hi,List.append_assoc]
 rfl
theorem copied_calls (lv pv:Value)(L:List Lf)(P:List Pr)(w:World)(hL:Lvs w lv L)(hP:Pts w pv P)(hn:L.length<=1000)(hp:P.length<=1000)(hpl:∀ p∈P,p.loose.length<=1000):
  Calls Tryz.prog 85 #[.agg #[lv,pv]] w λe w'=>∃ lv' pv',e = .returned (.agg #[lv',pv'])/\Kept w.heap.size w.heap.size w w'/\∃ SL,Mine (λk=>k < w.heap.size) w' lv' pv' L P SL:=by
 obtain⟨lad,lc,rfl⟩:=hL.shape;have hP2:=hP;obtain⟨pad,pg,po,pc,rfl,hpc,_⟩:=hP
 have hlok:∀ l∈L,l.Ok:=λl hl=>by
  obtain⟨_,_,_,_,_,h1,_⟩:=hL;obtain⟨i,hi,rfl⟩:=List.getElem_of_mem hl;exact(h1 i hi).2.2.1
 have hpok:∀ p∈P,p.Ok:=λp hp=>by
  obtain⟨i,hi,rfl⟩:=List.getElem_of_mem hp;exact(hpc i hi).2.2.1
 have K1:=(kA w (.cells #[.slice lad L.length lc,.slice pad P.length pc] 25)).alloc (by simp) (.cells #[.slice none 0 0,.slice none 0 0] 25)
 have T1:((w.alloc (.cells #[.slice lad L.length lc,.slice pad P.length pc] 25)).alloc (.cells #[.slice none 0 0,.slice none 0 0] 25)).heap[w.heap.size]? = some (.cells #[.slice lad L.length lc,.slice pad P.length pc] 25 (0,0)):=by
  rw [heap_alloc_old _ _ (by simp)]
  exact heap_new _ _
 have R1:=heap_new (w.alloc (.cells #[.slice lad L.length lc,.slice pad P.length pc] 25)) (.cells #[.slice none 0 0,.slice none 0 0] 25)
 have hs1:(w.alloc (.cells #[.slice lad L.length lc,.slice pad P.length pc] 25)).heap.size = w.heap.size + 1:=by simp
 rw [hs1] at R1;have HRL:=hid (λ(u:World) (k:Kept w.heap.size w.heap.size w u) (g cap:Nat) (R:List (List Value)) (hR:R.length = L.length) (ho:OwnC u 0 48 97 (.slice (some ⟨g,0,none⟩) R.length cap) R)=>copy_leaves u g cap R _ L hR ho (hL.kept k))
 obtain⟨ln,hln⟩:∃ ln,ln = L.length:=⟨_,rfl⟩;obtain⟨pn,hpn⟩:∃ pn,pn = P.length:=⟨_,rfl⟩;rw [<- hln,<- hpn] at K1 T1 R1 |-;rw [<- hln] at HRL;have hln9:(ln:Int)<=1000:=by omega
 have hpn9:(pn:Int)<=1000:=by omega
 have hln8:ln<=1000:=by omega
 have hpn8:pn<=1000:=by omega
 have HML:=hid (λu=>make_leaves u ln hln8)
 have HMP:=hid (λu=>make_parents u pn hpn8)
 have HLN:=hid hln;have HPN:=hid hpn;have HPL:=hid hpl;have HPC:=hid hpc;have HLK:=hid hlok;have HPK:=hid hpok;clear hL hP2 hpn hp hn hln hpl hpc hlok hpok hln8 hpn8
 go_enter Tryz.func85,Tryz.ntmps85
 go_upto_region 1 with fail
 generalize (w.alloc (.cells #[.slice lad ln lc,.slice pad pn pc] 25)).alloc (.cells #[.slice none 0 0,.slice none 0 0] 25) = w1 at K1 T1 R1 |-
 clear hs1;obtain⟨tb,htb⟩:∃ tb,tb = w.heap.size:=⟨_,rfl⟩;obtain⟨rb,hrb⟩:∃ rb,rb = w.heap.size + 1:=⟨_,rfl⟩;have HNE:=hid (show tb≠rb by omega)
 rw [<- hrb] at R1
 (try rw [<- hrb])
 rw [<- htb] at T1
 (try rw [<- htb])
 have HTB:=hid (show ¬ tb < w.heap.size by omega)
 have HRB:=hid (show ¬ rb < w.heap.size by omega)
 have HT1:=hid T1;have HR1:=hid R1;have HK1:=hid K1;have HLA:=hid (λ(w':World) (k:Kept w1.heap.size w1.heap.size w1 w')=>load_slice (d:=.int .u8) (two_cell0 (rk HT1.out k)) (.inl rfl) rfl)
 have HLB:=hid (λ(w':World) (k:Kept w1.heap.size w1.heap.size w1 w')=>load_slice (d:=.int .u8) (two_cell1 (rk HT1.out k)) (.inr rfl) rfl)
 clear htb hrb T1 R1 K1;refine Code.wp_mono (Q:=λe a u=>e = .normal/\∃ gl gp gt,a = { tmps:=#[.agg #[.slice lad ln lc,.slice pad pn pc],.pointer (some ⟨tb,0,none⟩),.pointer (some ⟨rb,0,none⟩),.pointer (some ⟨gt,0,none⟩),undef,undef,.pointer (some ⟨tb,0,none⟩),.slice lad ln lc,.int .i64 (ln:Int),.slice (some ⟨gl,0,none⟩) ln ln,.pointer (some ⟨tb,1,none⟩),.slice pad pn pc,.int .i64 (pn:Int),.slice (some ⟨gp,0,none⟩) pn pn,.agg #[.slice (some ⟨gl,0,none⟩) ln ln,.slice (some ⟨gp,0,none⟩) pn pn],undef,undef,undef,undef,undef,undef,undef,undef,undef,undef,undef,undef,undef,undef,undef,undef,undef,undef,undef,undef,undef,undef,undef,undef],defers:=[] }/\CopySt w1 u ln pn gl gp gt) ?rest ?reg
 case reg=>
  refine wp_region_noPanic ?_;refine wp_region_held_drew (S:=λw'=>Kept w1.heap.size w1.heap.size w1 w') (by kernel_rfl) ((Kept.refl _ _ _).drew) (λhH=>?_)
  have KD:=hid hH;obtain⟨wd,hwd⟩:∃ wd,wd = w1.drew:=⟨_,rfl⟩;rw [<- hwd] at hH KD |-;clear hwd;refine tkE (i:=0) 6 rfl hH ?_
  apply Exists.intro;apply And.intro
  ·intro w9 _
   go_simp
   first | done | rfl
  simp only [sA,sB,sC];refine tkA (i:=1) 7 (.slice lad ln lc) rfl (yieldsIf_load_known (by kernel_rfl) 22 _ rfl (tb) (0) rfl (.slice lad ln lc) (HLA.out)) hH ?_
  simp only [sA,sB,sC];refine tkE (i:=2) 8 rfl hH ?_
  apply Exists.intro;apply And.intro
  ·intro w9 _
   go_simp
   first | done | rfl
  simp only [sA,sB,sC];refine tkE (i:=4) 10 rfl hH ?_
  apply Exists.intro;apply And.intro
  ·intro w9 _
   go_simp
   first | done | rfl
  simp only [sA,sB,sC];refine tkA (i:=5) 11 (.slice pad pn pc) rfl (yieldsIf_load_known (by kernel_rfl) 23 _ rfl (tb) (1) rfl (.slice pad pn pc) (HLB.out)) hH ?_
  simp only [sA,sB,sC];refine tkE (i:=6) 12 rfl hH ?_
  apply Exists.intro;apply And.intro
  ·intro w9 _
   go_simp
   first | done | rfl
  simp only [sA,sB,sC];refine wpAnyH_ready (rs:=[3,7,9]) (by kernel_rfl) (by simp) ?_
  refine AllReadyH.cons rfl (λK hK=>?_) ?_
  ·rw [if_pos (by rfl)]
   obtain⟨gl,hgl⟩:∃ gl,gl = wd.heap.size:=⟨_,rfl⟩;obtain⟨wa3,er,ho,hg⟩:=HML.out wd;rw [<- hgl] at er ho;refine wp_make_known 22 _ _ rfl (some 9) rfl _ _ _ rfl rfl er ?_
   simp only [Act.put,sA,sB,sC];have Kwa3:=hid (KD.out.grown hg KD.out.size (λk e=>nomatch e))
   have Fwa33:=hid ho;have HBL:=hid (show w1.heap.size<=gl by rw [hgl]; exact KD.out.size)
   clear er ho hg hgl;refine hK.out _ _ Kwa3.out (λhH=>?_)
   clear hK K;refine wpAnyH_ready (rs:=[7,9]) (by kernel_rfl) (by simp) ?_
   refine AllReadyH.cons rfl (λK hK=>?_) ?_
   ·rw [if_pos (by rfl)]
    obtain⟨gp,hgp⟩:∃ gp,gp = wa3.heap.size:=⟨_,rfl⟩;obtain⟨wb37,er,ho,hg⟩:=HMP.out wa3;rw [<- hgp] at er ho;refine wp_make_known 23 _ _ rfl (some 13) rfl _ _ _ rfl rfl er ?_
    simp only [Act.put,sA,sB,sC];have Kwb37:=hid (Kwa3.out.grown hg Kwa3.out.size (λk e=>nomatch e))
    have Fwb373:=hid (Fwa33.out.grown hg (own_ne_none _));have Fwb377:=hid ho;have HBP:=hid (show w1.heap.size<=gp by rw [hgp]; exact Kwa3.out.size)
    have HLP:=hid (show gl≠gp by have:=(Fwa33.out.2.lt gl rfl).2; omega)
    clear er ho hg hgp;refine hK.out _ _ Kwb37.out (λhH=>?_)
    clear hK K;refine tkA (i:=8) 14 (.agg #[.slice (some ⟨gl,0,none⟩) ln ln,.slice (some ⟨gp,0,none⟩) pn pn]) rfl (.inl ⟨by kernel_rfl,λw9 _=>by go_simp; first | done | rfl⟩) hH ?_
    simp only [sA,sB,sC];refine wpAnyH_ready (rs:=[9]) (by kernel_rfl) (by simp) ?_
    refine AllReadyH.cons rfl (λK hK=>?_) AllReadyH.nil
    rw [if_pos (by rfl)]
    obtain⟨gt,hgt⟩:∃ gt,gt = wb37.heap.size:=⟨_,rfl⟩;have er:=alloc_tree wb37;have ho:=heap_new wb37 (.cells #[.slice none 0 0,.slice none 0 0] 25)
    have hg:=World.grownBy_alloc wb37 (.cells #[.slice none 0 0,.slice none 0 0] 25) none
    rw [<- hgt] at er ho;generalize wb37.alloc (.cells #[.slice none 0 0,.slice none 0 0] 25) = wc379 at er ho hg
    refine wp_alloc_known 25 rfl (some 3) rfl _ er ?_
    simp only [Act.put,sA,sB,sC];have Kwc379:=hid (Kwb37.out.grown hg Kwb37.out.size (λk e=>nomatch e))
    have Fwc3793:=hid (Fwb373.out.grown hg (own_ne_none _));have Fwc3797:=hid (Fwb377.out.grown hg (own_ne_none _));have Fwc3799:=hid ho;have HBT:=hid (show w1.heap.size<=gt by rw [hgt]; exact Kwb37.out.size)
    have HLT:=hid (show gl≠gt by have:=(Fwb373.out.2.lt gl rfl).2; omega)
    have HPT:=hid (show gp≠gt by have:=(Fwb377.out.2.lt gp rfl).2; omega)
    clear er ho hg hgt;refine hK.out _ _ Kwc379.out (λhH=>?_)
    clear hK K;refine wpAnyH_ready (rs:=[10]) (by kernel_rfl) (by simp) ?_
    refine AllReadyH.cons rfl (λK hK=>?_) AllReadyH.nil
    rw [if_pos (by rfl)]
    refine wp_store_row_none 25 _ _ rfl rfl gt #[.slice (some ⟨gl,0,none⟩) ln ln,.slice (some ⟨gp,0,none⟩) pn pn] rfl rfl 25 #[.slice none 0 0,.slice none 0 0] Fwc3799.out treeInfo rfl (tree_all _ _ _ _ _ _) ?_
    have HG:=grown_setRow wc379 gt #[.slice (some ⟨gl,0,none⟩) ln ln,.slice (some ⟨gp,0,none⟩) pn pn];have HS:=setRow_heap wc379 gt _ #[.slice (some ⟨gl,0,none⟩) ln ln,.slice (some ⟨gp,0,none⟩) pn pn] _ _ Fwc3799.out;have HKE:Kept w1.heap.size w1.heap.size w1 (wc379.setRow gt #[.slice (some ⟨gl,0,none⟩) ln ln,.slice (some ⟨gp,0,none⟩) pn pn]):=Kwc379.out.grown HG Kwc379.out.size (λk e=>by cases e; exact HBT.out)
    have HST:CopySt w1 (wc379.setRow gt #[.slice (some ⟨gl,0,none⟩) ln ln,.slice (some ⟨gp,0,none⟩) pn pn]) ln pn gl gp gt:=⟨HKE,Fwc3793.out.grown HG (.inr (λe=>HLT.out (Option.some.inj e))),Fwc3797.out.grown HG (.inr (λe=>HPT.out (Option.some.inj e))),HS,HBL.out,HBP.out,HBT.out,HLP.out,HLT.out,HPT.out⟩
    have HST2:=hid HST;clear HG HS HST;generalize wc379.setRow gt #[.slice (some ⟨gl,0,none⟩) ln ln,.slice (some ⟨gp,0,none⟩) pn pn] = we at HKE HST2 |-;refine hK.out _ _ HKE (λhH=>?_)
    clear hK K;refine wpAnyH_done (by kernel_rfl) ?_ _
    refine NoPanic.normal ?_;exact⟨rfl,gl,gp,gt,rfl,HST2.out⟩
   refine AllReadyH.cons rfl (λK hK=>?_) AllReadyH.nil
   rw [if_pos (by rfl)]
   obtain⟨gt,hgt⟩:∃ gt,gt = wa3.heap.size:=⟨_,rfl⟩;have er:=alloc_tree wa3;have ho:=heap_new wa3 (.cells #[.slice none 0 0,.slice none 0 0] 25)
   have hg:=World.grownBy_alloc wa3 (.cells #[.slice none 0 0,.slice none 0 0] 25) none
   rw [<- hgt] at er ho;generalize wa3.alloc (.cells #[.slice none 0 0,.slice none 0 0] 25) = wb39 at er ho hg
   refine wp_alloc_known 25 rfl (some 3) rfl _ er ?_
   simp only [Act.put,sA,sB,sC];have Kwb39:=hid (Kwa3.out.grown hg Kwa3.out.size (λk e=>nomatch e))
   have Fwb393:=hid (Fwa33.out.grown hg (own_ne_none _));have Fwb399:=hid ho;have HBT:=hid (show w1.heap.size<=gt by rw [hgt]; exact Kwa3.out.size)
   have HLT:=hid (show gl≠gt by have:=(Fwa33.out.2.lt gl rfl).2; omega)
   clear er ho hg hgt;refine hK.out _ _ Kwb39.out (λhH=>?_)
   clear hK K;refine wpAnyH_ready (rs:=[7]) (by kernel_rfl) (by simp) ?_
   refine AllReadyH.cons rfl (λK hK=>?_) AllReadyH.nil
   rw [if_pos (by rfl)]
   obtain⟨gp,hgp⟩:∃ gp,gp = wb39.heap.size:=⟨_,rfl⟩;obtain⟨wc397,er,ho,hg⟩:=HMP.out wb39;rw [<- hgp] at er ho;refine wp_make_known 23 _ _ rfl (some 13) rfl _ _ _ rfl rfl er ?_
   simp only [Act.put,sA,sB,sC];have Kwc397:=hid (Kwb39.out.grown hg Kwb39.out.size (λk e=>nomatch e))
   have Fwc3973:=hid (Fwb393.out.grown hg (own_ne_none _));have Fwc3979:=hid ((hg.block gt (lt_of_block Fwb399.out) (λe=>nomatch e)).trans Fwb399.out)
   have Fwc3977:=hid ho;have HBP:=hid (show w1.heap.size<=gp by rw [hgp]; exact Kwb39.out.size)
   have HLP:=hid (show gl≠gp by have:=(Fwb393.out.2.lt gl rfl).2; omega)
   have HPT:=hid (show gp≠gt by have:=lt_of_block Fwb399.out; omega)
   clear er ho hg hgp;refine hK.out _ _ Kwc397.out (λhH=>?_)
   clear hK K;refine tkA (i:=8) 14 (.agg #[.slice (some ⟨gl,0,none⟩) ln ln,.slice (some ⟨gp,0,none⟩) pn pn]) rfl (.inl ⟨by kernel_rfl,λw9 _=>by go_simp; first | done | rfl⟩) hH ?_
   simp only [sA,sB,sC];refine wpAnyH_ready (rs:=[10]) (by kernel_rfl) (by simp) ?_
   refine AllReadyH.cons rfl (λK hK=>?_) AllReadyH.nil
   rw [if_pos (by rfl)]
   refine wp_store_row_none 25 _ _ rfl rfl gt #[.slice (some ⟨gl,0,none⟩) ln ln,.slice (some ⟨gp,0,none⟩) pn pn] rfl rfl 25 #[.slice none 0 0,.slice none 0 0] Fwc3979.out treeInfo rfl (tree_all _ _ _ _ _ _) ?_
   have HG:=grown_setRow wc397 gt #[.slice (some ⟨gl,0,none⟩) ln ln,.slice (some ⟨gp,0,none⟩) pn pn];have HS:=setRow_heap wc397 gt _ #[.slice (some ⟨gl,0,none⟩) ln ln,.slice (some ⟨gp,0,none⟩) pn pn] _ _ Fwc3979.out;have HKE:Kept w1.heap.size w1.heap.size w1 (wc397.setRow gt #[.slice (some ⟨gl,0,none⟩) ln ln,.slice (some ⟨gp,0,none⟩) pn pn]):=Kwc397.out.grown HG Kwc397.out.size (λk e=>by cases e; exact HBT.out)
   have HST:CopySt w1 (wc397.setRow gt #[.slice (some ⟨gl,0,none⟩) ln ln,.slice (some ⟨gp,0,none⟩) pn pn]) ln pn gl gp gt:=⟨HKE,Fwc3973.out.grown HG (.inr (λe=>HLT.out (Option.some.inj e))),Fwc3977.out.grown HG (.inr (λe=>HPT.out (Option.some.inj e))),HS,HBL.out,HBP.out,HBT.out,HLP.out,HLT.out,HPT.out⟩
   have HST2:=hid HST;clear HG HS HST;generalize wc397.setRow gt #[.slice (some ⟨gl,0,none⟩) ln ln,.slice (some ⟨gp,0,none⟩) pn pn] = we at HKE HST2 |-;refine hK.out _ _ HKE (λhH=>?_)
   clear hK K;refine wpAnyH_done (by kernel_rfl) ?_ _
   refine NoPanic.normal ?_;exact⟨rfl,gl,gp,gt,rfl,HST2.out⟩
  refine AllReadyH.cons rfl (λK hK=>?_) ?_
  ·rw [if_pos (by rfl)]
   obtain⟨gp,hgp⟩:∃ gp,gp = wd.heap.size:=⟨_,rfl⟩;obtain⟨wa7,er,ho,hg⟩:=HMP.out wd;rw [<- hgp] at er ho;refine wp_make_known 23 _ _ rfl (some 13) rfl _ _ _ rfl rfl er ?_
   simp only [Act.put,sA,sB,sC];have Kwa7:=hid (KD.out.grown hg KD.out.size (λk e=>nomatch e))
   have Fwa77:=hid ho;have HBP:=hid (show w1.heap.size<=gp by rw [hgp]; exact KD.out.size)
   clear er ho hg hgp;refine hK.out _ _ Kwa7.out (λhH=>?_)
   clear hK K;refine wpAnyH_ready (rs:=[3,9]) (by kernel_rfl) (by simp) ?_
   refine AllReadyH.cons rfl (λK hK=>?_) ?_
   ·rw [if_pos (by rfl)]
    obtain⟨gl,hgl⟩:∃ gl,gl = wa7.heap.size:=⟨_,rfl⟩;obtain⟨wb73,er,ho,hg⟩:=HML.out wa7;rw [<- hgl] at er ho;refine wp_make_known 22 _ _ rfl (some 9) rfl _ _ _ rfl rfl er ?_
    simp only [Act.put,sA,sB,sC];have Kwb73:=hid (Kwa7.out.grown hg Kwa7.out.size (λk e=>nomatch e))
    have Fwb737:=hid (Fwa77.out.grown hg (own_ne_none _));have Fwb733:=hid ho;have HBL:=hid (show w1.heap.size<=gl by rw [hgl]; exact Kwa7.out.size)
    have HLP:=hid (show gl≠gp by have:=(Fwa77.out.2.lt gp rfl).2; omega)
    clear er ho hg hgl;refine hK.out _ _ Kwb73.out (λhH=>?_)
    clear hK K;refine tkA (i:=8) 14 (.agg #[.slice (some ⟨gl,0,none⟩) ln ln,.slice (some ⟨gp,0,none⟩) pn pn]) rfl (.inl ⟨by kernel_rfl,λw9 _=>by go_simp; first | done | rfl⟩) hH ?_
    simp only [sA,sB,sC];refine wpAnyH_ready (rs:=[9]) (by kernel_rfl) (by simp) ?_
    refine AllReadyH.cons rfl (λK hK=>?_) AllReadyH.nil
    rw [if_pos (by rfl)]
    obtain⟨gt,hgt⟩:∃ gt,gt = wb73.heap.size:=⟨_,rfl⟩;have er:=alloc_tree wb73;have ho:=heap_new wb73 (.cells #[.slice none 0 0,.slice none 0 0] 25)
    have hg:=World.grownBy_alloc wb73 (.cells #[.slice none 0 0,.slice none 0 0] 25) none
    rw [<- hgt] at er ho;generalize wb73.alloc (.cells #[.slice none 0 0,.slice none 0 0] 25) = wc739 at er ho hg
    refine wp_alloc_known 25 rfl (some 3) rfl _ er ?_
    simp only [Act.put,sA,sB,sC];have Kwc739:=hid (Kwb73.out.grown hg Kwb73.out.size (λk e=>nomatch e))
    have Fwc7397:=hid (Fwb737.out.grown hg (own_ne_none _));have Fwc7393:=hid (Fwb733.out.grown hg (own_ne_none _));have Fwc7399:=hid ho;have HBT:=hid (show w1.heap.size<=gt by rw [hgt]; exact Kwb73.out.size)
    have HPT:=hid (show gp≠gt by have:=(Fwb737.out.2.lt gp rfl).2; omega)
    have HLT:=hid (show gl≠gt by have:=(Fwb733.out.2.lt gl rfl).2; omega)
    clear er ho hg hgt;refine hK.out _ _ Kwc739.out (λhH=>?_)
    clear hK K;refine wpAnyH_ready (rs:=[10]) (by kernel_rfl) (by simp) ?_
    refine AllReadyH.cons rfl (λK hK=>?_) AllReadyH.nil
    rw [if_pos (by rfl)]
    refine wp_store_row_none 25 _ _ rfl rfl gt #[.slice (some ⟨gl,0,none⟩) ln ln,.slice (some ⟨gp,0,none⟩) pn pn] rfl rfl 25 #[.slice none 0 0,.slice none 0 0] Fwc7399.out treeInfo rfl (tree_all _ _ _ _ _ _) ?_
    have HG:=grown_setRow wc739 gt #[.slice (some ⟨gl,0,none⟩) ln ln,.slice (some ⟨gp,0,none⟩) pn pn];have HS:=setRow_heap wc739 gt _ #[.slice (some ⟨gl,0,none⟩) ln ln,.slice (some ⟨gp,0,none⟩) pn pn] _ _ Fwc7399.out;have HKE:Kept w1.heap.size w1.heap.size w1 (wc739.setRow gt #[.slice (some ⟨gl,0,none⟩) ln ln,.slice (some ⟨gp,0,none⟩) pn pn]):=Kwc739.out.grown HG Kwc739.out.size (λk e=>by cases e; exact HBT.out)
    have HST:CopySt w1 (wc739.setRow gt #[.slice (some ⟨gl,0,none⟩) ln ln,.slice (some ⟨gp,0,none⟩) pn pn]) ln pn gl gp gt:=⟨HKE,Fwc7393.out.grown HG (.inr (λe=>HLT.out (Option.some.inj e))),Fwc7397.out.grown HG (.inr (λe=>HPT.out (Option.some.inj e))),HS,HBL.out,HBP.out,HBT.out,HLP.out,HLT.out,HPT.out⟩
    have HST2:=hid HST;clear HG HS HST;generalize wc739.setRow gt #[.slice (some ⟨gl,0,none⟩) ln ln,.slice (some ⟨gp,0,none⟩) pn pn] = we at HKE HST2 |-;refine hK.out _ _ HKE (λhH=>?_)
    clear hK K;refine wpAnyH_done (by kernel_rfl) ?_ _
    refine NoPanic.normal ?_;exact⟨rfl,gl,gp,gt,rfl,HST2.out⟩
   refine AllReadyH.cons rfl (λK hK=>?_) AllReadyH.nil
   rw [if_pos (by rfl)]
   obtain⟨gt,hgt⟩:∃ gt,gt = wa7.heap.size:=⟨_,rfl⟩;have er:=alloc_tree wa7;have ho:=heap_new wa7 (.cells #[.slice none 0 0,.slice none 0 0] 25)
   have hg:=World.grownBy_alloc wa7 (.cells #[.slice none 0 0,.slice none 0 0] 25) none
   rw [<- hgt] at er ho;generalize wa7.alloc (.cells #[.slice none 0 0,.slice none 0 0] 25) = wb79 at er ho hg
   refine wp_alloc_known 25 rfl (some 3) rfl _ er ?_
   simp only [Act.put,sA,sB,sC];have Kwb79:=hid (Kwa7.out.grown hg Kwa7.out.size (λk e=>nomatch e))
   have Fwb797:=hid (Fwa77.out.grown hg (own_ne_none _));have Fwb799:=hid ho;have HBT:=hid (show w1.heap.size<=gt by rw [hgt]; exact Kwa7.out.size)
   have HPT:=hid (show gp≠gt by have:=(Fwa77.out.2.lt gp rfl).2; omega)
   clear er ho hg hgt;refine hK.out _ _ Kwb79.out (λhH=>?_)
   clear hK K;refine wpAnyH_ready (rs:=[3]) (by kernel_rfl) (by simp) ?_
   refine AllReadyH.cons rfl (λK hK=>?_) AllReadyH.nil
   rw [if_pos (by rfl)]
   obtain⟨gl,hgl⟩:∃ gl,gl = wb79.heap.size:=⟨_,rfl⟩;obtain⟨wc793,er,ho,hg⟩:=HML.out wb79;rw [<- hgl] at er ho;refine wp_make_known 22 _ _ rfl (some 9) rfl _ _ _ rfl rfl er ?_
   simp only [Act.put,sA,sB,sC];have Kwc793:=hid (Kwb79.out.grown hg Kwb79.out.size (λk e=>nomatch e))
   have Fwc7937:=hid (Fwb797.out.grown hg (own_ne_none _));have Fwc7939:=hid ((hg.block gt (lt_of_block Fwb799.out) (λe=>nomatch e)).trans Fwb799.out)
   have Fwc7933:=hid ho;have HBL:=hid (show w1.heap.size<=gl by rw [hgl]; exact Kwb79.out.size)
   have HLP:=hid (show gl≠gp by have:=(Fwb797.out.2.lt gp rfl).2; omega)
   have HLT:=hid (show gl≠gt by have:=lt_of_block Fwb799.out; omega)
   clear er ho hg hgl;refine hK.out _ _ Kwc793.out (λhH=>?_)
   clear hK K;refine tkA (i:=8) 14 (.agg #[.slice (some ⟨gl,0,none⟩) ln ln,.slice (some ⟨gp,0,none⟩) pn pn]) rfl (.inl ⟨by kernel_rfl,λw9 _=>by go_simp; first | done | rfl⟩) hH ?_
   simp only [sA,sB,sC];refine wpAnyH_ready (rs:=[10]) (by kernel_rfl) (by simp) ?_
   refine AllReadyH.cons rfl (λK hK=>?_) AllReadyH.nil
   rw [if_pos (by rfl)]
   refine wp_store_row_none 25 _ _ rfl rfl gt #[.slice (some ⟨gl,0,none⟩) ln ln,.slice (some ⟨gp,0,none⟩) pn pn] rfl rfl 25 #[.slice none 0 0,.slice none 0 0] Fwc7939.out treeInfo rfl (tree_all _ _ _ _ _ _) ?_
   have HG:=grown_setRow wc793 gt #[.slice (some ⟨gl,0,none⟩) ln ln,.slice (some ⟨gp,0,none⟩) pn pn];have HS:=setRow_heap wc793 gt _ #[.slice (some ⟨gl,0,none⟩) ln ln,.slice (some ⟨gp,0,none⟩) pn pn] _ _ Fwc7939.out;have HKE:Kept w1.heap.size w1.heap.size w1 (wc793.setRow gt #[.slice (some ⟨gl,0,none⟩) ln ln,.slice (some ⟨gp,0,none⟩) pn pn]):=Kwc793.out.grown HG Kwc793.out.size (λk e=>by cases e; exact HBT.out)
   have HST:CopySt w1 (wc793.setRow gt #[.slice (some ⟨gl,0,none⟩) ln ln,.slice (some ⟨gp,0,none⟩) pn pn]) ln pn gl gp gt:=⟨HKE,Fwc7933.out.grown HG (.inr (λe=>HLT.out (Option.some.inj e))),Fwc7937.out.grown HG (.inr (λe=>HPT.out (Option.some.inj e))),HS,HBL.out,HBP.out,HBT.out,HLP.out,HLT.out,HPT.out⟩
   have HST2:=hid HST;clear HG HS HST;generalize wc793.setRow gt #[.slice (some ⟨gl,0,none⟩) ln ln,.slice (some ⟨gp,0,none⟩) pn pn] = we at HKE HST2 |-;refine hK.out _ _ HKE (λhH=>?_)
   clear hK K;refine wpAnyH_done (by kernel_rfl) ?_ _
   refine NoPanic.normal ?_;exact⟨rfl,gl,gp,gt,rfl,HST2.out⟩
  refine AllReadyH.cons rfl (λK hK=>?_) AllReadyH.nil
  rw [if_pos (by rfl)]
  obtain⟨gt,hgt⟩:∃ gt,gt = wd.heap.size:=⟨_,rfl⟩;have er:=alloc_tree wd;have ho:=heap_new wd (.cells #[.slice none 0 0,.slice none 0 0] 25)
  have hg:=World.grownBy_alloc wd (.cells #[.slice none 0 0,.slice none 0 0] 25) none
  rw [<- hgt] at er ho;generalize wd.alloc (.cells #[.slice none 0 0,.slice none 0 0] 25) = wa9 at er ho hg
  refine wp_alloc_known 25 rfl (some 3) rfl _ er ?_
  simp only [Act.put,sA,sB,sC];have Kwa9:=hid (KD.out.grown hg KD.out.size (λk e=>nomatch e))
  have Fwa99:=hid ho;have HBT:=hid (show w1.heap.size<=gt by rw [hgt]; exact KD.out.size)
  clear er ho hg hgt;refine hK.out _ _ Kwa9.out (λhH=>?_)
  clear hK K;refine wpAnyH_ready (rs:=[3,7]) (by kernel_rfl) (by simp) ?_
  refine AllReadyH.cons rfl (λK hK=>?_) ?_
  ·rw [if_pos (by rfl)]
   obtain⟨gl,hgl⟩:∃ gl,gl = wa9.heap.size:=⟨_,rfl⟩;obtain⟨wb93,er,ho,hg⟩:=HML.out wa9;rw [<- hgl] at er ho;refine wp_make_known 22 _ _ rfl (some 9) rfl _ _ _ rfl rfl er ?_
   simp only [Act.put,sA,sB,sC];have Kwb93:=hid (Kwa9.out.grown hg Kwa9.out.size (λk e=>nomatch e))
   have Fwb939:=hid ((hg.block gt (lt_of_block Fwa99.out) (λe=>nomatch e)).trans Fwa99.out)
   have Fwb933:=hid ho;have HBL:=hid (show w1.heap.size<=gl by rw [hgl]; exact Kwa9.out.size)
   have HLT:=hid (show gl≠gt by have:=lt_of_block Fwa99.out; omega)
   clear er ho hg hgl;refine hK.out _ _ Kwb93.out (λhH=>?_)
   clear hK K;refine wpAnyH_ready (rs:=[7]) (by kernel_rfl) (by simp) ?_
   refine AllReadyH.cons rfl (λK hK=>?_) AllReadyH.nil
   rw [if_pos (by rfl)]
   obtain⟨gp,hgp⟩:∃ gp,gp = wb93.heap.size:=⟨_,rfl⟩;obtain⟨wc937,er,ho,hg⟩:=HMP.out wb93;rw [<- hgp] at er ho;refine wp_make_known 23 _ _ rfl (some 13) rfl _ _ _ rfl rfl er ?_
   simp only [Act.put,sA,sB,sC];have Kwc937:=hid (Kwb93.out.grown hg Kwb93.out.size (λk e=>nomatch e))
   have Fwc9379:=hid ((hg.block gt (lt_of_block Fwb939.out) (λe=>nomatch e)).trans Fwb939.out)
   have Fwc9373:=hid (Fwb933.out.grown hg (own_ne_none _));have Fwc9377:=hid ho;have HBP:=hid (show w1.heap.size<=gp by rw [hgp]; exact Kwb93.out.size)
   have HPT:=hid (show gp≠gt by have:=lt_of_block Fwb939.out; omega)
   have HLP:=hid (show gl≠gp by have:=(Fwb933.out.2.lt gl rfl).2; omega)
   clear er ho hg hgp;refine hK.out _ _ Kwc937.out (λhH=>?_)
   clear hK K;refine tkA (i:=8) 14 (.agg #[.slice (some ⟨gl,0,none⟩) ln ln,.slice (some ⟨gp,0,none⟩) pn pn]) rfl (.inl ⟨by kernel_rfl,λw9 _=>by go_simp; first | done | rfl⟩) hH ?_
   simp only [sA,sB,sC];refine wpAnyH_ready (rs:=[10]) (by kernel_rfl) (by simp) ?_
   refine AllReadyH.cons rfl (λK hK=>?_) AllReadyH.nil
   rw [if_pos (by rfl)]
   refine wp_store_row_none 25 _ _ rfl rfl gt #[.slice (some ⟨gl,0,none⟩) ln ln,.slice (some ⟨gp,0,none⟩) pn pn] rfl rfl 25 #[.slice none 0 0,.slice none 0 0] Fwc9379.out treeInfo rfl (tree_all _ _ _ _ _ _) ?_
   have HG:=grown_setRow wc937 gt #[.slice (some ⟨gl,0,none⟩) ln ln,.slice (some ⟨gp,0,none⟩) pn pn];have HS:=setRow_heap wc937 gt _ #[.slice (some ⟨gl,0,none⟩) ln ln,.slice (some ⟨gp,0,none⟩) pn pn] _ _ Fwc9379.out;have HKE:Kept w1.heap.size w1.heap.size w1 (wc937.setRow gt #[.slice (some ⟨gl,0,none⟩) ln ln,.slice (some ⟨gp,0,none⟩) pn pn]):=Kwc937.out.grown HG Kwc937.out.size (λk e=>by cases e; exact HBT.out)
   have HST:CopySt w1 (wc937.setRow gt #[.slice (some ⟨gl,0,none⟩) ln ln,.slice (some ⟨gp,0,none⟩) pn pn]) ln pn gl gp gt:=⟨HKE,Fwc9373.out.grown HG (.inr (λe=>HLT.out (Option.some.inj e))),Fwc9377.out.grown HG (.inr (λe=>HPT.out (Option.some.inj e))),HS,HBL.out,HBP.out,HBT.out,HLP.out,HLT.out,HPT.out⟩
   have HST2:=hid HST;clear HG HS HST;generalize wc937.setRow gt #[.slice (some ⟨gl,0,none⟩) ln ln,.slice (some ⟨gp,0,none⟩) pn pn] = we at HKE HST2 |-;refine hK.out _ _ HKE (λhH=>?_)
   clear hK K;refine wpAnyH_done (by kernel_rfl) ?_ _
   refine NoPanic.normal ?_;exact⟨rfl,gl,gp,gt,rfl,HST2.out⟩
  refine AllReadyH.cons rfl (λK hK=>?_) AllReadyH.nil
  rw [if_pos (by rfl)]
  obtain⟨gp,hgp⟩:∃ gp,gp = wa9.heap.size:=⟨_,rfl⟩;obtain⟨wb97,er,ho,hg⟩:=HMP.out wa9;rw [<- hgp] at er ho;refine wp_make_known 23 _ _ rfl (some 13) rfl _ _ _ rfl rfl er ?_
  simp only [Act.put,sA,sB,sC];have Kwb97:=hid (Kwa9.out.grown hg Kwa9.out.size (λk e=>nomatch e))
  have Fwb979:=hid ((hg.block gt (lt_of_block Fwa99.out) (λe=>nomatch e)).trans Fwa99.out)
  have Fwb977:=hid ho;have HBP:=hid (show w1.heap.size<=gp by rw [hgp]; exact Kwa9.out.size)
  have HPT:=hid (show gp≠gt by have:=lt_of_block Fwa99.out; omega)
  clear er ho hg hgp;refine hK.out _ _ Kwb97.out (λhH=>?_)
  clear hK K;refine wpAnyH_ready (rs:=[3]) (by kernel_rfl) (by simp) ?_
  refine AllReadyH.cons rfl (λK hK=>?_) AllReadyH.nil
  rw [if_pos (by rfl)]
  obtain⟨gl,hgl⟩:∃ gl,gl = wb97.heap.size:=⟨_,rfl⟩;obtain⟨wc973,er,ho,hg⟩:=HML.out wb97;rw [<- hgl] at er ho;refine wp_make_known 22 _ _ rfl (some 9) rfl _ _ _ rfl rfl er ?_
  simp only [Act.put,sA,sB,sC];have Kwc973:=hid (Kwb97.out.grown hg Kwb97.out.size (λk e=>nomatch e))
  have Fwc9739:=hid ((hg.block gt (lt_of_block Fwb979.out) (λe=>nomatch e)).trans Fwb979.out)
  have Fwc9737:=hid (Fwb977.out.grown hg (own_ne_none _));have Fwc9733:=hid ho;have HBL:=hid (show w1.heap.size<=gl by rw [hgl]; exact Kwb97.out.size)
  have HLT:=hid (show gl≠gt by have:=lt_of_block Fwb979.out; omega)
  have HLP:=hid (show gl≠gp by have:=(Fwb977.out.2.lt gp rfl).2; omega)
  clear er ho hg hgl;refine hK.out _ _ Kwc973.out (λhH=>?_)
  clear hK K;refine tkA (i:=8) 14 (.agg #[.slice (some ⟨gl,0,none⟩) ln ln,.slice (some ⟨gp,0,none⟩) pn pn]) rfl (.inl ⟨by kernel_rfl,λw9 _=>by go_simp; first | done | rfl⟩) hH ?_
  simp only [sA,sB,sC];refine wpAnyH_ready (rs:=[10]) (by kernel_rfl) (by simp) ?_
  refine AllReadyH.cons rfl (λK hK=>?_) AllReadyH.nil
  rw [if_pos (by rfl)]
  refine wp_store_row_none 25 _ _ rfl rfl gt #[.slice (some ⟨gl,0,none⟩) ln ln,.slice (some ⟨gp,0,none⟩) pn pn] rfl rfl 25 #[.slice none 0 0,.slice none 0 0] Fwc9739.out treeInfo rfl (tree_all _ _ _ _ _ _) ?_
  have HG:=grown_setRow wc973 gt #[.slice (some ⟨gl,0,none⟩) ln ln,.slice (some ⟨gp,0,none⟩) pn pn];have HS:=setRow_heap wc973 gt _ #[.slice (some ⟨gl,0,none⟩) ln ln,.slice (some ⟨gp,0,none⟩) pn pn] _ _ Fwc9739.out;have HKE:Kept w1.heap.size w1.heap.size w1 (wc973.setRow gt #[.slice (some ⟨gl,0,none⟩) ln ln,.slice (some ⟨gp,0,none⟩) pn pn]):=Kwc973.out.grown HG Kwc973.out.size (λk e=>by cases e; exact HBT.out)
  have HST:CopySt w1 (wc973.setRow gt #[.slice (some ⟨gl,0,none⟩) ln ln,.slice (some ⟨gp,0,none⟩) pn pn]) ln pn gl gp gt:=⟨HKE,Fwc9733.out.grown HG (.inr (λe=>HLT.out (Option.some.inj e))),Fwc9737.out.grown HG (.inr (λe=>HPT.out (Option.some.inj e))),HS,HBL.out,HBP.out,HBT.out,HLP.out,HLT.out,HPT.out⟩
  have HST2:=hid HST;clear HG HS HST;generalize wc973.setRow gt #[.slice (some ⟨gl,0,none⟩) ln ln,.slice (some ⟨gp,0,none⟩) pn pn] = we at HKE HST2 |-;refine hK.out _ _ HKE (λhH=>?_)
  clear hK K;refine wpAnyH_done (by kernel_rfl) ?_ _
  refine NoPanic.normal ?_;exact⟨rfl,gl,gp,gt,rfl,HST2.out⟩
 case rest=>
  rintro e a u ⟨rfl,gl,gp,gt,rfl,hst⟩;have ku:Kept w.heap.size w.heap.size w u:=HK1.out.next1 hst.k;have hru:=(hst.k.block rb (lt_of_block HR1.out) (Nat.ne_of_lt (lt_of_block HR1.out))).trans HR1.out;have htu:=(hst.k.block tb (lt_of_block HT1.out) (Nat.ne_of_lt (lt_of_block HT1.out))).trans HT1.out;obtain⟨e2,o2,g2⟩:=HRL.out u ku gl ln (List.replicate ln Lf.zero.cells) (List.length_replicate ..) (by rw [List.length_replicate]; exact hst.lo)
  have hb1:=hst.bl;have hb2:=hst.bp;have hb3:=hst.bt;have hd1:=hst.lp;have hd2:=hst.lt;have hd3:=hst.pt;have hrb1:=lt_of_block HR1.out;have hkw:=HK1.out.size;have htb1:=lt_of_block HT1.out;have hbl:¬ ((gl < w.heap.size\/gl = rb)\/gl = gt):=by omega
  have hbp:¬ ((gp < w.heap.size\/gp = rb)\/gp = gt):=by omega
  have m2:Mine (λk=>(k < w.heap.size\/k = rb)\/k = gt) (u.setCells gl 0 (L.map Lf.cells).flatten) (.slice (some ⟨gl,0,none⟩) ln ln) (.slice (some ⟨gp,0,none⟩) pn pn) L (List.replicate pn Pr.zero) (List.replicate pn (.slice none 0 0)):=
   { lok:=HLK.out
     pok:=λp hp=>by rw [(List.mem_replicate.1 hp).2]; exact Pr.zero_ok
     lo:=o2
     len:=by rw [List.length_replicate,List.length_replicate]
     po:=by rw [zip_rep]; exact hst.po.grown g2 (.inr (λe=>hd1 (Option.some.inj e).symm))
     so:=λi p s hp hs=>by
      rw [(List.mem_replicate.1 (List.mem_of_getElem? hp)).2,(List.mem_replicate.1 (List.mem_of_getElem? hs)).2];exact World.ownsRow_nil _ _ _ _
     dlp:=.inr (λe=>hd1 (Option.some.inj e))
     dls:=λs hs=>by rw [(List.mem_replicate.1 hs).2]; exact Dif.symm (.inl rfl)
     dps:=λs hs=>by rw [(List.mem_replicate.1 hs).2]; exact Dif.symm (.inl rfl)
     dss:=λi j s t hij hs ht=>by rw [(List.mem_replicate.1 (List.mem_of_getElem? hs)).2]; exact .inl rfl
     ol:=λg e b=>by
      have e2:gl = g:=Option.some.inj e;subst e2;exact hbl b
     op:=λg e b=>by
      have e2:gp = g:=Option.some.inj e;subst e2;exact hbp b
     os:=λs hs g e=>by rw [(List.mem_replicate.1 hs).2] at e; cases e
     bnd:=λk b=>by
      have:=g2.size;have:=hst.k.size;have:=lt_of_block hst.t
      rcases b with (b | b) | b <;> omega }
  have ht2:=(g2.block gt (lt_of_block hst.t) (λe=>hd2 (Option.some.inj e).symm)).trans hst.t
  have hr2:=(g2.block rb (lt_of_block hru) (λe=>by have:=Option.some.inj e; omega)).trans hru
  have hu2:=(g2.block tb (lt_of_block htu) (λe=>by have:=Option.some.inj e; omega)).trans htu
  have k2:Kept w.heap.size w.heap.size w (u.setCells gl 0 (L.map Lf.cells).flatten):=ku.grown g2 ku.size (λk e=>by cases e; omega)
  have HGT:=hid (show ¬ gt < w.heap.size by omega)
  have HGR:=hid (show rb≠gt by omega)
  have E2:=hid e2;have T2:=hid ht2;have R2:=hid hr2;have U2:=hid hu2;have M2:=hid m2;have K2:=hid k2;have t0:=two_cell0 hst.t;have t1:=two_cell0 htu;clear hbl hbp e2 o2 g2 hb1 hb2 hb3 hd1 hd2 hd3 hrb1 hkw htb1 m2 ht2 hr2 hu2 k2 ku hru htu hst
  go_upto_region 2 with fail
  refine wp_region_lit ?_;iterate 4 (refine wW λK hK=>?_;go_simp;apply hK;clear hK K)
  refine wpList_copy_known rfl (.tmp 16) (.tmp 18) 22 22 3 rfl rfl (.slice (some ⟨gl,0,none⟩) ln ln) (.slice lad ln lc) (goInt ln) rfl rfl E2.out ?_
  simp only [Act.put,sA,sB,sC];generalize u.setCells gl 0 (L.map Lf.cells).flatten = w2 at T2 R2 U2 M2 K2 E2 |-;clear t0 t1 E2;have t2:=two_cell1 U2.out
  go_upto_region 3 with fail
  refine wp_region_lit ?_;iterate 4 (refine wW λK hK=>?_;go_simp;apply hK;clear hK K)
  go_wp2;clear t2
  have HM2:Hid (Mine (λk=>(k < w.heap.size\/k = rb)\/k = gt) w2 (.slice (some ⟨gl,0,none⟩) ln ln) (.slice (some ⟨gp,0,none⟩) pn pn) L (P.take 0 ++ List.replicate (P.length - 0) Pr.zero) (List.replicate pn (.slice none 0 0))):=by
   have:=M2.out;rw [HPN.out] at this |-;exact this
  go_loopw [23] (λs23 wr=>∃ i:Nat,s23 = .int .i64 (i:Int)/\Hid (i<=pn)/\∃ SL',Hid (Mine (λk=>(k < w.heap.size\/k = rb)\/k = gt) wr (.slice (some ⟨gl,0,none⟩) ln ln) (.slice (some ⟨gp,0,none⟩) pn pn) L (P.take i ++ List.replicate (P.length - i) Pr.zero) SL')/\Hid (Kept w.heap.size w.heap.size w wr)/\Hid (wr.heap[gt]? = some (.cells #[.slice (some ⟨gl,0,none⟩) ln ln,.slice (some ⟨gp,0,none⟩) pn pn] 25 (0,0)))/\Hid (wr.heap[rb]? = some (.cells #[.slice none 0 0,.slice none 0 0] 25 (0,0)))) (λs23 _=>pn - (RowKit.intOf s23).toNat)
  case atStart=>exact⟨0,rfl,hid (Nat.zero_le _),_,HM2,K2,T2,R2⟩
  case round=>
   obtain⟨i,rfl,hi,SL',HM,HK,HT,HR⟩:=hrel
   by_cases hlt:i < pn
   ·have hiP:i < P.length:=by rw [<- HPN.out]; exact hlt
    have hlti:(i:Int) < (pn:Int):=by omega
    have hi0:¬ (i:Int) < 0:=by omega
    obtain⟨rfl,hg,hok,sl,hr,hnums⟩:=HPC.out i hiP;have hrw:=rangeAt_kept HK.out hr hg (Nat.ne_of_lt hg);have hnw:=hnums.kept HK.out;have hl9:=HPL.out _ (List.getElem_mem hiP);have hrep:=rep_next P i hiP;obtain⟨sad,sc,rfl⟩:=hnw.shape;have hmb:=HM.out.box (.cells (P[i].cells (.slice sad P[i].loose.length sc)).toArray 68)
    have kb:=HK.out.alloc HK.out.size (.cells (P[i].cells (.slice sad P[i].loose.length sc)).toArray 68)
    have hpb:=heap_new wr (.cells (P[i].cells (.slice sad P[i].loose.length sc)).toArray 68)
    have htb2:=(heap_alloc_old wr (.cells (P[i].cells (.slice sad P[i].loose.length sc)).toArray 68) (lt_of_block HT.out)).trans HT.out
    have hrb2:=(heap_alloc_old wr (.cells (P[i].cells (.slice sad P[i].loose.length sc)).toArray 68) (lt_of_block HR.out)).trans HR.out
    have hnb:=hnums.kept kb;obtain⟨v3,w3,e3,i3,g3⟩:=append_nums _ _ _ hnb (by omega)
    obtain⟨vad,vn,vc,rfl⟩:=one_slice i3;have hpb3:=(g3.block _ (lt_of_block hpb) (λe=>nomatch e)).trans hpb
    have hpb4:=cells_set hpb3 65 (.slice vad vn vc);rw [pr_set hok] at hpb4;have hpbl:=pr_loose hok hpb;have g4:=grown_set w3 wr.heap.size 65 (.slice vad vn vc);have hbs:(wr.alloc (.cells (P[i].cells (.slice sad P[i].loose.length sc)).toArray 68)).heap.size = wr.heap.size + 1:=by simp
    have m3:=hmb.keep g3 (own_ne_none _) (own_ne_none _) (λ_ _=>own_ne_none _)
    have m4:=m3.aside (b:=wr.heap.size) (.inr rfl) g4;obtain⟨f1,f2,f3,f4⟩:=hmb.fresh i3
    have i4:Ints (w3.setCell ⟨wr.heap.size,65,none⟩ (.slice vad vn vc)) 0 (.slice vad vn vc) P[i].loose:=owns_lower (World.ownsRow.kept i3 g4 (.inr (λe=>by
     have:=(World.ownsRow.lt i3 _ e).1
     omega))) (Nat.zero_le _)
    have ht4:=(g4.block gt (Nat.lt_of_lt_of_le (lt_of_block htb2) g3.size) (λe=>by have:=Option.some.inj e; have:=lt_of_block HT.out; omega)).trans ((g3.block gt (lt_of_block htb2) (λe=>nomatch e)).trans htb2)
    have hr4:=(g4.block rb (Nat.lt_of_lt_of_le (lt_of_block hrb2) g3.size) (λe=>by have:=Option.some.inj e; have:=lt_of_block HR.out; omega)).trans ((g3.block rb (lt_of_block hrb2) (λe=>nomatch e)).trans hrb2)
    have k4:=(kb.grown g3 kb.size (λk e=>nomatch e)).grown g4 (by have:=kb.size; have:=g3.size; omega) (λk e=>by cases e; exact HK.out.size)
    have hlen:(P.take i ++ List.replicate (P.length - i) Pr.zero).length = pn:=by
     rw [List.length_append,List.length_take,List.length_replicate,HPN.out]; omega
    obtain⟨g5,cap5,he5,hgb5,hth5,m5,gr5⟩:=(m4.mono (B':=λk=>(k < w.heap.size\/k = rb)\/k = gt) (λk b=>.inl b)).parent i (by rw [hlen]; exact hlt) P[i] hok (.slice vad vn vc) i4 (λg e b=>f4 g e (.inl b)) f1 f2 (λj t _ ht=>f3 j t ht)
    rw [hlen] at he5;injection he5 with hea hez hec
    injection hea with hea
    injection hea with heg _ _
    subst heg;clear hez hec;rw [hrep] at m5;have ht5:=(gr5.block gt (lt_of_block ht4) (λe=>hgb5 (.inr (Option.some.inj e).symm))).trans ht4
    have hr5:=(gr5.block rb (lt_of_block hr4) (λe=>hgb5 (.inl (.inr (Option.some.inj e).symm)))).trans hr4
    have k5:=k4.grown gr5 k4.size (λk e=>by cases e; exact Nat.le_of_not_lt (λh=>hgb5 (.inl (.inl h))))
    have hla:=run_loadVar_mid wr pg (po + i * 66) 68 _ _ hrw Tryz.underlying68 rfl (by have:=parentInfo (Pr.size hok (.slice sad P[i].loose.length sc)); simpa using this)
    have hsz:=Pr.size hok (.slice sad P[i].loose.length sc);have hall:=Pr.all P[i] sad P[i].loose.length sc;have hsz2:=Pr.size hok (.slice vad vn vc);have hall2:=Pr.all P[i] vad vn vc;have hlb:=run_loadVar_row _ _ 68 68 _ (0,0) _ hpb4 Tryz.underlying68 rfl (parentInfo hsz2)
    have hcl:(P[i].cells (.slice sad P[i].loose.length sc)).length = 66:=Pr.cells_length hok _;obtain⟨D,hD⟩:∃ D,D = P[i].cells (.slice sad P[i].loose.length sc):=⟨_,rfl⟩;obtain⟨D2,hD2⟩:∃ D,D = P[i].cells (.slice vad vn vc):=⟨_,rfl⟩;obtain⟨sn,hsn⟩:∃ sn,sn = P[i].loose.length:=⟨_,rfl⟩;have HLT:=hid hlt;rw [<- hD] at e3 hpb hpb3 hpbl hla hsz hall hcl;rw [<- hD2] at hsz2 hall2 hlb ht5 hr5 k5 m5;rw [<- hsn] at e3 hpbl;have HE3:=hid e3;have HPB:=hid hpb;have HPB3:=hid hpb3;have HPBL:=hid hpbl;have HLA2:=hid hla;have HSZ:=hid hsz;have HALL:=hid hall;have HCL:=hid hcl;have HSZ2:=hid hsz2;have HALL2:=hid hall2;have HLB2:=hid hlb;have HT4:=hid ht4;have HTH:=hid hth5;have HT5:=hid ht5;have HR5:=hid hr5;have HK5:=hid k5;have HM5:=hid m5;clear hlt hi hiP hg hok hr hnums hrw hnw hl9 hrep hmb kb hpb htb2 hrb2 hnb e3 i3 g3 hpb3 hpb4 hpbl g4 hbs m3 m4 f1 f2 f3 f4 i4 ht4 hr4 k4 hlen hgb5 hth5 m5 gr5 ht5 hr5 k5 hla hsz hall hsz2 hall2 hlb hcl hD hD2 hsn HM HK
    go_upto_region 5 with fail
    refine wp_region_lit ?_;iterate 2 (refine wW λK hK=>?_;go_simp;apply hK;clear hK K)
    refine wLk 68 (.tmp 26) rfl (pg) (po + i * 66) rfl (.agg D.toArray) (HLA2.out) ?_
    simp only [Act.put,sA,sB,sC];refine @wpL_alloc _ _ _ _ _ _ _ _ ?_ 68 rfl _ (alloc_parent _) ?_;kernel_rfl
    simp only [Act.put,sA,sB,sC];refine wW λK hK=>?_;go_simp;apply hK;clear hK K;refine wpList_store_row rfl 68 _ _ rfl (wr.heap.size) D.toArray rfl rfl 68 (Pr.zero.cells (.slice none 0 0)).toArray (heap_new _ _) (parentInfo HSZ.out) (by rw [HSZ.out]; exact Pr.size Pr.zero_ok _) (HALL.out) ?_
    simp only [Act.put];rw [World.setRow_alloc_new];generalize hwb:wr.alloc (.cells D.toArray 68) = wb at HE3 HPB HPB3 HPBL HT4 HLB2 |-
    obtain⟨pb,hpb⟩:∃ pb,pb = wr.heap.size:=⟨_,rfl⟩;rw [<- hpb] at HPB HPB3 HPBL HLB2 HT4 HTH HT5 HR5 HK5 HM5 |-;clear hwb hpb;have c65:=HPBL.out
    go_upto_region 6 with fail
    refine wp_region_lit ?_;iterate 2 (refine wW λK hK=>?_;go_simp;apply hK;clear hK K)
    refine wpList_append_known rfl (.const (.slice none 0 0)) (.tmp 29) 38 38 38 rfl rfl (.slice none 0 0) (.slice sad sn sc) rfl rfl HE3.out ?_
    simp only [Act.put,sA,sB,sC];refine wW λK hK=>?_;go_simp;apply hK;clear hK K;refine @wpL_store_part _ _ _ _ _ _ _ ?_ 38 _ _ rfl (pb) 65 D 68 (.slice vad vn vc) rfl rfl HPB3.out (by rw [HCL.out]; decide) rfl (by kernel_rfl) ?_;kernel_rfl
    simp only [Act.put];generalize w3.setCell ⟨pb,65,none⟩ (.slice vad vn vc) = w4 at HLB2 HT4 HTH HT5 HR5 HK5 HM5 |-;clear c65;have t4:=two_cell1 HT4.out
    go_upto_region 7 with fail
    refine wp_region_lit ?_;iterate 3 (refine wW λK hK=>?_;go_simp;apply hK;clear hK K)
    refine wLk 68 (.tmp 5) rfl (pb) (0) rfl (.agg D2.toArray) (HLB2.out) ?_
    simp only [Act.put,sA,sB,sC];refine wW λK hK=>?_;go_simp;apply hK;clear hK K;refine @wpL_store_mid _ _ _ _ _ _ _ ?_ 68 _ _ rfl (gp) (i * 66) D2.toArray rfl rfl (by rw [HSZ2.out]; exact HTH.out) (parentInfo HSZ2.out) HALL2.out ?_;kernel_rfl
    simp only [Act.put];generalize w4.setCells gp (i * 66) D2 = w5 at HT5 HR5 HK5 HM5 |-;clear t4;go_wp2
    go_roundw
    case rel=>exact⟨i + 1,by simp,hid HLT.out,_,HM5,HK5,HT5,HR5⟩
    case measure=>have:=HLT.out; simp [RowKit.intOf]; omega
   ·have hnl:¬ (i:Int) < (pn:Int):=by omega
    have HE:=hid (show i = pn by have:=hi.out; omega)
    clear hlt hi
    go_upto_region 9 with fail
    refine wp_region_lit ?_;refine wLk 25 (.tmp 3) rfl (gt) (0) rfl (.agg #[.slice (some ⟨gl,0,none⟩) ln ln,.slice (some ⟨gp,0,none⟩) pn pn]) (run_loadVar_row wr gt 25 25 _ (0,0) _ HT.out Tryz.underlying25 rfl treeInfo) ?_
    simp only [Act.put,sA,sB,sC];refine wpList_store_row rfl 25 _ _ rfl (rb) #[.slice (some ⟨gl,0,none⟩) ln ln,.slice (some ⟨gp,0,none⟩) pn pn] rfl rfl 25 #[.slice none 0 0,.slice none 0 0] HR.out treeInfo rfl (tree_all _ _ _ _ _ _) ?_
    simp only [Act.put];have R7:=setRow_heap wr rb _ #[.slice (some ⟨gl,0,none⟩) ln ln,.slice (some ⟨gp,0,none⟩) pn pn] _ _ HR.out;have g7:=grown_setRow wr rb #[.slice (some ⟨gl,0,none⟩) ln ln,.slice (some ⟨gp,0,none⟩) pn pn];have M7:=hid (HM.out.aside (b:=rb) (.inl (.inr rfl)) g7);have K7:=hid (HK.out.grown g7 HK.out.size (λk e=>by cases e; exact Nat.le_of_not_lt HRB.out))
    generalize wr.setRow rb #[.slice (some ⟨gl,0,none⟩) ln ln,.slice (some ⟨gp,0,none⟩) pn pn] = w7 at R7 g7 M7 K7 |-;go_wp2;refine bodyPost_ret (results_cell_row rfl _ _ rb 25 _ (0,0) _ rfl R7 Tryz.underlying25 rfl treeInfo) rfl ?_
    refine⟨_,_,rfl,K7.out,SL',?_⟩;have hm:=M7.out;rw [HE.out,HPN.out,List.take_length,Nat.sub_self,List.replicate_zero,List.append_nil,<- HPN.out] at hm;exact hm.mono (λ_ b=>.inl (.inl b))
end Go.Proofs.YtinebhdilnndaaaGreatDoor
