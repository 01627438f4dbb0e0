/-
 The document's Same, of two trees that are alike.
-/
import Derived.Test.YtinebhdilnndaaaGreatDoorHA
import Derived.Test.YtinebhdilnndaaaGreatDoorHK
set_option maxRecDepth 100000
set_option maxHeartbeats 6400000
namespace Go.Proofs.YtinebhdilnndaaaGreatDoor
open Go.RowKit Go.Lib
open List renaming setIfInBounds_toArray -> sA, set_cons_zero -> sB, set_cons_succ -> sC
open BigFrame renaming wpList_want -> wQ
section
variable {P:Program} {ops:Array Oper} {a:Act} {S:World->Prop}
theorem yieldsIf_neq_struct {op:Oper}(hw:Region.wanted op (yielded ops a.tmps) = true)(t t2:TypeId)(x y:Operand)(ho:op.op = .binOp .neq t x y t2)(A B:Array Value)(hx:a.eval x = .agg A)(hy:a.eval y = .agg B)(hg:P.eqGuardType P.depth t = false)(r:Bool)(hr:∀ w,(Op.equalIn 10000 t (.agg A) (.agg B)).run P w = .ok r w):YieldsIf P ops S op (.bool (!r)) a:=
 .inl ⟨hw,λw _=>by
  unfold execOp
  simp only [ho,hx,hy,Sem.run_bind,run_eqGuard_agg _ _ _ _ _ _ _ hg,run_neq_struct,hr,Result.andThen_ok,Sem.run_pure]⟩
end
theorem Lf.same_self (l:Lf):l.same l = true:=Lf.same_iff.2 rfl
theorem Mine.leafRow {B:Nat->Prop}{w:World}{lad:Option Addr}{n c:Nat}{pv:Value}{L:List Lf}{P:List Pr}{SL:List Value}(h:Mine B w (.slice lad n c) pv L P SL)(i:Nat)(hi:i < L.length):∃ g,lad = some ⟨g,0,none⟩/\g < w.heap.size/\L[i].Ok/\w.rangeAt g (i * 97) L[i].cells:=by
 obtain⟨ad,g,c2,hv,hc,_⟩:=h.lo.at;obtain⟨ha,_,hg,hr⟩:=hc i (by rw [List.length_map]; exact hi)
 injection hv with hx _ _
 rw [List.getElem_map,Nat.zero_add] at hr;exact⟨g,hx.trans ha,hg,h.lok _ (List.getElem_mem hi),hr⟩
theorem Mine.parentRow {B:Nat->Prop}{w:World}{lv:Value}{pad:Option Addr}{n c:Nat}{L:List Lf}{P:List Pr}{SL:List Value}(h:Mine B w lv (.slice pad n c) L P SL)(i:Nat)(hi:i < P.length):∃ g s,pad = some ⟨g,0,none⟩/\g < w.heap.size/\P[i].Ok/\w.rangeAt g (i * 66) (P[i].cells s)/\Ints w 0 s P[i].loose:=by
 obtain⟨ad,g,c2,hv,hc,_⟩:=h.po.at;obtain⟨ha,_,hg,hr⟩:=hc i (by rw [zip_len h]; exact hi)
 injection hv with hx _ _
 have hs:i < SL.length:=by rw [h.len]; exact hi
 rw [List.getElem_zipWith,Nat.zero_add] at hr;exact⟨g,SL[i],hx.trans ha,hg,h.pok _ (List.getElem_mem hi),hr,h.so i _ _ (List.getElem?_eq_getElem hi) (List.getElem?_eq_getElem hs)⟩
theorem treesame_calls (B1 B2:Nat->Prop)(lv1 pv1 lv2 pv2:Value)(L:List Lf)(P:List Pr)(SL1 SL2:List Value)(w:World)(h1:Mine B1 w lv1 pv1 L P SL1)(h2:Mine B2 w lv2 pv2 L P SL2)(hn:L.length<=1000)(hp:P.length<=1000)(hpl:∀ p∈P,p.loose.length<=66):
  Calls Tryz.prog 15 #[.agg #[lv1,pv1],.agg #[lv2,pv2]] w λe w'=>e = .returned (.bool true)/\Kept w.heap.size w.heap.size w w':=by
 obtain⟨alad,alc,rfl⟩:=h1.lvs.shape;obtain⟨apad,apc,rfl⟩:=h1.pts.shape;obtain⟨blad,blc,rfl⟩:=h2.lvs.shape;obtain⟨bpad,bpc,rfl⟩:=h2.pts.shape;obtain⟨ln,hln⟩:∃ ln,ln = L.length:=⟨_,rfl⟩;obtain⟨pn,hpn⟩:∃ pn,pn = P.length:=⟨_,rfl⟩;rw [<- hln,<- hpn] at h1 h2 |-;have hln9:(ln:Int)<=1000:=by omega
 have hpn9:(pn:Int)<=1000:=by omega
 have HLN:=hid hln;have HPN:=hid hpn;have HPL:=hid hpl;have MA:=hid h1;have MB:=hid h2;have hd1:((ln:Int) != (ln:Int)) = false:=by simp
 have hd2:((pn:Int) != (pn:Int)) = false:=by simp
 clear h1 h2 hn hp hpl hln hpn;have k1:=kA w (.cells #[.slice alad ln alc,.slice apad pn apc] 25)
 have t1:=heap_new w (.cells #[.slice alad ln alc,.slice apad pn apc] 25)
 have s1:(w.alloc (.cells #[.slice alad ln alc,.slice apad pn apc] 25)).heap.size = w.heap.size + 1:=by simp
 go_enter Tryz.func15,Tryz.ntmps15
 go_upto_region 1 with fail
 generalize w.alloc (.cells #[.slice alad ln alc,.slice apad pn apc] 25) = wa at k1 t1 s1 |-
 have k2:=kA wa (.cells #[.slice blad ln blc,.slice bpad pn bpc] 25)
 have u2:=heap_new wa (.cells #[.slice blad ln blc,.slice bpad pn bpc] 25)
 have t2:=rk t1 k2;generalize wa.alloc (.cells #[.slice blad ln blc,.slice bpad pn bpc] 25) = w1 at k2 u2 t2 |-
 have K1:=hid (k1.next1 k2);rw [s1] at u2
 (try rw [s1])
 obtain⟨ta,hta⟩:∃ ta,ta = w.heap.size:=⟨_,rfl⟩;obtain⟨tb,htb⟩:∃ tb,tb = w.heap.size + 1:=⟨_,rfl⟩;rw [<- htb] at u2
 (try rw [<- htb])
 rw [<- hta] at t2
 (try rw [<- hta])
 have A1:=hid t2;have U1:=hid u2;clear k1 t1 s1 k2 u2 t2 hta htb;have t0:=two_cell0 A1.out;have t1:=two_cell1 A1.out;have t2:=two_cell0 U1.out;have t3:=two_cell1 U1.out;refine wp_region_lit ?_;iterate 16 (refine wW λK hK=>?_;go_simp;apply hK;clear hK K)
 clear t0 t1 t2 t3 hd1 hd2;have A9:=A1;have U9:=U1;have K9:=K1;go_wp2
 go_loopw [5] (λs5 wr=>∃ i:Nat,s5 = .int .i64 (i:Int)/\Hid (i<=ln)/\Hid (Kept w.heap.size w.heap.size w wr)/\Hid (wr.heap[ta]? = some (.cells #[.slice alad ln alc,.slice apad pn apc] 25 (0,0)))/\Hid (wr.heap[tb]? = some (.cells #[.slice blad ln blc,.slice bpad pn bpc] 25 (0,0)))) (λs5 _=>ln - (RowKit.intOf s5).toNat)
 case atStart=>exact⟨0,rfl,hid (Nat.zero_le _),K1,A1,U1⟩
 case round=>
  clear K1 A1 U1 K9 A9 U9;obtain⟨i,rfl,hi,HK,HA,HU⟩:=hrel;have t0:=two_cell0 HA.out
  by_cases hlt:i < ln
  ·have hiL:i < L.length:=by rw [<- HLN.out]; exact hlt
   have hlti:(i:Int) < (ln:Int):=by omega
   have hi0:¬ (i:Int) < 0:=by omega
   obtain⟨g1,rfl,hg1,hok,hr1⟩:=MA.out.leafRow i hiL;obtain⟨g2,rfl,hg2,hok2,hr2⟩:=MB.out.leafRow i hiL;have hw1:=rangeAt_kept HK.out hr1 hg1 (Nat.ne_of_lt hg1);have hw2:=rangeAt_kept HK.out hr2 hg2 (Nat.ne_of_lt hg2);have hh1:=Nat.lt_of_lt_of_le hg1 HK.out.size;have hh2:=Nat.lt_of_lt_of_le hg2 HK.out.size;have HR1:=hid (λ(x:World) (k:Kept wr.heap.size wr.heap.size wr x)=>rangeAt_kept k hw1 hh1 (Nat.ne_of_lt hh1))
   have HR2:=hid (λ(x:World) (k:Kept wr.heap.size wr.heap.size wr x)=>rangeAt_kept k hw2 hh2 (Nat.ne_of_lt hh2))
   have HT1:=hid (λ(x:World) (k:Kept wr.heap.size wr.heap.size wr x)=>load_slice (d:=.int .u8) (two_cell0 (rk HA.out k)) (.inl rfl) rfl)
   have HT2:=hid (λ(x:World) (k:Kept wr.heap.size wr.heap.size wr x)=>load_slice (d:=.int .u8) (two_cell0 (rk HU.out k)) (.inl rfl) rfl)
   have hinf:(Tryz.prog.info? 48).map (·.size) = some L[i].cells.length:=by have:=leafInfo (Lf.size hok); simpa using this
   have HEQ:=hid (λw=>leaf_equalIn w L[i] L[i] hok hok)
   rw [Lf.same_self] at HEQ;obtain⟨D,hD⟩:∃ D,D = L[i].cells:=⟨_,rfl⟩;rw [<- hD] at HR1 HR2 hinf HEQ;have HINF:=hid hinf;have HLT:=hid hlt;clear hiL hg1 hok hok2 hr1 hg2 hr2 hw1 hw2 hh1 hh2 hinf hD hlt hi
   go_upto_region 6 with fail
   obtain⟨wd,hwd⟩:∃ wd,wd = wr.drew:=⟨_,rfl⟩;have hkd:Kept wr.heap.size wr.heap.size wr wd:=by rw [hwd]; exact(Kept.refl _ _ _).drew
   have KD:=hid (HK.out.next1 hkd);have AD:=hid (rk HA.out hkd);have UD:=hid (rk HU.out hkd);clear hkd t0;refine wp_region_noPanic ?_;refine wp_region_held_drew (S:=λw'=>Kept wr.heap.size wr.heap.size wr w') (by kernel_rfl) ((Kept.refl _ _ _).drew) (λhH=>?_)
   refine tkE (i:=0) 32 rfl hH ?_
   apply Exists.intro;apply And.intro
   ·intro w9 _
    go_simp
    first | done | rfl
   simp only [sA,sB,sC];refine tkA (i:=1) 33 (.slice (some ⟨g1,0,none⟩) ln alc) rfl (yieldsIf_load_known (by kernel_rfl) 22 _ rfl (ta) (0) rfl (.slice (some ⟨g1,0,none⟩) ln alc) (HT1.out)) hH ?_
   simp only [sA,sB,sC];refine tkE (i:=2) 34 rfl hH ?_
   apply Exists.intro;apply And.intro
   ·intro w9 _
    go_simp
    first | done | rfl
   simp only [sA,sB,sC];refine tkE (i:=3) 35 rfl hH ?_
   apply Exists.intro;apply And.intro
   ·intro w9 _
    go_simp
    first | done | rfl
   simp only [sA,sB,sC];refine tkA (i:=4) 36 (.agg D.toArray) rfl (yieldsIf_load_mid (by kernel_rfl) 48 _ rfl (g1) (i * 97) rfl D _ HR1.out Tryz.underlying48 rfl HINF.out) hH ?_
   simp only [sA,sB,sC];refine tkE (i:=5) 37 rfl hH ?_
   apply Exists.intro;apply And.intro
   ·intro w9 _
    go_simp
    first | done | rfl
   simp only [sA,sB,sC];refine tkA (i:=6) 38 (.slice (some ⟨g2,0,none⟩) ln blc) rfl (yieldsIf_load_known (by kernel_rfl) 22 _ rfl (tb) (0) rfl (.slice (some ⟨g2,0,none⟩) ln blc) (HT2.out)) hH ?_
   simp only [sA,sB,sC];refine tkE (i:=7) 39 rfl hH ?_
   apply Exists.intro;apply And.intro
   ·intro w9 _
    go_simp
    first | done | rfl
   simp only [sA,sB,sC];refine tkE (i:=8) 40 rfl hH ?_
   apply Exists.intro;apply And.intro
   ·intro w9 _
    go_simp
    first | done | rfl
   simp only [sA,sB,sC];refine tkA (i:=9) 41 (.agg D.toArray) rfl (yieldsIf_load_mid (by kernel_rfl) 48 _ rfl (g2) (i * 97) rfl D _ HR2.out Tryz.underlying48 rfl HINF.out) hH ?_
   simp only [sA,sB,sC];refine tkA (i:=10) 42 (.bool (!true)) rfl (yieldsIf_neq_struct (by kernel_rfl) _ _ _ _ rfl D.toArray D.toArray rfl rfl leafGuard true HEQ.out) hH ?_
   simp only [sA,sB,sC];refine wpAnyH_done (by kernel_rfl) ?_ _
   refine NoPanic.normal ?_;rw [<- hwd];clear hH hwd;go_wp2
   go_roundw
   case rel=>exact⟨i + 1,by simp,hid HLT.out,KD,AD,UD⟩
   case measure=>have:=HLT.out; simp [RowKit.intOf]; omega
  ·have hnl:¬ (i:Int) < (ln:Int):=by omega
   clear hlt hi
   go_upto_region 8 with fail
   clear t0;go_wp2
   go_loopw [6] (λs6 wr=>∃ i:Nat,s6 = .int .i64 (i:Int)/\Hid (i<=pn)/\Hid (Kept w.heap.size w.heap.size w wr)/\Hid (wr.heap[ta]? = some (.cells #[.slice alad ln alc,.slice apad pn apc] 25 (0,0)))/\Hid (wr.heap[tb]? = some (.cells #[.slice blad ln blc,.slice bpad pn bpc] 25 (0,0)))) (λs6 _=>pn - (RowKit.intOf s6).toNat)
   case atStart=>exact⟨0,rfl,hid (Nat.zero_le _),HK,HA,HU⟩
   case round=>
    clear HK HA HU hnl;obtain⟨i,rfl,hi,HK,HA,HU⟩:=hrel;have t0:=two_cell1 HA.out
    by_cases hlt:i < pn
    ·have hiP:i < P.length:=by rw [<- HPN.out]; exact hlt
     have hlti:(i:Int) < (pn:Int):=by omega
     have hi0:¬ (i:Int) < 0:=by omega
     obtain⟨g1,v1,rfl,hg1,hok,hr1,hn1⟩:=MA.out.parentRow i hiP;obtain⟨g2,v2,rfl,hg2,hok2,hr2,hn2⟩:=MB.out.parentRow i hiP;have hpl66:=HPL.out _ (List.getElem_mem hiP);have hw1:=rangeAt_kept HK.out hr1 hg1 (Nat.ne_of_lt hg1);have hw2:=rangeAt_kept HK.out hr2 hg2 (Nat.ne_of_lt hg2);have hi1:=hn1.kept HK.out;have hi2:=hn2.kept HK.out;obtain⟨s1,c1,rfl⟩:=(ints_nums hn1).shape;obtain⟨s2,c2,rfl⟩:=(ints_nums hn2).shape;generalize P[i] = p at hok hw1 hw2 hi1 hi2 hpl66;have HLA:=hid (run_loadVar_mid wr g1 (i * 66) 68 _ _ hw1 Tryz.underlying68 rfl (by have:=parentInfo (Pr.size hok (.slice s1 p.loose.length c1)); simpa using this))
     have HSA:=hid (λu (k:Kept wr.heap.size wr.heap.size wr u)=>same_calls _ _ _ _ _ _ u (hi1.kept k) (hi2.kept k) hpl66)
     rw [show(p.loose == p.loose) = true by simp] at HSA
     obtain⟨qn,hqn⟩:∃ qn,qn = p.loose.length:=⟨_,rfl⟩;rw [<- hqn] at hw1 hw2 hi1 hi2 HLA HSA;have HOK:=hid hok;have HW2:=hid hw2;have HG2:=hid (Nat.lt_of_lt_of_le hg2 HK.out.size);have HSZ1:=hid (parentInfo (Pr.size hok (.slice s1 qn c1)));have HSZ2:=hid (parentInfo (Pr.size hok (.slice s2 qn c2)));have HS01:=hid (show(Pr.zero.cells (.slice none 0 0)).toArray.size = (p.cells (.slice s1 qn c1)).toArray.size by rw [Pr.size hok,Pr.size Pr.zero_ok])
     have HS02:=hid (show(Pr.zero.cells (.slice none 0 0)).toArray.size = (p.cells (.slice s2 qn c2)).toArray.size by rw [Pr.size hok,Pr.size Pr.zero_ok])
     have HAL1:=hid (p.all s1 qn c1);have HAL2:=hid (p.all s2 qn c2);obtain⟨D1,hD1⟩:∃ D,D = (p.cells (.slice s1 qn c1)).toArray:=⟨_,rfl⟩;obtain⟨D2,hD2⟩:∃ D,D = (p.cells (.slice s2 qn c2)).toArray:=⟨_,rfl⟩;have HD1:=hid hD1;have HD2:=hid hD2;rw [<- hD1] at HLA HSZ1 HS01 HAL1;rw [<- hD2] at HSZ2 HS02 HAL2;obtain⟨Z,hZ⟩:∃ Z,Z = (Pr.zero.cells (.slice none 0 0)).toArray:=⟨_,rfl⟩;rw [<- hZ] at HS01 HS02;have HAZ:=hid (λw=>show(Instr.alloc 68 true (.tuple #[])).run Tryz.prog w = .ok (.pointer (some ⟨w.heap.size,0,none⟩)) (w.alloc (.cells Z 68)) by rw [hZ]; exact alloc_parent w)
     have HLT:=hid hlt;clear hlt hi hiP hg1 hg2 hok hok2 hr1 hr2 hn1 hn2 hpl66 hw1 hw2 hi1 hi2 hqn hD1 hD2 hZ
     go_upto_region 11 with fail
     refine wp_region_lit ?_;iterate 4 (refine wW λK hK=>?_;go_simp;apply hK;clear hK K)
     refine wLk 68 (.tmp 53) rfl (g1) (i * 66) rfl (.agg D1) (HLA.out) ?_
     simp only [Act.put,sA,sB,sC];refine @wpL_alloc _ _ _ _ _ _ _ _ ?_ 68 rfl _ (HAZ.out _) ?_;kernel_rfl
     simp only [Act.put,sA,sB,sC];refine wpList_store_row rfl 68 _ _ rfl (wr.heap.size) D1 rfl rfl 68 Z (heap_new _ _) (HSZ1.out) (HS01.out) (HAL1.out) ?_
     simp only [Act.put];rw [World.setRow_alloc_new];have kk:Kept wr.heap.size wr.heap.size wr (wr.alloc (.cells D1 68)):=(Kept.refl _ _ _).alloc (Nat.le_refl _) _
     have HB1:=hid (heap_new wr (.cells D1 68))
     have KB1:=hid kk;have K2:=hid (HK.out.next1 kk);have A2:=hid (rk HA.out kk);have U2:=hid (rk HU.out kk);have HLB:=hid (run_loadVar_mid (wr.alloc (.cells D1 68)) g2 (i * 66) 68 _ _ (rangeAt_kept kk HW2.out HG2.out (Nat.ne_of_lt HG2.out)) Tryz.underlying68 rfl (by have:=parentInfo (Pr.size HOK.out (.slice s2 qn c2)); simpa using this))
     rw [<- HD2.out] at HLB;clear kk t0;generalize wr.alloc (.cells D1 68) = w2 at HB1 KB1 K2 A2 U2 HLB |-
     obtain⟨b1,hb1⟩:∃ b1,b1 = wr.heap.size:=⟨_,rfl⟩;rw [<- hb1] at HB1 |-;clear hb1;have t3:=two_cell1 U2.out
     go_upto_region 12 with fail
     refine wp_region_lit ?_;iterate 4 (refine wW λK hK=>?_;go_simp;apply hK;clear hK K)
     refine wLk 68 (.tmp 58) rfl (g2) (i * 66) rfl (.agg D2) (HLB.out) ?_
     simp only [Act.put,sA,sB,sC];refine @wpL_alloc _ _ _ _ _ _ _ _ ?_ 68 rfl _ (HAZ.out _) ?_;kernel_rfl
     simp only [Act.put,sA,sB,sC];refine wpList_store_row rfl 68 _ _ rfl (w2.heap.size) D2 rfl rfl 68 Z (heap_new _ _) (HSZ2.out) (HS02.out) (HAL2.out) ?_
     simp only [Act.put];rw [World.setRow_alloc_new];have kk:Kept w2.heap.size w2.heap.size w2 (w2.alloc (.cells D2 68)):=(Kept.refl _ _ _).alloc (Nat.le_refl _) _
     have HB2:=hid (heap_new w2 (.cells D2 68))
     have KB2:=hid (KB1.out.next1 kk);have K3:=hid (K2.out.next1 kk);have A3:=hid (rk A2.out kk);have U3:=hid (rk U2.out kk);have HB3:=hid (rk HB1.out kk);clear kk t3 HB1 HLA HLB;generalize w2.alloc (.cells D2 68) = w3 at HB2 KB2 K3 A3 U3 HB3 |-
     obtain⟨b2,hb2⟩:∃ b2,b2 = w2.heap.size:=⟨_,rfl⟩;rw [<- hb2] at HB2 |-;clear hb2;rw [HD1.out] at HB3;rw [HD2.out] at HB2;have c0:=pr_cell0 HB3.out;have d0:=pr_cell0 HB2.out;have c65:=pr_loose HOK.out HB3.out;have d65:=pr_loose HOK.out HB2.out;have HPB1:=hid (run_loadVar_mid w3 b1 1 30 (bcells p.pub) _ (pr_pub HOK.out HB3.out) Tryz.underlying30 rfl (hashInfoT (by rw [bcells_length,HOK.out.1])))
     have HAB1:=hid (run_loadVar_mid w3 b1 33 30 (bcells p.abv) _ (pr_abv HOK.out HB3.out) Tryz.underlying30 rfl (hashInfoT (by rw [bcells_length,HOK.out.2])))
     have HPB2:=hid (run_loadVar_mid w3 b2 1 30 (bcells p.pub) _ (pr_pub HOK.out HB2.out) Tryz.underlying30 rfl (hashInfoT (by rw [bcells_length,HOK.out.1])))
     have HAB2:=hid (run_loadVar_mid w3 b2 33 30 (bcells p.abv) _ (pr_abv HOK.out HB2.out) Tryz.underlying30 rfl (hashInfoT (by rw [bcells_length,HOK.out.2])))
     have he1:=λw=>hash_equalIn w p.pub p.pub HOK.out.1 HOK.out.1
     have he2:=λw=>hash_equalIn w p.abv p.abv HOK.out.2 HOK.out.2
     rw [show(p.pub == p.pub) = true by simp] at he1
     rw [show(p.abv == p.abv) = true by simp] at he2
     obtain⟨DP,hDP⟩:∃ DP,DP = (bcells p.pub).toArray:=⟨_,rfl⟩;obtain⟨DA,hDA⟩:∃ DA,DA = (bcells p.abv).toArray:=⟨_,rfl⟩;rw [<- hDP] at HPB1 HPB2 he1;rw [<- hDA] at HAB1 HAB2 he2;have gd:Tryz.prog.eqGuardType Tryz.prog.depth 30 = false:=macGuard25
     clear hDP hDA;obtain⟨st,hst⟩:∃ st,st = p.set:=⟨_,rfl⟩;rw [<- hst] at c0 d0;clear hst;have hbb:(st != st) = false:=by simp
     go_upto_region 13 with fail
     refine wp_region_lit ?_;iterate 7 (refine wW λK hK=>?_;go_simp;apply hK;clear hK K)
     refine wLk 30 (.tmp 66) rfl (b1) (1) rfl (.agg DP) (HPB1.out) ?_
     simp only [Act.put,sA,sB,sC];refine wW λK hK=>?_;go_simp;apply hK;clear hK K;refine wLk 30 (.tmp 68) rfl (b2) (1) rfl (.agg DP) (HPB2.out) ?_
     simp only [Act.put,sA,sB,sC];iterate 4 (refine wW λK hK=>?_;go_simp;apply hK;clear hK K)
     refine wLk 30 (.tmp 73) rfl (b1) (33) rfl (.agg DA) (HAB1.out) ?_
     simp only [Act.put,sA,sB,sC];refine wW λK hK=>?_;go_simp;apply hK;clear hK K;refine wLk 30 (.tmp 75) rfl (b2) (33) rfl (.agg DA) (HAB2.out) ?_
     simp only [Act.put,sA,sB,sC];iterate 7 (refine wW λK hK=>?_;go_simp;apply hK;clear hK K)
     refine wW λK hK=>?_;go_simp;go_at_call 16
     refine(HSA.out w3 KB2.out).mono ?_;rintro e w4 ⟨rfl,k4⟩;have K4:=hid (K3.out.next1 k4);have A4:=hid (rk A3.out k4);have U4:=hid (rk U3.out k4);clear k4;apply hK;clear hK K;iterate 2 (refine wW λK hK=>?_;go_simp;apply hK;clear hK K)
     clear c0 d0 c65 d65 he1 he2 gd hbb;go_wp2
     go_roundw
     case rel=>exact⟨i + 1,by simp,hid HLT.out,K4,A4,U4⟩
     case measure=>have:=HLT.out; simp [RowKit.intOf]; omega
    ·have hnl:¬ (i:Int) < (pn:Int):=by omega
     clear hlt hi
     go_upto_region 15 with fail
     go_wp2;go_ret;exact⟨rfl,HK.out⟩
end Go.Proofs.YtinebhdilnndaaaGreatDoor
