/-
 ApAdd; ApDo; ApApply: several texts in one.
-/
import Derived.Test.YtinebhdilnndaaaGreatDoorAA
import Derived.Test.YtinebhdilnndaaaGreatDoorTreeJoin
set_option maxRecDepth 100000
set_option maxHeartbeats 6400000
namespace Go.Proofs.YtinebhdilnndaaaGreatDoor
open Go.RowKit Go.Lib
open List renaming setIfInBounds_toArray -> sA, set_cons_zero -> sB, set_cons_succ -> sC
open BigFrame renaming wpList_want -> wQ
theorem add_calls10 (w0:World)(gb:Nat)(rv lv pv fv:Value)(SL:List Value)(s:Gp)(R:List Pn)(n:Int)(w:World)(h:Gm w0 w gb rv lv pv fv SL s)(hR:Pns w0 rv R)(hrn:R.length<=1000)(hrc:∀ p∈R,p.cards.length<=1000)(hright:Tt.right s.L s.P = true)(hfr:s.fr.length<=1000):
  Calls Tryz.prog 55 #[.pointer (some ⟨gb,0,none⟩),.int .i64 n] w λe w'=>e = .returned (.int .i64 (Ap.aerr R s n))/\Kp w0 w'/\Ga w0 w' gb rv R s n:=by
 obtain⟨lad,ln,lc,rfl⟩:=ownc_slice h.mine.lo;obtain⟨pad,pn,pc,rfl⟩:=ownc_slice h.mine.po;obtain⟨fad,fn,fc,rfl⟩:=one_slice h.fr;have HLF:=hid (leafof_calls10 gb _ _ rv _ s.ts R n w h.row (hR.kept h.kp) h.ts hrn hrc);obtain⟨ce,hce⟩:∃ ce,ce = Ap.cardErr R s.ts n:=⟨_,rfl⟩;obtain⟨LD,hLD⟩:∃ D,D = (Ap.leafOf R s.ts n).cells.toArray:=⟨_,rfl⟩;have HLO:=hid (λ(h0:Ap.cardErr R s.ts n = 0)=>leaf_okA hR h0)
 have hlok:(Ap.leafOf R s.ts n).Ok:=by
  by_cases h0:Ap.cardErr R s.ts n = 0
  ·rw [Ap.leafOf_yes h0]; exact leaf_okA hR h0
  ·rw [Ap.leafOf_no h0]; exact Lf.zero_ok
 have HLS:=hid (show LD.size = 97 by rw [hLD]; exact Lf.size hlok)
 have HLI:=hid (leafInfo HLS.out);have HLA:=hid (show LD.all (·.oneCell') = true by rw [hLD]; exact all_oneCell_toArray (Lf.cells_one _))
 rw [<- hce,<- hLD] at HLF;have HCE:=hid hce;have HLD:=hid hLD;have H:=hid h;have HRC:=hid hrc;have HRN:=hid hrn;have HFR:=hid hfr;have HRT:=hid hright;have HR:=hid hR;clear hce hLD hlok h hR hrn hrc hright hfr
 go_enter Tryz.func55,Tryz.ntmps55
 go_upto_region 1 with fail
 refine wp_region_lit ?_;iterate 2 (refine wW λK hK=>?_;go_simp;apply hK;clear hK K)
 refine wW λK hK=>?_;go_simp;go_at_call 82
 refine(HLF.out).mono ?_;rintro e w2 ⟨rfl,k2⟩;apply hK;clear hK K;iterate 3 (refine wW λK hK=>?_;go_simp;apply hK;clear hK K)
 refine @wpL_alloc _ _ _ _ _ _ _ _ ?_ 48 rfl _ (alloc_leaf _) ?_;kernel_rfl
 simp only [Act.put,sA,sB,sC];refine wpList_store_row rfl 48 _ _ rfl (w2.heap.size) LD rfl rfl 48 Lf.zero.cells.toArray (heap_new _ _) (HLI.out) (by rw [HLS.out]; exact Lf.size Lf.zero_ok) (HLA.out) ?_
 simp only [Act.put];rw [World.setRow_alloc_new];refine wW λK hK=>?_;go_simp;apply hK;clear hK K;have ka:=k2.onto (kA w2 (.cells LD 48))
 have ra:=heap_new w2 (.cells LD 48)
 generalize w2.alloc (.cells LD 48) = w3 at ka ra |-
 obtain⟨lb,hlb⟩:∃ n,n = w2.heap.size:=⟨_,rfl⟩;rw [<- hlb] at ra
 (try rw [<- hlb])
 clear hlb;have G3:=hid (H.out.kept ka);have RL:=hid ra;clear ka ra k2 H HLF
 by_cases hc0:ce = 0
 ·subst hc0
  have HC0:=hid (show Ap.cardErr R s.ts n = 0 from HCE.out.symm);obtain⟨hkn,hlf⟩:=Ap.cardErr_zero HC0.out;obtain⟨hn1,hn64,hnr⟩:=Ap.known_iff.1 hkn;obtain⟨hcn0,hcnl⟩:=Ap.left_iff.1 hlf;obtain⟨k,rfl⟩:∃ k:Nat,n = (k:Int) + 1:=⟨(n - 1).toNat,by omega⟩
  have hk:k < 64:=by omega
  have hki:(k:Int) < 64:=by omega
  obtain⟨c,hc⟩:∃ c:Nat,Ap.count s.ts ((k:Int) + 1) = (c:Int):=⟨(Ap.count s.ts ((k:Int) + 1)).toNat,by omega⟩
  have hc1000:(c:Int)<=1000:=by have:=HRC.out _ (Ap.person_mem hkn); omega
  have hkt:k < s.ts.length:=by rw [G3.out.ts]; exact hk
  have HKT:=hid hkt
  have HTC:=hid (show s.ts[k]'HKT.out = (c:Int) by
   rw [<- hc,Ap.count,show((k:Int) + 1).toNat - 1 = k by omega,List.getD_eq_getElem?_getD,List.getElem?_eq_getElem hkt,Option.getD_some])
  have HBU:=hid (show Ap.bump s.ts ((k:Int) + 1) = s.ts.set k ((c:Int) + 1) by rw [Ap.bump,hc,show((k:Int) + 1).toNat - 1 = k by omega])
  have HK64:=hid hk;have HLX:=hid (show LD = (Ap.leaf R s.ts ((k:Int) + 1)).cells.toArray by rw [HLD.out,Ap.leafOf_yes HC0.out])
  obtain⟨l,hl⟩:∃ l,l = Ap.leaf R s.ts ((k:Int) + 1):=⟨_,rfl⟩;have hlo:l.Ok:=by rw [hl]; exact HLO.out HC0.out
  have HNM:=hid (show l.name = (k:Int) + 1 by rw [hl]; rfl)
  have HADD:=hid (λ(B:Nat->Prop) (u:World) (m:Mine B u (.slice lad ln lc) (.slice pad pn pc) s.L s.P SL)=>add_any (.slice lad ln lc) (.slice pad pn pc) s.L s.P l hlo u m.lvs m.pts (right_looseA HRT.out) HRT.out)
  have HLXX:=HLX.out;rw [<- hl] at HLXX;rw [<- HLXX] at HADD;obtain⟨er,her⟩:∃ er,er = Tt.addErr s.L l.name:=⟨_,rfl⟩;obtain⟨at9,hat⟩:∃ a,a = Tt.addAt s.L l.name:=⟨_,rfl⟩;rw [<- her,<- hat] at HADD;have HER:=hid her;have HAT:=hid hat;have HL:=hid hl;clear her hat hlo hc hkt hkn hlf hnr hcn0 hcnl hn1 hn64 HLXX hl;have HKW:=hid (show IntKind.i64.wrap (k:Int) = (k:Int) from wrap_small _ (by omega) (by omega))
  have HCW:=hid (show IntKind.i64.wrap ((c:Int) + 1) = (c:Int) + 1 from wrap_small _ (by omega) (by omega))
  have hk0:¬ (k:Int) < 0:=by omega
  have HLT:=hid (λ(x:World) (kk:Kp w3 x)=>load_tree10 (grp_tree (G3.out.kept kk).row))
  have HLL:=hid (λ(x:World) (kk:Kp w3 x)=>run_loadVar_row x lb 48 48 _ (0,0) _ (row_kept RL.out kk) Tryz.underlying48 rfl HLI.out)
  as_aux_lemma=>
   go_upto_region 4 with fail
   refine wp_region_noPanic ?_;refine wp_region_held_drew (S:=λx=>Kp w3 x) (by kernel_rfl) ((Kept.refl _ _ _).drew) (λhH=>?_)
   have Kwd:=hid hH;obtain⟨wd,hwd⟩:∃ wd,wd = w3.drew:=⟨_,rfl⟩;rw [<- hwd] at hH Kwd |-;clear hwd;refine tkE (i:=0) 19 rfl hH ?_
   apply Exists.intro;apply And.intro
   ·intro w9 _
    go_simp
    first | done | rfl
   simp only [sA,sB,sC];refine tkE (i:=1) 20 rfl hH ?_
   apply Exists.intro;apply And.intro
   ·intro w9 _
    go_simp
    first | done | rfl
   simp only [sA,sB,sC];refine tkE (i:=2) 21 rfl hH ?_
   apply Exists.intro;apply And.intro
   ·intro w9 _
    go_simp
    first | done | rfl
   simp only [sA,sB,sC];refine tkA (i:=3) 22 (.agg #[.slice lad ln lc,.slice pad pn pc]) rfl (yieldsIf_load_known (by kernel_rfl) 25 _ rfl (gb) (0) rfl (.agg #[.slice lad ln lc,.slice pad pn pc]) (λx hx=>HLT.out x hx)) hH ?_
   simp only [sA,sB,sC];refine tkA (i:=4) 23 (.agg LD) rfl (yieldsIf_load_known (by kernel_rfl) 48 _ rfl (lb) (0) rfl (.agg LD) (λx hx=>HLL.out x hx)) hH ?_
   simp only [sA,sB,sC];refine wpAnyH_ready (rs:=[5,10]) (by kernel_rfl) (by simp) ?_
   refine AllReadyH.cons rfl (λK hK=>?_) ?_
   ·as_aux_lemma=>
     rw [if_pos (by rfl)]
     go_simp
     go_wp2_with (go_at_call 83; refine(HADD.out _ _ (G3.out.kept Kwd.out).mine).mono ?_; rintro e xa ⟨lv2,pv2,rfl,k5,SL2,m5⟩)
     obtain⟨la2,ln2,lc2,rfl⟩:=ownc_slice m5.lo;obtain⟨pa2,pn2,pc2,rfl⟩:=ownc_slice m5.po;have Kxa:=hid (Kwd.out.onto k5);have Mxa:=hid m5;refine hK.out _ _ Kxa.out (λhH=>?_)
     clear hK K k5 m5;refine tkE (i:=6) 18 rfl hH ?_
     apply Exists.intro;apply And.intro
     ·intro w9 _
      go_simp
      first | done | rfl
     simp only [sA,sB,sC];refine tkE (i:=7) 25 rfl hH ?_
     apply Exists.intro;apply And.intro
     ·intro w9 _
      go_simp
      first | done | rfl
     simp only [sA,sB,sC];refine tkE (i:=8) 26 rfl hH ?_
     apply Exists.intro;apply And.intro
     ·intro w9 _
      go_simp
      first | done | rfl
     simp only [sA,sB,sC];refine tkE (i:=9) 27 rfl hH ?_
     apply Exists.intro;apply And.intro
     ·intro w9 _
      go_simp
      first | done | rfl
     simp only [sA,sB,sC];refine wpAnyH_ready (rs:=[10]) (by kernel_rfl) (by simp) ?_
     refine AllReadyH.cons rfl (λK hK=>?_) AllReadyH.nil
     rw [if_pos (by rfl)]
     refine wp_alloc_known 25 rfl (some 7) rfl _ (alloc_tree xa) ?_
     simp only [Act.put,sA,sB,sC];have kal:=kA xa (.cells #[.slice none 0 0,.slice none 0 0] 25)
     have Kxb:=hid (Kxa.out.onto kal);have Txb:=hid (heap_new xa (.cells #[.slice none 0 0,.slice none 0 0] 25))
     have GTxb:=hid (Kxa.out.size);have Mxb:=hid (Mxa.out.box (.cells #[.slice none 0 0,.slice none 0 0] 25))
     generalize xa.alloc (.cells #[.slice none 0 0,.slice none 0 0] 25) = xb at Kxb Txb Mxb |-
     obtain⟨tb,htb⟩:∃ n,n = xa.heap.size:=⟨_,rfl⟩;rw [<- htb] at Txb GTxb Mxb
     (try rw [<- htb])
     have GTX:=hid GTxb.out;refine hK.out _ _ Kxb.out (λhH=>?_)
     clear hK K kal htb;refine wpAnyH_ready (rs:=[11]) (by kernel_rfl) (by simp) ?_
     refine AllReadyH.cons rfl (λK hK=>?_) AllReadyH.nil
     rw [if_pos (by rfl)]
     refine wp_store_row_none 25 _ _ rfl rfl tb #[.slice la2 ln2 lc2,.slice pa2 pn2 pc2] rfl rfl 25 #[.slice none 0 0,.slice none 0 0] Txb.out treeInfo rfl (tree_all _ _ _ _ _ _) ?_
     have R4:=hid (setRow_heap xb tb _ #[.slice la2 ln2 lc2,.slice pa2 pn2 pc2] _ _ Txb.out);have K4:=hid (kept_setRow10 Kxb.out tb GTxb.out #[.slice la2 ln2 lc2,.slice pa2 pn2 pc2]);have M4:=hid ((Mxb.out.aside (b:=tb) (.inr rfl) (grown_setRow xb tb #[.slice la2 ln2 lc2,.slice pa2 pn2 pc2])).mono (B':=λq=>q < w3.heap.size) (λq hq=>.inl (Nat.lt_of_lt_of_le hq Kwd.out.size)))
     generalize xb.setRow tb #[.slice la2 ln2 lc2,.slice pa2 pn2 pc2] = w4 at R4 K4 M4 |-;refine hK.out _ _ K4.out (λhH=>?_)
     clear hK K;refine tkE (i:=12) 8 rfl hH ?_
     apply Exists.intro;apply And.intro
     ·intro w9 _
      go_simp
      first | done | rfl
     simp only [sA,sB,sC];refine tkE (i:=13) 6 rfl hH ?_
     apply Exists.intro;apply And.intro
     ·intro w9 _
      go_simp
      first | done | rfl
     simp only [sA,sB,sC];refine wpAnyH_done (by kernel_rfl) ?_ _
     refine NoPanic.normal ?_;clear hH
     by_cases he0:er = 0
     ·subst he0
      have HAE:=hid (show Ap.aerr R s ((k:Int) + 1) = 0 by rw [Ap.aerr_yes HC0.out,<- HNM.out,<- HER.out])
      obtain⟨hth,hg7⟩:=G3.out.tree K4.out M4.out;have HTH:=hid hth;have G7:=hid hg7;clear hth hg7
      as_aux_lemma=>
       go_upto_region 7 with fail
       refine wp_region_lit ?_;refine wW λK hK=>?_;go_simp;apply hK;clear hK K;refine wLk 25 (.tmp 7) rfl (tb) (0) rfl (.agg #[.slice la2 ln2 lc2,.slice pa2 pn2 pc2]) (run_loadVar_row w4 tb 25 25 _ (0,0) _ R4.out Tryz.underlying25 rfl treeInfo) ?_
       simp only [Act.put,sA,sB,sC];iterate 2 (refine wW λK hK=>?_;go_simp;apply hK;clear hK K)
       refine @wpL_store_mid _ _ _ _ _ _ _ ?hw7s 25 _ _ rfl gb 0 #[.slice la2 ln2 lc2,.slice pa2 pn2 pc2] rfl rfl HTH.out treeInfo (tree_all _ _ _ _ _ _) ?_
       case hw7s=>kernel_rfl
       simp only [Act.put];generalize w4.setCells gb 0 [.slice la2 ln2 lc2,.slice pa2 pn2 pc2] = w7 at G7 |-;have HT7:=hid (λ(x:World) (kk:Kp w7 x)=>(by have h9:=grp_time (G7.out.kept kk).row HKT.out; rw [HTC.out] at h9; exact h9:x.cell? ⟨gb,2 + k,none⟩ = some (.int .i64 (c:Int))))
       go_upto_region 8 with fail
       have KD:Kp w7 w7.drew:=(Kept.refl _ _ _).drew;obtain⟨wd,hwd⟩:∃ wd,wd = w7.drew:=⟨_,rfl⟩;rw [<- hwd] at KD;obtain⟨hth8,hg8⟩:=(G7.out.kept KD).time k HK64.out ((c:Int) + 1);have HTH8:=hid hth8;have G8:=hid hg8;have KDD:=hid KD;clear hth8 hg8 KD;refine wp_region_noPanic ?_;refine wp_region_heldTo 11 (S:=λx=>Kp w7 x) (by kernel_rfl) (by rw [<- hwd]; exact KDD.out) (λhH=>?_)
       refine tkH (i:=0) 35 rfl hH ?_
       apply Exists.intro;apply And.intro
       ·intro w9 h9
        go_simp
        first | done | rfl
       simp only [sA,sB,sC];refine tkH (i:=1) 36 rfl hH ?_
       apply Exists.intro;apply And.intro
       ·intro w9 h9
        go_simp
        first | done | rfl
       simp only [sA,sB,sC];refine tkT (i:=2) 37 (.int .i64 (k:Int)) rfl (.inl ⟨by kernel_rfl,λw9 _=>by go_simp; first | exact HKW.out | rw [HKW.out]⟩) hH ?_
       simp only [sA,sB,sC];refine tkH (i:=3) 38 rfl hH ?_
       apply Exists.intro;apply And.intro
       ·intro w9 h9
        go_simp
        first | done | rfl
       simp only [sA,sB,sC];refine tkH (i:=4) 39 rfl hH ?_
       apply Exists.intro;apply And.intro
       ·intro w9 h9
        go_simp
        first | done | rfl
       simp only [sA,sB,sC];refine tkH (i:=5) 40 rfl hH ?_
       apply Exists.intro;apply And.intro
       ·intro w9 h9
        go_simp
        first | done | rfl
       simp only [sA,sB,sC];refine tkT (i:=6) 41 (.int .i64 (c:Int)) rfl (yieldsIf_load_known (by kernel_rfl) 3 _ rfl (gb) (2 + k) rfl (.int .i64 (c:Int)) (λx hx=>load_int10 (HT7.out x hx))) hH ?_
       simp only [sA,sB,sC];refine tkT (i:=7) 42 (.int .i64 ((c:Int) + 1)) rfl (.inl ⟨by kernel_rfl,λw9 _=>by go_simp; first | exact HCW.out | rw [HCW.out]⟩) hH ?_
       simp only [sA,sB,sC];refine heldTo_one (i:=8) (by kernel_rfl) rfl (λK hK=>?_)
       rw [if_pos (by rfl)]
       go_simp;have KS:=hH;refine hK.out _ _ KS (λhH=>?_)
       clear hK K KS;refine heldTo_one (i:=9) (by kernel_rfl) rfl (λK hK=>?_)
       rw [if_pos (by rfl)]
       go_simp;have KS:=hH;refine hK.out _ _ KS (λhH=>?_)
       clear hK K KS;refine tkH (i:=10) 45 rfl hH ?_
       apply Exists.intro;apply And.intro
       ·intro w9 h9
        go_simp
        first | done | rfl
       simp only [sA,sB,sC];refine heldTo_last (by kernel_rfl) rfl (λK hK=>?_)
       rw [if_pos (by rfl)]
       rw [<- hwd];refine wp_store_cellA 3 _ _ rfl rfl gb (2 + k) (.int .i64 ((c:Int) + 1)) rfl rfl HTH8.out rfl (by kernel_rfl) ?_
       refine hK.out _ _ ?_;clear hK K;refine heldTo_done (by kernel_rfl) ?_ _
       refine NoPanic.normal ?_;clear hH;generalize wd.setCell ⟨gb,2 + k,none⟩ (.int .i64 ((c:Int) + 1)) = w8 at G8 |-;clear KDD hwd;obtain⟨ad9,n9,c9,w9,hr9,hth9,hg9⟩:=G8.out.more at9 HFR.out;have HTH9:=hid hth9;have G9:=hid hg9;have HR9:=hid hr9;have hf8:=grp_fresh G8.out.row G8.out.ts;clear hth9 hg9 hr9
       go_upto_region 9 with fail
       refine wp_region_lit ?_;iterate 4 (refine wW λK hK=>?_;go_simp;apply hK;clear hK K)
       refine wLk 38 (.tmp 49) rfl (gb) (67) rfl (.slice fad fn fc) (load_slA hf8 (.inr (.inr rfl))) ?_
       simp only [Act.put,sA,sB,sC];refine wW λK hK=>?_;go_simp;apply hK;clear hK K;refine @wpL_build_known _ _ _ _ _ _ _ _ ?_ 38 (.tmp 51) rfl (.int .i64 at9) _ rfl (build_int1 w8 at9) ?_;kernel_rfl
       simp only [Act.put,sA,sB,sC];refine wpList_append_known rfl (.tmp 50) (.tmp 52) 38 38 38 rfl rfl (.slice fad fn fc) (.slice (some ⟨w8.heap.size,0,none⟩) 1 1) rfl rfl HR9.out ?_
       simp only [Act.put,sA,sB,sC];iterate 2 (refine wW λK hK=>?_;go_simp;apply hK;clear hK K)
       refine @wpL_store_cellA _ _ _ _ _ _ _ ?_ 38 _ _ rfl gb 67 (.slice ad9 n9 c9) rfl rfl HTH9.out rfl (by kernel_rfl) ?_;kernel_rfl
       simp only [Act.put];generalize w9.setCell ⟨gb,67,none⟩ (.slice ad9 n9 c9) = wz at G9 |-;clear hf8
       go_upto_region 10 with fail
       refine wp_region_lit ?_;refine wW λK hK=>?_;go_simp;apply hK;clear hK K;go_wp2;go_ret;refine⟨by rw [HAE.out]; rfl,G9.out.kp,λ_=>?_⟩
       have hE:Ap.anext R s ((k:Int) + 1) = ⟨Tt.putL s.L l,Tt.putP s.L s.P l.name,s.ts.set k ((c:Int) + 1),s.fr ++ [at9]⟩:=by
        unfold Ap.anext;rw [HBU.out,<- HL.out,HAT.out,HNM.out]
       rw [hE];exact⟨_,_,_,_,G9.out⟩
     ·have heb:(er != 0) = true:=by simp [he0]
      have HAE:=hid (show Ap.aerr R s ((k:Int) + 1) = er by rw [Ap.aerr_yes HC0.out,<- HNM.out,<- HER.out])
      have HG:=hid (G3.out.kept K4.out).kp;have HE0:=hid he0;clear he0
      as_aux_lemma=>
       go_upto_region 6 with fail
       refine wp_region_lit ?_;iterate 2 (refine wW λK hK=>?_;go_simp;apply hK;clear hK K)
       go_wp2;go_ret;exact⟨by rw [HAE.out]; rfl,HG.out,λh0=>absurd (HAE.out.symm.trans h0) HE0.out⟩
   refine AllReadyH.cons rfl (λK hK=>?_) AllReadyH.nil
   as_aux_lemma=>
    rw [if_pos (by rfl)]
    refine wp_alloc_known 25 rfl (some 7) rfl _ (alloc_tree wd) ?_
    simp only [Act.put,sA,sB,sC];have kal:=kA wd (.cells #[.slice none 0 0,.slice none 0 0] 25)
    have Kxa:=hid (Kwd.out.onto kal);have Txa:=hid (heap_new wd (.cells #[.slice none 0 0,.slice none 0 0] 25))
    have GTxa:=hid (Kwd.out.size);generalize wd.alloc (.cells #[.slice none 0 0,.slice none 0 0] 25) = xa at Kxa Txa kal |-
    obtain⟨tb,htb⟩:∃ n,n = wd.heap.size:=⟨_,rfl⟩;rw [<- htb] at Txa GTxa
    (try rw [<- htb])
    refine hK.out _ _ Kxa.out (λhH=>?_)
    clear hK K kal htb;refine wpAnyH_ready (rs:=[5]) (by kernel_rfl) (by simp) ?_
    refine AllReadyH.cons rfl (λK hK=>?_) AllReadyH.nil
    rw [if_pos (by rfl)]
    go_simp
    go_wp2_with (go_at_call 83; refine(HADD.out _ _ (G3.out.kept Kxa.out).mine).mono ?_; rintro e xb ⟨lv2,pv2,rfl,k5,SL2,m5⟩)
    obtain⟨la2,ln2,lc2,rfl⟩:=ownc_slice m5.lo;obtain⟨pa2,pn2,pc2,rfl⟩:=ownc_slice m5.po;have Kxb:=hid (Kxa.out.onto k5);have Mxb:=hid m5;have Txb:=hid (row_kept Txa.out k5);have GTxb:=GTxa;refine hK.out _ _ Kxb.out (λhH=>?_)
    clear hK K k5 m5;refine tkE (i:=6) 18 rfl hH ?_
    apply Exists.intro;apply And.intro
    ·intro w9 _
     go_simp
     first | done | rfl
    simp only [sA,sB,sC];refine tkE (i:=7) 25 rfl hH ?_
    apply Exists.intro;apply And.intro
    ·intro w9 _
     go_simp
     first | done | rfl
    simp only [sA,sB,sC];refine tkE (i:=8) 26 rfl hH ?_
    apply Exists.intro;apply And.intro
    ·intro w9 _
     go_simp
     first | done | rfl
    simp only [sA,sB,sC];refine tkE (i:=9) 27 rfl hH ?_
    apply Exists.intro;apply And.intro
    ·intro w9 _
     go_simp
     first | done | rfl
    simp only [sA,sB,sC];refine wpAnyH_ready (rs:=[11]) (by kernel_rfl) (by simp) ?_
    refine AllReadyH.cons rfl (λK hK=>?_) AllReadyH.nil
    rw [if_pos (by rfl)]
    refine wp_store_row_none 25 _ _ rfl rfl tb #[.slice la2 ln2 lc2,.slice pa2 pn2 pc2] rfl rfl 25 #[.slice none 0 0,.slice none 0 0] Txb.out treeInfo rfl (tree_all _ _ _ _ _ _) ?_
    have R4:=hid (setRow_heap xb tb _ #[.slice la2 ln2 lc2,.slice pa2 pn2 pc2] _ _ Txb.out);have K4:=hid (kept_setRow10 Kxb.out tb GTxb.out #[.slice la2 ln2 lc2,.slice pa2 pn2 pc2]);have M4:=hid ((Mxb.out.aside (b:=tb) (lt_of_block Txa.out) (grown_setRow xb tb #[.slice la2 ln2 lc2,.slice pa2 pn2 pc2])).mono (B':=λq=>q < w3.heap.size) (λq hq=>Nat.lt_of_lt_of_le hq Kxa.out.size))
    generalize xb.setRow tb #[.slice la2 ln2 lc2,.slice pa2 pn2 pc2] = w4 at R4 K4 M4 |-;refine hK.out _ _ K4.out (λhH=>?_)
    clear hK K;refine tkE (i:=12) 8 rfl hH ?_
    apply Exists.intro;apply And.intro
    ·intro w9 _
     go_simp
     first | done | rfl
    simp only [sA,sB,sC];refine tkE (i:=13) 6 rfl hH ?_
    apply Exists.intro;apply And.intro
    ·intro w9 _
     go_simp
     first | done | rfl
    simp only [sA,sB,sC];refine wpAnyH_done (by kernel_rfl) ?_ _
    refine NoPanic.normal ?_;clear hH
    by_cases he0:er = 0
    ·subst he0
     have HAE:=hid (show Ap.aerr R s ((k:Int) + 1) = 0 by rw [Ap.aerr_yes HC0.out,<- HNM.out,<- HER.out])
     obtain⟨hth,hg7⟩:=G3.out.tree K4.out M4.out;have HTH:=hid hth;have G7:=hid hg7;clear hth hg7
     as_aux_lemma=>
      go_upto_region 7 with fail
      refine wp_region_lit ?_;refine wW λK hK=>?_;go_simp;apply hK;clear hK K;refine wLk 25 (.tmp 7) rfl (tb) (0) rfl (.agg #[.slice la2 ln2 lc2,.slice pa2 pn2 pc2]) (run_loadVar_row w4 tb 25 25 _ (0,0) _ R4.out Tryz.underlying25 rfl treeInfo) ?_
      simp only [Act.put,sA,sB,sC];iterate 2 (refine wW λK hK=>?_;go_simp;apply hK;clear hK K)
      refine @wpL_store_mid _ _ _ _ _ _ _ ?hw7s 25 _ _ rfl gb 0 #[.slice la2 ln2 lc2,.slice pa2 pn2 pc2] rfl rfl HTH.out treeInfo (tree_all _ _ _ _ _ _) ?_
      case hw7s=>kernel_rfl
      simp only [Act.put];generalize w4.setCells gb 0 [.slice la2 ln2 lc2,.slice pa2 pn2 pc2] = w7 at G7 |-;have HT7:=hid (λ(x:World) (kk:Kp w7 x)=>(by have h9:=grp_time (G7.out.kept kk).row HKT.out; rw [HTC.out] at h9; exact h9:x.cell? ⟨gb,2 + k,none⟩ = some (.int .i64 (c:Int))))
      go_upto_region 8 with fail
      have KD:Kp w7 w7.drew:=(Kept.refl _ _ _).drew;obtain⟨wd,hwd⟩:∃ wd,wd = w7.drew:=⟨_,rfl⟩;rw [<- hwd] at KD;obtain⟨hth8,hg8⟩:=(G7.out.kept KD).time k HK64.out ((c:Int) + 1);have HTH8:=hid hth8;have G8:=hid hg8;have KDD:=hid KD;clear hth8 hg8 KD;refine wp_region_noPanic ?_;refine wp_region_heldTo 11 (S:=λx=>Kp w7 x) (by kernel_rfl) (by rw [<- hwd]; exact KDD.out) (λhH=>?_)
      refine tkH (i:=0) 35 rfl hH ?_
      apply Exists.intro;apply And.intro
      ·intro w9 h9
       go_simp
       first | done | rfl
      simp only [sA,sB,sC];refine tkH (i:=1) 36 rfl hH ?_
      apply Exists.intro;apply And.intro
      ·intro w9 h9
       go_simp
       first | done | rfl
      simp only [sA,sB,sC];refine tkT (i:=2) 37 (.int .i64 (k:Int)) rfl (.inl ⟨by kernel_rfl,λw9 _=>by go_simp; first | exact HKW.out | rw [HKW.out]⟩) hH ?_
      simp only [sA,sB,sC];refine tkH (i:=3) 38 rfl hH ?_
      apply Exists.intro;apply And.intro
      ·intro w9 h9
       go_simp
       first | done | rfl
      simp only [sA,sB,sC];refine tkH (i:=4) 39 rfl hH ?_
      apply Exists.intro;apply And.intro
      ·intro w9 h9
       go_simp
       first | done | rfl
      simp only [sA,sB,sC];refine tkH (i:=5) 40 rfl hH ?_
      apply Exists.intro;apply And.intro
      ·intro w9 h9
       go_simp
       first | done | rfl
      simp only [sA,sB,sC];refine tkT (i:=6) 41 (.int .i64 (c:Int)) rfl (yieldsIf_load_known (by kernel_rfl) 3 _ rfl (gb) (2 + k) rfl (.int .i64 (c:Int)) (λx hx=>load_int10 (HT7.out x hx))) hH ?_
      simp only [sA,sB,sC];refine tkT (i:=7) 42 (.int .i64 ((c:Int) + 1)) rfl (.inl ⟨by kernel_rfl,λw9 _=>by go_simp; first | exact HCW.out | rw [HCW.out]⟩) hH ?_
      simp only [sA,sB,sC];refine heldTo_one (i:=8) (by kernel_rfl) rfl (λK hK=>?_)
      rw [if_pos (by rfl)]
      go_simp;have KS:=hH;refine hK.out _ _ KS (λhH=>?_)
      clear hK K KS;refine heldTo_one (i:=9) (by kernel_rfl) rfl (λK hK=>?_)
      rw [if_pos (by rfl)]
      go_simp;have KS:=hH;refine hK.out _ _ KS (λhH=>?_)
      clear hK K KS;refine tkH (i:=10) 45 rfl hH ?_
      apply Exists.intro;apply And.intro
      ·intro w9 h9
       go_simp
       first | done | rfl
      simp only [sA,sB,sC];refine heldTo_last (by kernel_rfl) rfl (λK hK=>?_)
      rw [if_pos (by rfl)]
      rw [<- hwd];refine wp_store_cellA 3 _ _ rfl rfl gb (2 + k) (.int .i64 ((c:Int) + 1)) rfl rfl HTH8.out rfl (by kernel_rfl) ?_
      refine hK.out _ _ ?_;clear hK K;refine heldTo_done (by kernel_rfl) ?_ _
      refine NoPanic.normal ?_;clear hH;generalize wd.setCell ⟨gb,2 + k,none⟩ (.int .i64 ((c:Int) + 1)) = w8 at G8 |-;clear KDD hwd;obtain⟨ad9,n9,c9,w9,hr9,hth9,hg9⟩:=G8.out.more at9 HFR.out;have HTH9:=hid hth9;have G9:=hid hg9;have HR9:=hid hr9;have hf8:=grp_fresh G8.out.row G8.out.ts;clear hth9 hg9 hr9
      go_upto_region 9 with fail
      refine wp_region_lit ?_;iterate 4 (refine wW λK hK=>?_;go_simp;apply hK;clear hK K)
      refine wLk 38 (.tmp 49) rfl (gb) (67) rfl (.slice fad fn fc) (load_slA hf8 (.inr (.inr rfl))) ?_
      simp only [Act.put,sA,sB,sC];refine wW λK hK=>?_;go_simp;apply hK;clear hK K;refine @wpL_build_known _ _ _ _ _ _ _ _ ?_ 38 (.tmp 51) rfl (.int .i64 at9) _ rfl (build_int1 w8 at9) ?_;kernel_rfl
      simp only [Act.put,sA,sB,sC];refine wpList_append_known rfl (.tmp 50) (.tmp 52) 38 38 38 rfl rfl (.slice fad fn fc) (.slice (some ⟨w8.heap.size,0,none⟩) 1 1) rfl rfl HR9.out ?_
      simp only [Act.put,sA,sB,sC];iterate 2 (refine wW λK hK=>?_;go_simp;apply hK;clear hK K)
      refine @wpL_store_cellA _ _ _ _ _ _ _ ?_ 38 _ _ rfl gb 67 (.slice ad9 n9 c9) rfl rfl HTH9.out rfl (by kernel_rfl) ?_;kernel_rfl
      simp only [Act.put];generalize w9.setCell ⟨gb,67,none⟩ (.slice ad9 n9 c9) = wz at G9 |-;clear hf8
      go_upto_region 10 with fail
      refine wp_region_lit ?_;refine wW λK hK=>?_;go_simp;apply hK;clear hK K;go_wp2;go_ret;refine⟨by rw [HAE.out]; rfl,G9.out.kp,λ_=>?_⟩
      have hE:Ap.anext R s ((k:Int) + 1) = ⟨Tt.putL s.L l,Tt.putP s.L s.P l.name,s.ts.set k ((c:Int) + 1),s.fr ++ [at9]⟩:=by
       unfold Ap.anext;rw [HBU.out,<- HL.out,HAT.out,HNM.out]
      rw [hE];exact⟨_,_,_,_,G9.out⟩
    ·have heb:(er != 0) = true:=by simp [he0]
     have HAE:=hid (show Ap.aerr R s ((k:Int) + 1) = er by rw [Ap.aerr_yes HC0.out,<- HNM.out,<- HER.out])
     have HG:=hid (G3.out.kept K4.out).kp;have HE0:=hid he0;clear he0
     as_aux_lemma=>
      go_upto_region 6 with fail
      refine wp_region_lit ?_;iterate 2 (refine wW λK hK=>?_;go_simp;apply hK;clear hK K)
      go_wp2;go_ret;exact⟨by rw [HAE.out]; rfl,HG.out,λh0=>absurd (HAE.out.symm.trans h0) HE0.out⟩
 ·have hcb:(ce != 0) = true:=by simp [hc0]
  have HC0:=hid (show Ap.cardErr R s.ts n≠0 from by rw [<- HCE.out]; exact hc0)
  have HG:=hid G3.out.kp;clear hc0
  as_aux_lemma=>
   go_upto_region 3 with fail
   refine wp_region_lit ?_;iterate 2 (refine wW λK hK=>?_;go_simp;apply hK;clear hK K)
   go_wp2;go_ret;exact⟨by rw [Ap.aerr_no HC0.out,<- HCE.out]; rfl,HG.out,λh0=>absurd (by rw [<- Ap.aerr_no HC0.out]; exact h0) HC0.out⟩
theorem wp_load_runA {P:Program}{o:Oper}{a:Act}{w:World}{Q:Exit->Act->World->Prop}{K:Act->World->Prop}(ty:TypeId)(x:Operand)(ho:o.op = .load ty x)(d:Option Tmp)(hd:o.dst = d)(g off:Nat)(hx:a.eval x = .pointer (some ⟨g,off,none⟩))(v:Value)(hr:(loadVar ty ⟨g,off,none⟩).run P w = .ok v w)(hk:K (a.put d v) w):o.wp P a w K Q:=by
 subst hd;unfold Oper.wp execOp;simp only [ho,hx,Instr.loadAt,Instr.sureAddr,Sem.run_bind,Sem.run_pure,Result.andThen_ok,hr];exact hk
theorem do_calls10 (w0:World)(gb:Nat)(rv lv pv fv:Value)(SL:List Value)(s:Gp)(R:List Pn)(c:Cg)(hok:c.Ok)(w:World)(h:Gm w0 w gb rv lv pv fv SL s)(hR:Pns w0 rv R)(hrn:R.length<=1000)(hrc:∀ p∈R,p.cards.length<=1000)(hright:Tt.right s.L s.P = true)(hfr:s.fr.length<=1000):
  Calls Tryz.prog 27 #[.pointer (some ⟨gb,0,none⟩),.agg c.chg.toArray] w λe w'=>e = .returned (.int .i64 (Ap.err R s c))/\Kp w0 w'/\Gd w0 w' gb rv R s c:=by
 obtain⟨lad,ln,lc,rfl⟩:=ownc_slice h.mine.lo;obtain⟨pad,pn,pc,rfl⟩:=ownc_slice h.mine.po;obtain⟨h64,hpe,_⟩:=Tt.right_parts hright;have hn1:s.L.length<=1000:=by omega
 have hp1:s.P.length<=1000:=by omega
 have HPLA:=hid (λ(B:Nat->Prop) (u:World) (m:Mine B u (.slice lad ln lc) (.slice pad pn pc) s.L s.P SL)=>place_calls8 (.slice lad ln lc) (.slice pad pn pc) s.L s.P c.name u m.lvs m.pts hn1 hp1 (right_looseA hright))
 obtain⟨pl,hpl⟩:∃ pl,pl = Tt.place s.L s.P c.name:=⟨_,rfl⟩;rw [<- hpl] at HPLA;have HREN:=hid (λ(B:Nat->Prop) (u:World) (m:Mine B u (.slice lad ln lc) (.slice pad pn pc) s.L s.P SL)=>renew_any (.slice lad ln lc) (.slice pad pn pc) s.L s.P pl u m.lvs m.pts (right_looseA hright) hright c.pub hok.2.1)
 have HREM:=hid (λ(B:Nat->Prop) (u:World) (m:Mine B u (.slice lad ln lc) (.slice pad pn pc) s.L s.P SL)=>remove_any (.slice lad ln lc) (.slice pad pn pc) s.L s.P pl u m.lvs m.pts (right_looseA hright) hright)
 obtain⟨er,her⟩:∃ er,er = Tt.noneErr s.L pl:=⟨_,rfl⟩;rw [<- her] at HREN HREM;have HADD:=hid (λ(u:World) (g:Gm w0 u gb rv (.slice lad ln lc) (.slice pad pn pc) fv SL s)=>add_calls10 w0 gb rv _ _ fv SL s R c.name u g hR hrn hrc hright hfr)
 have HPL:=hid hpl;have HER:=hid her;have H:=hid h;obtain⟨CD,hCD⟩:∃ D,D = c.chg.toArray:=⟨_,rfl⟩;have HCS:=hid (show CD.size = 34 by rw [hCD]; exact Cg.csize hok)
 obtain⟨PD,hPD⟩:∃ D,D = (bcells c.pub).toArray:=⟨_,rfl⟩;rw [<- hPD] at HREN;obtain⟨kd,hkd⟩:∃ q,q = c.kind:=⟨_,rfl⟩;obtain⟨nm,hnm⟩:∃ q,q = c.name:=⟨_,rfl⟩;rw [<- hnm] at HPLA HADD;have HKD:=hid hkd;have HNM:=hid hnm;have k1:Kept w.heap.size w.heap.size w (w.alloc (.cells CD 44)):=(Kept.refl _ _ _).alloc (Nat.le_refl _) _
 have r1:=heap_new w (.cells CD 44)
 have cr:(w.alloc (.cells CD 44)).rangeAt w.heap.size 0 c.chg:=row_range0 (by rw [<- hCD]; exact r1)
 have HRK:=hid (λ(x:World) (kk:Kept (w.alloc (.cells CD 44)).heap.size (w.alloc (.cells CD 44)).heap.size (w.alloc (.cells CD 44)) x)=>range_kept10 cr (lt_of_block r1) kk)
 rw [<- hCD];have HGK:=hid (h.kept k1);have HCB:=hid (show gb≠w.heap.size by have:=h.lt; omega)
 have HOK:=hid hok;clear h hR hrn hrc hright hfr hpl her hCD hkd hnm h64 hpe hn1 hp1 cr
 go_enter Tryz.func27,Tryz.ntmps27
 go_upto_region 1 with fail
 generalize w.alloc (.cells CD 44) = w1 at k1 r1 HRK HGK |-
 obtain⟨cb,hcb⟩:∃ n,n = w.heap.size:=⟨_,rfl⟩;rw [<- hcb] at r1 HRK HCB
 (try rw [<- hcb])
 have HKX:=hid (λ(x:World) (kk:Kp w1 x)=>(by have h9:=chg_kind (HRK.out x kk); rw [<- HKD.out] at h9; exact h9:x.cell? ⟨cb,0,none⟩ = some (.int .i64 kd)))
 have HNX:=hid (λ(x:World) (kk:Kp w1 x)=>(by have h9:=chg_name (HRK.out x kk); rw [<- HNM.out] at h9; exact h9:x.cell? ⟨cb,1,none⟩ = some (.int .i64 nm)))
 have HPX:=hid (λ(x:World) (kk:Kp w1 x)=>(by have h9:=chg_pub (HRK.out x kk); rw [Nat.zero_add] at h9; rw [hPD]; exact load_hash h9 HOK.out.2.1:(loadVar 30 ⟨cb,2,none⟩).run Tryz.prog x = .ok (.agg PD) x))
 have HCL:=hid (lt_of_block r1);have HPE:=hid (show(bcells c.pub).toArray = PD from hPD.symm);have HLT:=hid (λ(x:World) (kk:Kp w1 x)=>load_tree10 (grp_tree (HGK.out.kept kk).row))
 clear hcb k1 r1 hPD;refine wp_region_noPanic ?_;refine wp_region_held_drew (S:=λx=>Kp w1 x) (by kernel_rfl) ((Kept.refl _ _ _).drew) (λhH=>?_)
 refine tkE (i:=0) 6 rfl hH ?_
 apply Exists.intro;apply And.intro
 ·intro w9 _
  go_simp
  first | done | rfl
 simp only [sA,sB,sC];refine tkE (i:=1) 7 rfl hH ?_
 apply Exists.intro;apply And.intro
 ·intro w9 _
  go_simp
  first | done | rfl
 simp only [sA,sB,sC];refine tkE (i:=2) 8 rfl hH ?_
 apply Exists.intro;apply And.intro
 ·intro w9 _
  go_simp
  first | done | rfl
 simp only [sA,sB,sC];refine tkA (i:=3) 9 (.agg #[.slice lad ln lc,.slice pad pn pc]) rfl (yieldsIf_load_known (by kernel_rfl) 25 _ rfl (gb) (0) rfl (.agg #[.slice lad ln lc,.slice pad pn pc]) (λx hx=>HLT.out x hx)) hH ?_
 simp only [sA,sB,sC];refine tkE (i:=4) 10 rfl hH ?_
 apply Exists.intro;apply And.intro
 ·intro w9 _
  go_simp
  first | done | rfl
 simp only [sA,sB,sC];refine tkA (i:=5) 11 (.int .i64 nm) rfl (yieldsIf_load_known (by kernel_rfl) 3 _ rfl (cb) (1) rfl (.int .i64 nm) (λx hx=>load_int10 (HNX.out x hx))) hH ?_
 simp only [sA,sB,sC];have KD:=hid hH;refine wpAnyH_ready (rs:=[6]) (by kernel_rfl) (by simp) ?_
 refine AllReadyH.cons rfl (λK hK=>?_) AllReadyH.nil
 rw [if_pos (by rfl)]
 go_simp
 go_wp2_with (go_at_call 12; refine(HPLA.out _ _ (HGK.out.kept KD.out).mine).mono ?_; rintro e w2 ⟨rfl,k2⟩)
 have K2:=hid (KD.out.onto k2);refine hK.out _ _ K2.out (λhH=>?_)
 clear hK K k2;refine tkE (i:=7) 5 rfl hH ?_
 apply Exists.intro;apply And.intro
 ·intro w9 _
  go_simp
  first | done | rfl
 simp only [sA,sB,sC];refine wpAnyH_done (by kernel_rfl) ?_ _
 refine NoPanic.normal ?_;clear hH KD;have G2:=hid (HGK.out.kept K2.out)
 go_upto_region 2 with fail
 refine wp_region_lit ?_;refine wW λK hK=>?_;go_simp;apply hK;clear hK K;refine wLk 3 (.tmp 13) rfl (cb) (0) rfl (.int .i64 kd) (load_int10 (HKX.out _ K2.out)) ?_
 simp only [Act.put,sA,sB,sC]
 by_cases hk1:kd = 1
 ·subst hk1
  have HK1:=hid (show c.kind = 1 from HKD.out.symm)
  as_aux_lemma=>
   go_upto_region 4 with fail
   refine wp_region_lit ?_;iterate 2 (refine wW λK hK=>?_;go_simp;apply hK;clear hK K)
   go_upto_region 5 with fail
   refine wp_region_lit ?_;iterate 2 (refine wW λK hK=>?_;go_simp;apply hK;clear hK K)
   refine wLk 3 (.tmp 18) rfl (cb) (1) rfl (.int .i64 nm) (load_int10 (HNX.out _ K2.out)) ?_
   simp only [Act.put,sA,sB,sC];refine wW λK hK=>?_;go_simp;go_at_call 55
   refine(HADD.out _ G2.out).mono ?_;rintro e w3 ⟨rfl,k3,g3⟩;have G3:=hid g3;have K3:=hid k3;clear g3 k3;apply hK;clear hK K;refine wW λK hK=>?_;go_simp;apply hK;clear hK K;go_wp2;go_ret;refine⟨by rw [Ap.err_add HK1.out,<- HNM.out]; rfl,K3.out,λh0=>?_⟩
   rw [Ap.err_add HK1.out,<- HNM.out] at h0;rw [Ap.next_add HK1.out,<- HNM.out];exact G3.out h0
 ·have hb1:(kd == 1) = false:=by simpa using hk1
  by_cases hk2:kd = 2
  ·subst hk2
   have HK2:=hid (show c.kind = 2 from HKD.out.symm);have HE:=hid (show Ap.err R s c = er by rw [Ap.err_set (.inl HK2.out),<- HPL.out,<- HER.out])
   clear hk1
   as_aux_lemma=>
    go_upto_region 4 with fail
    refine wp_region_lit ?_;iterate 2 (refine wW λK hK=>?_;go_simp;apply hK;clear hK K)
    go_upto_region 6 with fail
    refine wp_region_lit ?_;iterate 2 (refine wW λK hK=>?_;go_simp;apply hK;clear hK K)
    go_upto_region 7 with fail
    have RD:w2.drew.heap[gb]? = _:=row_kept G2.out.row (Kept.refl _ _ _).drew;have KD2:Kp w2 w2.drew:=(Kept.refl _ _ _).drew;have GD:=hid (G2.out.kept KD2);have HPB:=hid (λ(x:World) (kk:Kept w2.heap.size gb w2 x)=>load_hash (rangeAt_keptA kk (by have h9:=chg_pub (HRK.out _ K2.out); rw [Nat.zero_add] at h9; exact h9) (Nat.lt_of_lt_of_le HCL.out K2.out.size) HCB.out.symm) HOK.out.2.1)
    rw [HPE.out] at HPB;refine wp_region_noPanic ?_;refine wp_region_held_drew (S:=λx=>Kept w2.heap.size gb w2 x) (by kernel_rfl) ((Kept.refl _ _ _).drew) (λhH=>?_)
    obtain⟨wd,hwd⟩:∃ wd,wd = w2.drew:=⟨_,rfl⟩;rw [<- hwd] at hH RD KD2 GD |-;have KDD:=hid KD2;have KDG:=hid hH;clear hwd RD KD2;refine tkE (i:=0) 24 rfl hH ?_
    apply Exists.intro;apply And.intro
    ·intro w9 _
     go_simp
     first | done | rfl
    simp only [sA,sB,sC];refine tkE (i:=1) 25 rfl hH ?_
    apply Exists.intro;apply And.intro
    ·intro w9 _
     go_simp
     first | done | rfl
    simp only [sA,sB,sC];refine tkE (i:=2) 26 rfl hH ?_
    apply Exists.intro;apply And.intro
    ·intro w9 _
     go_simp
     first | done | rfl
    simp only [sA,sB,sC];refine tkE (i:=3) 27 rfl hH ?_
    apply Exists.intro;apply And.intro
    ·intro w9 _
     go_simp
     first | done | rfl
    simp only [sA,sB,sC];refine tkE (i:=5) 29 rfl hH ?_
    apply Exists.intro;apply And.intro
    ·intro w9 _
     go_simp
     first | done | rfl
    simp only [sA,sB,sC];refine tkE (i:=6) 30 rfl hH ?_
    apply Exists.intro;apply And.intro
    ·intro w9 _
     go_simp
     first | done | rfl
    simp only [sA,sB,sC];refine tkA (i:=7) 31 (.agg PD) rfl (yieldsIf_load_known (by kernel_rfl) 30 _ rfl (cb) (2) rfl (.agg PD) (λx hx=>HPB.out x hx)) hH ?_
    simp only [sA,sB,sC];refine wpAnyH_ready (rs:=[4]) (by kernel_rfl) (by simp) ?_
    refine AllReadyH.cons rfl (λK hK=>?_) AllReadyH.nil
    rw [if_pos (by rfl)]
    refine wp_load_runA 25 _ rfl (some 28) rfl gb 0 rfl (.agg #[.slice lad ln lc,.slice pad pn pc]) (load_tree10 (grp_tree GD.out.row)) ?_
    simp only [Act.put,sA,sB,sC];refine hK.out _ _ KDG.out (λhH=>?_)
    clear hK K;refine wpAnyH_ready (rs:=[8]) (by kernel_rfl) (by simp) ?_
    refine AllReadyH.cons rfl (λK hK=>?_) AllReadyH.nil
    rw [if_pos (by rfl)]
    go_simp
    go_wp2_with (go_at_call 56; refine(HREN.out _ _ GD.out.mine).mono ?_; rintro e w3 ⟨lv2,pv2,rfl,k3,SL2,m3⟩)
    obtain⟨la2,ln2,lc2,rfl⟩:=ownc_slice m3.lo;obtain⟨pa2,pn2,pc2,rfl⟩:=ownc_slice m3.po;have KS:Hid (Kept w2.heap.size gb w2 w3):=hid (KDG.out.trans (k3.mono KDG.out.size (λi hi _=>Nat.ne_of_lt (Nat.lt_of_lt_of_le hi KDG.out.size))))
    obtain⟨hth,hg9⟩:=GD.out.tree k3 m3;have HTH:=hid hth;have G9:=hid hg9;refine hK.out _ _ KS.out (λhH=>?_)
    clear hK K hth hg9 k3 m3;refine tkE (i:=9) 23 rfl hH ?_
    apply Exists.intro;apply And.intro
    ·intro w9 _
     go_simp
     first | done | rfl
    simp only [sA,sB,sC];refine tkE (i:=10) 33 rfl hH ?_
    apply Exists.intro;apply And.intro
    ·intro w9 _
     go_simp
     first | done | rfl
    simp only [sA,sB,sC];refine tkE (i:=11) 34 rfl hH ?_
    apply Exists.intro;apply And.intro
    ·intro w9 _
     go_simp
     first | done | rfl
    simp only [sA,sB,sC];refine tkE (i:=12) 35 rfl hH ?_
    apply Exists.intro;apply And.intro
    ·intro w9 _
     go_simp
     first | done | rfl
    simp only [sA,sB,sC];refine tkE (i:=13) 36 rfl hH ?_
    apply Exists.intro;apply And.intro
    ·intro w9 _
     go_simp
     first | done | rfl
    simp only [sA,sB,sC];refine wpAnyH_ready (rs:=[14]) (by kernel_rfl) (by simp) ?_
    refine AllReadyH.cons rfl (λK hK=>?_) AllReadyH.nil
    rw [if_pos (by rfl)]
    refine wp_store_mid_none11 25 _ _ rfl rfl gb 0 #[.slice la2 ln2 lc2,.slice pa2 pn2 pc2] rfl rfl HTH.out treeInfo (tree_all _ _ _ _ _ _) ?_
    have KS9:Hid (Kept w2.heap.size gb w2 (w3.setCells gb 0 [.slice la2 ln2 lc2,.slice pa2 pn2 pc2])):=hid (KS.out.trans ⟨(grown_setCellsA gb [.slice la2 ln2 lc2,.slice pa2 pn2 pc2] 0 w3).os,(grown_setCellsA gb [.slice la2 ln2 lc2,.slice pa2 pn2 pc2] 0 w3).tape,(grown_setCellsA gb [.slice la2 ln2 lc2,.slice pa2 pn2 pc2] 0 w3).output,(grown_setCellsA gb [.slice la2 ln2 lc2,.slice pa2 pn2 pc2] 0 w3).size,λi hi hne=>(grown_setCellsA gb [.slice la2 ln2 lc2,.slice pa2 pn2 pc2] 0 w3).block i (Nat.lt_of_lt_of_le hi KS.out.size) (λe=>hne (Option.some.inj e))⟩)
    refine hK.out _ _ KS9.out (λhH=>?_)
    clear hK K;have G9:=G9;generalize w3.setCells gb 0 [.slice la2 ln2 lc2,.slice pa2 pn2 pc2] = w9 at G9 KS9 hH |-;refine tkE (i:=15) 4 rfl hH ?_
    apply Exists.intro;apply And.intro
    ·intro w9 _
     go_simp
     first | done | rfl
    simp only [sA,sB,sC];refine wpAnyH_done (by kernel_rfl) ?_ _
    refine NoPanic.normal ?_;clear hH
    go_upto_region 10 with fail
    refine wp_region_lit ?_;iterate 2 (refine wW λK hK=>?_;go_simp;apply hK;clear hK K)
    go_wp2;go_ret;refine⟨by rw [HE.out]; rfl,G9.out.kp,λ_=>?_⟩
    rw [Ap.next_ren HK2.out,<- HPL.out];exact⟨_,_,_,_,G9.out⟩
  ·have hb2:(kd == 2) = false:=by simpa using hk2
   by_cases hk3:kd = 3
   ·subst hk3
    have HK3:=hid (show c.kind = 3 from HKD.out.symm);have HE:=hid (show Ap.err R s c = er by rw [Ap.err_set (.inr HK3.out),<- HPL.out,<- HER.out])
    clear hk1 hk2
    as_aux_lemma=>
     go_upto_region 4 with fail
     refine wp_region_lit ?_;iterate 2 (refine wW λK hK=>?_;go_simp;apply hK;clear hK K)
     go_upto_region 6 with fail
     refine wp_region_lit ?_;iterate 2 (refine wW λK hK=>?_;go_simp;apply hK;clear hK K)
     go_upto_region 8 with fail
     refine wp_region_lit ?_;iterate 2 (refine wW λK hK=>?_;go_simp;apply hK;clear hK K)
     go_upto_region 9 with fail
     refine wp_region_lit ?_;iterate 4 (refine wW λK hK=>?_;go_simp;apply hK;clear hK K)
     refine wLk 25 (.tmp 43) rfl (gb) (0) rfl (.agg #[.slice lad ln lc,.slice pad pn pc]) (load_tree10 (grp_tree G2.out.row)) ?_
     simp only [Act.put,sA,sB,sC];refine wW λK hK=>?_;go_simp;apply hK;clear hK K;refine wW λK hK=>?_;go_simp;go_at_call 57
     refine(HREM.out _ _ G2.out.mine).mono ?_;rintro e w3 ⟨lv2,pv2,rfl,k3,SL2,m3⟩;obtain⟨la2,ln2,lc2,rfl⟩:=ownc_slice m3.lo;obtain⟨pa2,pn2,pc2,rfl⟩:=ownc_slice m3.po;obtain⟨hth,hg9⟩:=G2.out.tree k3 m3;have HTH:=hid hth;have G9:=hid hg9;clear hth hg9 k3 m3;apply hK;clear hK K;iterate 5 (refine wW λK hK=>?_;go_simp;apply hK;clear hK K)
     refine @wpL_store_mid _ _ _ _ _ _ _ ?hw9s 25 _ _ rfl gb 0 #[.slice la2 ln2 lc2,.slice pa2 pn2 pc2] rfl rfl HTH.out treeInfo (tree_all _ _ _ _ _ _) ?_
     case hw9s=>kernel_rfl
     simp only [Act.put];refine wW λK hK=>?_;go_simp;apply hK;clear hK K;generalize w3.setCells gb 0 [.slice la2 ln2 lc2,.slice pa2 pn2 pc2] = w9 at G9 |-
     go_upto_region 10 with fail
     refine wp_region_lit ?_;iterate 2 (refine wW λK hK=>?_;go_simp;apply hK;clear hK K)
     go_wp2;go_ret;refine⟨by rw [HE.out]; rfl,G9.out.kp,λ_=>?_⟩
     rw [Ap.next_out HK3.out,<- HPL.out];exact⟨_,_,_,_,G9.out⟩
   ·have hb3:(kd == 3) = false:=by simpa using hk3
    have HE:=hid (show Ap.err R s c = 7 from Ap.err_else (by rw [<- HKD.out]; exact hk1) (by rw [<- HKD.out]; exact hk2) (by rw [<- HKD.out]; exact hk3))
    clear hk1 hk2 hk3
    as_aux_lemma=>
     go_upto_region 4 with fail
     refine wp_region_lit ?_;iterate 2 (refine wW λK hK=>?_;go_simp;apply hK;clear hK K)
     go_upto_region 6 with fail
     refine wp_region_lit ?_;iterate 2 (refine wW λK hK=>?_;go_simp;apply hK;clear hK K)
     go_upto_region 8 with fail
     refine wp_region_lit ?_;iterate 2 (refine wW λK hK=>?_;go_simp;apply hK;clear hK K)
     go_upto_region 3 with fail
     refine wp_region_lit ?_;refine wW λK hK=>?_;go_simp;apply hK;clear hK K
     go_upto_region 10 with fail
     refine wp_region_lit ?_;iterate 2 (refine wW λK hK=>?_;go_simp;apply hK;clear hK K)
     go_wp2;go_ret;exact⟨by rw [HE.out]; rfl,G2.out.kp,λh0=>absurd (HE.out.symm.trans h0) (by decide)⟩
theorem results_row4A {P:Program}{fn:Func}{p q u v:Tmp}{ty tz:TypeId}(h:fn.results = #[.cell p ty,.cell q tz,.tmp u,.tmp v])(tmps:Array Value)(w:World)(g g2:Nat)(t:TypeId)(cs:Array Value)(fr:Nat × Nat)(d:TypeDesc)(t2:TypeId)(cs2:Array Value)(fr2:Nat × Nat)(d2:TypeDesc)
  (hp:tmps.getD p undef = .pointer (some ⟨g,0,none⟩)) (hq:tmps.getD q undef = .pointer (some ⟨g2,0,none⟩)) (hg:w.heap[g]? = some (.cells cs t fr)) (hg2:w.heap[g2]? = some (.cells cs2 t2 fr2))
  (hu:P.underlying ty = some d) (hd:(match d with | .struct _ | .array _ _=>true | _=>false) = true) (hi:(P.info? ty).map (·.size) = some cs.size)
  (hu2:P.underlying tz = some d2) (hd2:(match d2 with | .struct _ | .array _ _=>true | _=>false) = true) (hi2:(P.info? tz).map (·.size) = some cs2.size) :
  (results fn tmps).run P w = .ok (.tuple #[.agg cs,.agg cs2,tmps.getD u undef,tmps.getD v undef]) w:=by
 have hp':tmps[p]?.getD undef = .pointer (some ⟨g,0,none⟩):=by simpa using hp
 have hq':tmps[q]?.getD undef = .pointer (some ⟨g2,0,none⟩):=by simpa using hq
 simp [results,h,hp',hq',asAddr,run_loadVar_row w g t ty cs fr d hg hu hd hi,run_loadVar_row w g2 t2 tz cs2 fr2 d2 hg2 hu2 hd2 hi2]
theorem none_mine (w w9:World)(hs:w.heap.size<=w9.heap.size):Mine (λk=>k < w.heap.size) w9 (.slice none 0 0) (.slice none 0 0) Ap.none.L Ap.none.P [] where
 lok:=λ_ h=>nomatch h
 pok:=λ_ h=>nomatch h
 lo:=OwnC.nil _ _ _ _
 len:=rfl
 po:=OwnC.nil _ _ _ _
 so:=λ_ _ _ h=>by cases h
 dlp:=.inl rfl
 dls:=λ_ h=>nomatch h
 dps:=λ_ h=>nomatch h
 dss:=λ_ _ _ _ _ h=>by cases h
 ol:=λ_ e=>by cases e
 op:=λ_ e=>by cases e
 os:=λ_ h=>nomatch h
 bnd:=λ_ h=>Nat.lt_of_lt_of_le h hs
theorem ints_nil (w:World):Ints w 0 (.slice none 0 0) Ap.none.fr:=World.ownsRow_nil _ _ _ _
theorem gcells_all (la pa:Option Addr)(a b c d:Nat)(ts:List Int)(ra:Option Addr)(e f:Nat)(fa:Option Addr)(g h:Nat):(gcells (.slice la a b) (.slice pa c d) ts (.slice ra e f) (.slice fa g h)).toArray.all (·.oneCell') = true:=all_oneCell_toArray (λv hv=>by
 rcases List.mem_append.1 hv with hv | hv
 ·rcases List.mem_cons.1 hv with rfl | hv
  ·rfl
  ·rw [List.mem_singleton.1 hv]; rfl
 ·rcases List.mem_append.1 hv with hv | hv
  ·exact icells_one ts v hv
  ·rcases List.mem_cons.1 hv with rfl | hv
   ·rfl
   ·rw [List.mem_singleton.1 hv]; rfl)
theorem apply_calls10 (lv pv rv av:Value)(L:List Lf)(P:List Pr)(ts:List Int)(R:List Pn)(A:List Cg)(w:World)(hL:Lvs w lv L)(hP:Pts w pv P)(hR:Pns w rv R)(hA:Cgs w av A)(hn:L.length<=1000)(hp:P.length<=1000)(hpl:∀ p∈P,p.loose.length<=1000)(h64:ts.length = 64)(hrn:R.length<=1000)(hrc:∀ p∈R,p.cards.length<=1000)(hal:A.length<=1000):
  Calls Tryz.prog 10 #[.agg #[lv,pv],.agg (icells ts).toArray,rv,av] w λe w'=>∃ lv' pv' fv',e = .returned (.tuple #[.agg #[lv',pv'],.agg (icells (Ap.result R L P ts A).2.ts).toArray,fv',.int .i64 (Ap.result R L P ts A).1])/\Kept w.heap.size w.heap.size w w'/\Ints w' 0 fv' (Ap.result R L P ts A).2.fr/\∃ SL,Mine (λk=>k < w.heap.size) w' lv' pv' (Ap.result R L P ts A).2.L (Ap.result R L P ts A).2.P SL:=by
 obtain⟨lad,lc,rfl⟩:=hL.shape;obtain⟨pad,pc,rfl⟩:=hP.shape;obtain⟨rad,rc,rfl⟩:=hR.shape;obtain⟨aad,ac,rfl⟩:=hA.shape;obtain⟨ln,hln⟩:∃ q,q = L.length:=⟨_,rfl⟩;obtain⟨pn,hpn⟩:∃ q,q = P.length:=⟨_,rfl⟩;obtain⟨rn,hrn0⟩:∃ q,q = R.length:=⟨_,rfl⟩;obtain⟨an,han⟩:∃ q,q = A.length:=⟨_,rfl⟩;rw [<- hln] at hL;rw [<- hpn] at hP;rw [<- hrn0] at hR;rw [<- han] at hA;rw [<- hln,<- hpn,<- hrn0,<- han];obtain⟨TD,hTD⟩:∃ D,D = (icells ts).toArray:=⟨_,rfl⟩;rw [<- hTD];have han9:(an:Int)<=1000:=by omega
 have HAN:=hid han;have HTD:=hid hTD;have HLV:=hid hL;have HPV:=hid hP;have HR:=hid hR;have HA:=hid hA;have HN:=hid hn;have HPN:=hid hp;have HPL:=hid hpl;have H64:=hid h64;have HRN:=hid hrn;have HRC:=hid hrc;have HAL:=hid hal;have HZI:=hid (timesInfo (cs:=(icells Ap.z64).toArray) rfl);have HTI:=hid (timesInfo (cs:=TD) (by rw [hTD]; simp [icells_length,h64]))
 have HRI:=hid (λ(u:World) (kk:Kept w.heap.size w.heap.size w u)=>right_calls8 _ _ L P u (hL.kept kk) (hP.kept kk) hn hp hpl)
 obtain⟨rt,hrt⟩:∃ b,b = Tt.right L P:=⟨_,rfl⟩;rw [<- hrt] at HRI;have HRT:=hid hrt;clear hL hP hR hA hln hpn hrn0 han hTD hn hp hpl h64 hrn hrc hal hrt;have HDO:=hid (λ(w0:World) (gb:Nat) (lv pv fv:Value) (SL:List Value) (s:Gp) (c:Cg) (hok:c.Ok) (u:World) (g:Gm w0 u gb (.slice rad rn rc) lv pv fv SL s) (kk:Kept w.heap.size w.heap.size w w0) (hr:Tt.right s.L s.P = true) (hf:s.fr.length<=1000)=>do_calls10 w0 gb _ lv pv fv SL s R c hok u g (HR.out.kept kk) HRN.out HRC.out hr hf)
 go_enter Tryz.func10,Tryz.ntmps10
 go_upto_region 0 with fail
 refine wp_region_lit ?_;iterate 2 (refine wW λK hK=>?_;go_simp;apply hK;clear hK K)
 refine @wpL_alloc _ _ _ _ _ _ _ _ ?_ 25 rfl _ (alloc_tree _) ?_;kernel_rfl
 simp only [Act.put,sA,sB,sC];refine @wpL_alloc _ _ _ _ _ _ _ _ ?_ 27 rfl _ (alloc_times _) ?_;kernel_rfl
 simp only [Act.put,sA,sB,sC];have hz1:(w.alloc (.cells #[.slice lad ln lc,.slice pad pn pc] 25)).heap.size = w.heap.size + 1:=by simp
 have hz2:((w.alloc (.cells #[.slice lad ln lc,.slice pad pn pc] 25)).alloc (.cells TD 27)).heap.size = w.heap.size + 2:=by simp
 have hz3:(((w.alloc (.cells #[.slice lad ln lc,.slice pad pn pc] 25)).alloc (.cells TD 27)).alloc (.cells #[.slice none 0 0,.slice none 0 0] 25)).heap.size = w.heap.size + 3:=by simp
 have hz4:((((w.alloc (.cells #[.slice lad ln lc,.slice pad pn pc] 25)).alloc (.cells TD 27)).alloc (.cells #[.slice none 0 0,.slice none 0 0] 25)).alloc (.cells (icells Ap.z64).toArray 27)).heap.size = w.heap.size + 4:=by simp
 have k1:Kept w.heap.size w.heap.size w ((((w.alloc (.cells #[.slice lad ln lc,.slice pad pn pc] 25)).alloc (.cells TD 27)).alloc (.cells #[.slice none 0 0,.slice none 0 0] 25)).alloc (.cells (icells Ap.z64).toArray 27)):=((((Kept.refl _ _ _).alloc (Nat.le_refl _) _).alloc (by simp) _).alloc (by simp; omega) _).alloc (by simp; omega) _
 have r4:((((w.alloc (.cells #[.slice lad ln lc,.slice pad pn pc] 25)).alloc (.cells TD 27)).alloc (.cells #[.slice none 0 0,.slice none 0 0] 25)).alloc (.cells (icells Ap.z64).toArray 27)).heap[w.heap.size + 3]? = some (.cells (icells Ap.z64).toArray 27 (0,0)):=by rw [<- hz3]; exact heap_new _ _
 have r3:((((w.alloc (.cells #[.slice lad ln lc,.slice pad pn pc] 25)).alloc (.cells TD 27)).alloc (.cells #[.slice none 0 0,.slice none 0 0] 25)).alloc (.cells (icells Ap.z64).toArray 27)).heap[w.heap.size + 2]? = some (.cells #[.slice none 0 0,.slice none 0 0] 25 (0,0)):=by
  rw [heap_alloc_old _ _ (by rw [hz3]; omega),<- hz2]; exact heap_new _ _
 have r2:((((w.alloc (.cells #[.slice lad ln lc,.slice pad pn pc] 25)).alloc (.cells TD 27)).alloc (.cells #[.slice none 0 0,.slice none 0 0] 25)).alloc (.cells (icells Ap.z64).toArray 27)).heap[w.heap.size + 1]? = some (.cells TD 27 (0,0)):=by
  rw [heap_alloc_old _ _ (by rw [hz3]; omega),heap_alloc_old _ _ (by rw [hz2]; omega),<- hz1]; exact heap_new _ _
 have r1:((((w.alloc (.cells #[.slice lad ln lc,.slice pad pn pc] 25)).alloc (.cells TD 27)).alloc (.cells #[.slice none 0 0,.slice none 0 0] 25)).alloc (.cells (icells Ap.z64).toArray 27)).heap[w.heap.size]? = some (.cells #[.slice lad ln lc,.slice pad pn pc] 25 (0,0)):=by
  rw [heap_alloc_old _ _ (by rw [hz3]; omega),heap_alloc_old _ _ (by rw [hz2]; omega),heap_alloc_old _ _ (by rw [hz1]; omega)]; exact heap_new _ _
 (try rw [hz3])
 (try rw [hz2])
 (try rw [hz1])
 generalize (((w.alloc (.cells #[.slice lad ln lc,.slice pad pn pc] 25)).alloc (.cells TD 27)).alloc (.cells #[.slice none 0 0,.slice none 0 0] 25)).alloc (.cells (icells Ap.z64).toArray 27) = w1 at k1 r1 r2 r3 r4 hz4 |-
 have K1:=hid k1;have T1:=hid r1;have S1:=hid r2;have X1:=hid r3;have Y1:=hid r4;have Z1:=hid hz4;obtain⟨a0,ha0⟩:∃ a,a = w.heap.size:=⟨_,rfl⟩;rw [<- ha0] at T1 S1 X1 Y1 Z1
 (try rw [<- ha0])
 have HA0:=hid ha0;clear hz1 hz2 hz3 hz4 k1 r1 r2 r3 r4 ha0;iterate 2 (refine wW λK hK=>?_;go_simp;apply hK;clear hK K)
 go_upto_region 1 with fail
 refine wp_region_lit ?_;refine wLk 25 (.tmp 4) rfl (a0) (0) rfl (.agg #[.slice lad ln lc,.slice pad pn pc]) (run_loadVar_row w1 a0 25 25 _ (0,0) _ T1.out Tryz.underlying25 rfl treeInfo) ?_
 simp only [Act.put,sA,sB,sC];refine wW λK hK=>?_;go_simp;go_at_call 11
 refine(HRI.out _ K1.out).mono ?_;rintro e w2 ⟨rfl,k2⟩;have K2:=hid (K1.out.onto k2);have T2:=hid (row_kept T1.out k2);have S2:=hid (row_kept S1.out k2);have X2:=hid (row_kept X1.out k2);have Y2:=hid (row_kept Y1.out k2);have HSZ2:=hid (show a0 + 4<=w2.heap.size by rw [<- Z1.out]; exact k2.size)
 clear k2;apply hK;clear hK K;refine wW λK hK=>?_;go_simp;apply hK;clear hK K
 cases rt with
 | false=>
  have hno:Tt.right L P = false:=HRT.out.symm;have HE:=hid (Ap.result_no (R:=R) (ts:=ts) (A:=A) hno);clear hno
  as_aux_lemma=>
   go_upto_region 2 with fail
   refine wp_region_lit ?_;refine @wpL_build0 _ _ _ _ _ _ _ ?_ 25 rfl _ (build_tree0 _) ?_;kernel_rfl
   simp only [Act.put,sA,sB,sC];refine @wpL_build0 _ _ _ _ _ _ _ ?_ 27 rfl _ (build_times0 _) ?_;kernel_rfl
   simp only [Act.put,sA,sB,sC];refine wpList_store_row rfl 25 _ _ rfl (a0 + 2) #[.slice none 0 0,.slice none 0 0] rfl rfl 25 #[.slice none 0 0,.slice none 0 0] X2.out treeInfo rfl (tree_all _ _ _ _ _ _) ?_
   simp only [Act.put];have X8:=setRow_heap w2 (a0 + 2) _ #[.slice none 0 0,.slice none 0 0] _ _ X2.out;have Y8:=(setRow_other w2 (a0 + 2) (a0 + 3) #[.slice none 0 0,.slice none 0 0] (by omega)).trans Y2.out
   refine wpList_store_row rfl 27 _ _ rfl (a0 + 3) (icells Ap.z64).toArray rfl rfl 27 (icells Ap.z64).toArray Y8 HZI.out rfl (icells_all _) ?_
   simp only [Act.put];iterate 2 (refine wW λK hK=>?_;go_simp;apply hK;clear hK K)
   have Y9:=setRow_heap (w2.setRow (a0 + 2) #[.slice none 0 0,.slice none 0 0]) (a0 + 3) _ (icells Ap.z64).toArray _ _ Y8;have X9:=(setRow_other (w2.setRow (a0 + 2) #[.slice none 0 0,.slice none 0 0]) (a0 + 3) (a0 + 2) (icells Ap.z64).toArray (by omega)).trans X8
   have K9:Kept w.heap.size w.heap.size w ((w2.setRow (a0 + 2) #[.slice none 0 0,.slice none 0 0]).setRow (a0 + 3) (icells Ap.z64).toArray):=kept_setRow10 (kept_setRow10 K2.out (a0 + 2) (by rw [HA0.out]; omega) _) (a0 + 3) (by rw [HA0.out]; omega) _
   generalize (w2.setRow (a0 + 2) #[.slice none 0 0,.slice none 0 0]).setRow (a0 + 3) (icells Ap.z64).toArray = w9 at X9 Y9 K9 |-;go_wp2;refine bodyPost_ret (results_row4A rfl _ _ (a0 + 2) (a0 + 3) 25 #[.slice none 0 0,.slice none 0 0] (0,0) _ 27 (icells Ap.z64).toArray (0,0) _ rfl rfl X9 Y9 Tryz.underlying25 rfl treeInfo Tryz.underlying27 rfl HZI.out) rfl ?_
   rw [HE.out];exact⟨_,_,_,rfl,K9,ints_nil w9,[],none_mine w w9 (by exact K9.size)⟩
 | true=>
  have hyes:Tt.right L P = true:=HRT.out.symm;have HY:=hid hyes;have HE:=hid (Ap.result_yes (R:=R) (ts:=ts) (A:=A) hyes);clear hyes
  as_aux_lemma=>
   go_upto_region 3 with fail
   have HGI0:=hid (λ(la pa:Option Addr) (a b c d:Nat)=>groupInfo (cs:=(gcells (.slice la a b) (.slice pa c d) ts (.slice rad rn rc) (.slice none 0 0)).toArray) (by rw [List.size_toArray]; exact gcells_length _ _ H64.out _ _))
   refine Code.wp_mono (Q:=λe a u=>e = .normal/\∃ gb lv2 pv2 SL2,a = { tmps:=#[.agg #[.slice lad ln lc,.slice pad pn pc],.agg TD,.slice rad rn rc,.slice aad an ac,.pointer (some ⟨a0,0,none⟩),.pointer (some ⟨a0 + 1,0,none⟩),undef,undef,.pointer (some ⟨a0 + 2,0,none⟩),.pointer (some ⟨a0 + 3,0,none⟩),.slice none 0 0,.int .i64 0,.pointer (some ⟨gb,0,none⟩),undef,undef,undef,.agg #[.slice lad ln lc,.slice pad pn pc],.bool true,.bool false,undef,undef,.agg #[.slice lad ln lc,.slice pad pn pc],.agg #[lv2,pv2],.agg TD,.slice rad rn rc,.agg (gcells lv2 pv2 ts (.slice rad rn rc) (.slice none 0 0)).toArray,undef,undef,undef,undef,undef,undef,undef,undef,undef,undef,undef,undef,undef,undef,undef,undef,undef,undef,undef,undef,undef],defers:=[] }/\Gm w2 u gb (.slice rad rn rc) lv2 pv2 (.slice none 0 0) SL2 ⟨L,P,ts,[]⟩) ?rest ?reg
   case reg=>
    refine wp_region_noPanic ?_;refine wp_region_held_drew (S:=λx=>Kp w2 x) (by kernel_rfl) ((Kept.refl _ _ _).drew) (λhH=>?_)
    have Kwd:=hid hH;obtain⟨wd,hwd⟩:∃ wd,wd = w2.drew:=⟨_,rfl⟩;rw [<- hwd] at hH Kwd |-;clear hwd;refine tkA (i:=0) 21 (.agg #[.slice lad ln lc,.slice pad pn pc]) rfl (yieldsIf_load_known (by kernel_rfl) 25 _ rfl (a0) (0) rfl (.agg #[.slice lad ln lc,.slice pad pn pc]) (λx hx=>run_loadVar_row x a0 25 25 _ (0,0) _ (row_kept T2.out hx) Tryz.underlying25 rfl treeInfo)) hH ?_
    simp only [sA,sB,sC];refine tkA (i:=2) 23 (.agg TD) rfl (yieldsIf_load_known (by kernel_rfl) 27 _ rfl (a0 + 1) (0) rfl (.agg TD) (λx hx=>run_loadVar_row x (a0 + 1) 27 27 _ (0,0) _ (row_kept S2.out hx) Tryz.underlying27 rfl HTI.out)) hH ?_
    simp only [sA,sB,sC];refine tkE (i:=3) 24 rfl hH ?_
    apply Exists.intro;apply And.intro
    ·intro w9 _
     go_simp
     first | done | rfl
    simp only [sA,sB,sC];refine wpAnyH_ready (rs:=[1,5]) (by kernel_rfl) (by simp) ?_
    refine AllReadyH.cons rfl (λK hK=>?_) ?_
    ·rw [if_pos (by rfl)]
     go_simp
     go_wp2_with (go_at_call 26; refine(copied_calls10 _ _ L P _ (HLV.out.kept (K2.out.onto Kwd.out)) (HPV.out.kept (K2.out.onto Kwd.out)) HN.out HPN.out HPL.out).mono ?_; rintro e xa ⟨lv2,pv2,rfl,k5,SL2,m5⟩)
     obtain⟨la2,ln2,lc2,rfl⟩:=ownc_slice m5.lo;obtain⟨pa2,pn2,pc2,rfl⟩:=ownc_slice m5.po;have Kxa:=hid (Kwd.out.onto k5);have Mxa:=hid m5;refine hK.out _ _ Kxa.out (λhH=>?_)
     clear hK K k5 m5;refine tkA (i:=4) 25 (.agg (gcells (.slice la2 ln2 lc2) (.slice pa2 pn2 pc2) ts (.slice rad rn rc) (.slice none 0 0)).toArray) rfl (yieldsIf_buildN (by kernel_rfl) 70 _ rfl #[(0,.agg #[(.slice la2 ln2 lc2),(.slice pa2 pn2 pc2)]),(1,.agg TD),(2,.slice rad rn rc)] (by simp only [List.map_toArray,List.map_cons,List.map_nil]; rfl) (.agg (gcells (.slice la2 ln2 lc2) (.slice pa2 pn2 pc2) ts (.slice rad rn rc) (.slice none 0 0)).toArray) (λx=>by rw [HTD.out]; exact build_group3 x _ _ _ _ _ _ _ _ _ ts H64.out)) hH ?_
     simp only [sA,sB,sC];refine wpAnyH_ready (rs:=[5]) (by kernel_rfl) (by simp) ?_
     refine AllReadyH.cons rfl (λK hK=>?_) AllReadyH.nil
     rw [if_pos (by rfl)]
     refine wp_alloc_known 70 rfl (some 12) rfl _ (alloc_group xa) ?_
     simp only [Act.put,sA,sB,sC];have kal:=kA xa (.cells (gcells (.slice none 0 0) (.slice none 0 0) Ap.z64 (.slice none 0 0) (.slice none 0 0)).toArray 70)
     have Kxb:=hid (Kxa.out.onto kal);have Txb:=hid (heap_new xa (.cells (gcells (.slice none 0 0) (.slice none 0 0) Ap.z64 (.slice none 0 0) (.slice none 0 0)).toArray 70))
     have GTxb:=hid (Kxa.out.size);have Mxb:=hid (Mxa.out.box (.cells (gcells (.slice none 0 0) (.slice none 0 0) Ap.z64 (.slice none 0 0) (.slice none 0 0)).toArray 70))
     generalize xa.alloc (.cells (gcells (.slice none 0 0) (.slice none 0 0) Ap.z64 (.slice none 0 0) (.slice none 0 0)).toArray 70) = xb at Kxb Txb Mxb kal |-
     obtain⟨gb,hgb⟩:∃ n,n = xa.heap.size:=⟨_,rfl⟩;rw [<- hgb] at Txb GTxb Mxb
     (try rw [<- hgb])
     refine hK.out _ _ Kxb.out (λhH=>?_)
     clear hK K kal hgb;refine wpAnyH_ready (rs:=[6]) (by kernel_rfl) (by simp) ?_
     refine AllReadyH.cons rfl (λK hK=>?_) AllReadyH.nil
     rw [if_pos (by rfl)]
     refine wp_store_row_none 70 _ _ rfl rfl gb (gcells (.slice la2 ln2 lc2) (.slice pa2 pn2 pc2) ts (.slice rad rn rc) (.slice none 0 0)).toArray rfl rfl 70 (gcells (.slice none 0 0) (.slice none 0 0) Ap.z64 (.slice none 0 0) (.slice none 0 0)).toArray Txb.out (HGI0.out _ _ _ _ _ _) (by rw [List.size_toArray,List.size_toArray,gcells_length _ _ rfl,gcells_length _ _ H64.out]) (gcells_all _ _ _ _ _ _ ts _ _ _ _ _ _) ?_
     have R4:=setRow_heap xb gb _ (gcells (.slice la2 ln2 lc2) (.slice pa2 pn2 pc2) ts (.slice rad rn rc) (.slice none 0 0)).toArray _ _ Txb.out;have K4:=kept_setRow10 Kxb.out gb GTxb.out (gcells (.slice la2 ln2 lc2) (.slice pa2 pn2 pc2) ts (.slice rad rn rc) (.slice none 0 0)).toArray;have M4:=(Mxb.out.aside (b:=gb) (.inr rfl) (grown_setRow xb gb (gcells (.slice la2 ln2 lc2) (.slice pa2 pn2 pc2) ts (.slice rad rn rc) (.slice none 0 0)).toArray)).mono (B':=λq=>q < w2.heap.size\/q = gb\/(Value.slice none 0 0).ownBlock = some q) (λq hq=>hq.elim (λhq=>.inl (Nat.lt_of_lt_of_le hq Kwd.out.size)) (λhq=>hq.elim (λhq=>.inr hq) (λhq=>by cases hq)))
     have G4:=hid (show Gm w2 (xb.setRow gb (gcells (.slice la2 ln2 lc2) (.slice pa2 pn2 pc2) ts (.slice rad rn rc) (.slice none 0 0)).toArray) gb (.slice rad rn rc) (.slice la2 ln2 lc2) (.slice pa2 pn2 pc2) (.slice none 0 0) SL2 ⟨L,P,ts,[]⟩ from⟨K4,R4,M4,World.ownsRow_nil _ _ _ _,(λe=>by cases e),GTxb.out,H64.out⟩)
     generalize xb.setRow gb (gcells (.slice la2 ln2 lc2) (.slice pa2 pn2 pc2) ts (.slice rad rn rc) (.slice none 0 0)).toArray = w4 at K4 G4 |-;refine hK.out _ _ K4 (λhH=>?_)
     clear hK K;refine wpAnyH_done (by kernel_rfl) ?_ _
     refine NoPanic.normal ?_;exact⟨rfl,gb,(.slice la2 ln2 lc2),(.slice pa2 pn2 pc2),SL2,rfl,G4.out⟩
    refine AllReadyH.cons rfl (λK hK=>?_) AllReadyH.nil
    rw [if_pos (by rfl)]
    refine wp_alloc_known 70 rfl (some 12) rfl _ (alloc_group wd) ?_
    simp only [Act.put,sA,sB,sC];have kal:=kA wd (.cells (gcells (.slice none 0 0) (.slice none 0 0) Ap.z64 (.slice none 0 0) (.slice none 0 0)).toArray 70)
    have Kxa:=hid (Kwd.out.onto kal);have Txa:=hid (heap_new wd (.cells (gcells (.slice none 0 0) (.slice none 0 0) Ap.z64 (.slice none 0 0) (.slice none 0 0)).toArray 70))
    have GTxa:=hid (Kwd.out.size);generalize wd.alloc (.cells (gcells (.slice none 0 0) (.slice none 0 0) Ap.z64 (.slice none 0 0) (.slice none 0 0)).toArray 70) = xa at Kxa Txa kal |-
    obtain⟨gb,hgb⟩:∃ n,n = wd.heap.size:=⟨_,rfl⟩;rw [<- hgb] at Txa GTxa
    (try rw [<- hgb])
    refine hK.out _ _ Kxa.out (λhH=>?_)
    clear hK K kal hgb;refine wpAnyH_ready (rs:=[1]) (by kernel_rfl) (by simp) ?_
    refine AllReadyH.cons rfl (λK hK=>?_) AllReadyH.nil
    rw [if_pos (by rfl)]
    go_simp
    go_wp2_with (go_at_call 26; refine(copied_calls10 _ _ L P _ (HLV.out.kept (K2.out.onto Kxa.out)) (HPV.out.kept (K2.out.onto Kxa.out)) HN.out HPN.out HPL.out).mono ?_; rintro e xb ⟨lv2,pv2,rfl,k5,SL2,m5⟩)
    obtain⟨la2,ln2,lc2,rfl⟩:=ownc_slice m5.lo;obtain⟨pa2,pn2,pc2,rfl⟩:=ownc_slice m5.po;have Kxb:=hid (Kxa.out.onto k5);have Mxb:=hid m5;have Txb:=hid (row_kept Txa.out k5);have GTxb:=GTxa;refine hK.out _ _ Kxb.out (λhH=>?_)
    clear hK K k5 m5;refine tkA (i:=4) 25 (.agg (gcells (.slice la2 ln2 lc2) (.slice pa2 pn2 pc2) ts (.slice rad rn rc) (.slice none 0 0)).toArray) rfl (yieldsIf_buildN (by kernel_rfl) 70 _ rfl #[(0,.agg #[(.slice la2 ln2 lc2),(.slice pa2 pn2 pc2)]),(1,.agg TD),(2,.slice rad rn rc)] (by simp only [List.map_toArray,List.map_cons,List.map_nil]; rfl) (.agg (gcells (.slice la2 ln2 lc2) (.slice pa2 pn2 pc2) ts (.slice rad rn rc) (.slice none 0 0)).toArray) (λx=>by rw [HTD.out]; exact build_group3 x _ _ _ _ _ _ _ _ _ ts H64.out)) hH ?_
    simp only [sA,sB,sC];refine wpAnyH_ready (rs:=[6]) (by kernel_rfl) (by simp) ?_
    refine AllReadyH.cons rfl (λK hK=>?_) AllReadyH.nil
    rw [if_pos (by rfl)]
    refine wp_store_row_none 70 _ _ rfl rfl gb (gcells (.slice la2 ln2 lc2) (.slice pa2 pn2 pc2) ts (.slice rad rn rc) (.slice none 0 0)).toArray rfl rfl 70 (gcells (.slice none 0 0) (.slice none 0 0) Ap.z64 (.slice none 0 0) (.slice none 0 0)).toArray Txb.out (HGI0.out _ _ _ _ _ _) (by rw [List.size_toArray,List.size_toArray,gcells_length _ _ rfl,gcells_length _ _ H64.out]) (gcells_all _ _ _ _ _ _ ts _ _ _ _ _ _) ?_
    have R4:=setRow_heap xb gb _ (gcells (.slice la2 ln2 lc2) (.slice pa2 pn2 pc2) ts (.slice rad rn rc) (.slice none 0 0)).toArray _ _ Txb.out;have K4:=kept_setRow10 Kxb.out gb GTxb.out (gcells (.slice la2 ln2 lc2) (.slice pa2 pn2 pc2) ts (.slice rad rn rc) (.slice none 0 0)).toArray;have M4:=(Mxb.out.aside (b:=gb) (lt_of_block Txa.out) (grown_setRow xb gb (gcells (.slice la2 ln2 lc2) (.slice pa2 pn2 pc2) ts (.slice rad rn rc) (.slice none 0 0)).toArray)).mono (B':=λq=>q < w2.heap.size\/q = gb\/(Value.slice none 0 0).ownBlock = some q) (λq hq=>hq.elim (λhq=>Nat.lt_of_lt_of_le hq Kxa.out.size) (λhq=>hq.elim (λhq=>hq ▸ lt_of_block Txa.out) (λhq=>by cases hq)))
    have G4:=hid (show Gm w2 (xb.setRow gb (gcells (.slice la2 ln2 lc2) (.slice pa2 pn2 pc2) ts (.slice rad rn rc) (.slice none 0 0)).toArray) gb (.slice rad rn rc) (.slice la2 ln2 lc2) (.slice pa2 pn2 pc2) (.slice none 0 0) SL2 ⟨L,P,ts,[]⟩ from⟨K4,R4,M4,World.ownsRow_nil _ _ _ _,(λe=>by cases e),GTxb.out,H64.out⟩)
    generalize xb.setRow gb (gcells (.slice la2 ln2 lc2) (.slice pa2 pn2 pc2) ts (.slice rad rn rc) (.slice none 0 0)).toArray = w4 at K4 G4 |-;refine hK.out _ _ K4 (λhH=>?_)
    clear hK K;refine wpAnyH_done (by kernel_rfl) ?_ _
    refine NoPanic.normal ?_;exact⟨rfl,gb,(.slice la2 ln2 lc2),(.slice pa2 pn2 pc2),SL2,rfl,G4.out⟩
   case rest=>
    rintro e a u ⟨rfl,gb,lv2,pv2,SL2,rfl,hg4⟩;have G4:=hid hg4;clear hg4
    go_upto_region 4 with fail
    refine wp_region_lit ?_;iterate 3 (refine wW λK hK=>?_;go_simp;apply hK;clear hK K)
    go_wp2_with fail
    go_loopw [28] (λs28 x=>∃ i:Nat,s28 = .int .i64 (i:Int)/\Hid (i<=an)/\∃ lv pv fv SL s,Hid (Gm w2 x gb (.slice rad rn rc) lv pv fv SL s)/\Hid (s.fr.length<=i)/\Hid (Tt.right s.L s.P = true)/\Hid (Ap.result R L P ts A = Ap.run R s (A.drop i))) (λs28 _=>an - (RowKit.intOf s28).toNat)
    case atStart=>exact⟨0,rfl,hid (Nat.zero_le _),lv2,pv2,_,SL2,_,G4,hid (Nat.le_refl _),HY,hid (by rw [HE.out,List.drop_zero])⟩
    case round=>
     clear G4;obtain⟨i,rfl,hi,lv5,pv5,fv5,SL5,s5,G5,HF5,HY5,HE5⟩:=hrel
     by_cases hlt:i < an
     ·have hiA:i < A.length:=by rw [<- HAN.out]; exact hlt
      have hlti:(i:Int) < (an:Int):=by omega
      have hi0:¬ (i:Int) < 0:=by omega
      have HIA:=hid hiA;obtain⟨aad',ag,ao,ac',hsl,hcell⟩:=HA.out;rw [<- HAN.out] at hsl;injection hsl with h1 h2 h3
      subst h1 h3;clear h2;obtain⟨had,hg,hok,hr⟩:=hcell i hiA;subst had;have hr2:=range_kept10 hr hg (K2.out.onto G5.out.kp);obtain⟨c,hc⟩:∃ c,c = A[i]'hiA:=⟨_,rfl⟩;rw [<- hc] at hok hr2;have HC:=hid (show c = A[i]'HIA.out from hc);have hla:=load_cg10 hr2 hok;obtain⟨CD,hCD⟩:∃ D,D = c.cells.toArray:=⟨_,rfl⟩;have HCS:=hid (show CD.size = 101 by rw [hCD]; exact Cg.size hok)
      have HCI:=hid (cgInfo HCS.out);have HCA:=hid (show CD.all (·.oneCell') = true by rw [hCD]; exact c.all)
      rw [<- hCD] at hla;have HLA:=hid hla;have HCD:=hid hCD;have HOK:=hid hok;have HLT:=hid hlt;clear hr hr2 hla hCD hg hc hlt hiA hok hcell
      as_aux_lemma=>
       go_upto_region 6 with fail
       refine wp_region_lit ?_;refine wW λK hK=>?_;go_simp;apply hK;clear hK K;refine wLk 46 (.tmp 30) rfl (ag) (ao + i * 101) rfl (.agg CD) (HLA.out) ?_
       simp only [Act.put,sA,sB,sC];refine @wpL_alloc _ _ _ _ _ _ _ _ ?_ 46 rfl _ (alloc_cg _) ?_;kernel_rfl
       simp only [Act.put,sA,sB,sC];refine wpList_store_row rfl 46 _ _ rfl (wr.heap.size) CD rfl rfl 46 Cm.zero.cells.toArray (heap_new _ _) (HCI.out) (by rw [HCS.out]; exact Cg.size Cm.zero_ok) (HCA.out) ?_
       simp only [Act.put];rw [World.setRow_alloc_new];have ka:=kA wr (.cells CD 46)
       have ra:=heap_new wr (.cells CD 46)
       generalize wr.alloc (.cells CD 46) = w6 at ka ra |-
       obtain⟨cb,hcb⟩:∃ n,n = wr.heap.size:=⟨_,rfl⟩;rw [<- hcb] at ra
       (try rw [<- hcb])
       have G6:=hid (G5.out.kept ka);have hlc:(loadVar 44 ⟨cb,35,none⟩).run Tryz.prog w6 = .ok (.agg c.chg.toArray) w6:=load_chg (cg_chg (by rw [<- HCD.out]; exact ra) HOK.out) HOK.out
       obtain⟨ed,hed⟩:∃ q,q = Ap.err R s5 c:=⟨_,rfl⟩;have HD:=hid (HDO.out w2 gb lv5 pv5 fv5 SL5 s5 c HOK.out w6 G6.out K2.out HY5.out (by have:=HF5.out; have:=hi.out; have:=HAL.out; have:=HAN.out; omega))
       rw [<- hed] at HD;have HED:=hid hed;clear ka ra hcb hed
       go_upto_region 7 with fail
       refine wp_region_lit ?_;refine wW λK hK=>?_;go_simp;apply hK;clear hK K;refine wLk 44 (.tmp 32) rfl (cb) (35) rfl (.agg c.chg.toArray) (hlc) ?_
       simp only [Act.put,sA,sB,sC];refine wW λK hK=>?_;go_simp;go_at_call 27
       refine(HD.out).mono ?_;rintro e w7 ⟨rfl,k7,g7⟩;have K7:=hid k7;have G7:=hid g7;clear k7 g7;apply hK;clear hK K;refine wW λK hK=>?_;go_simp;apply hK;clear hK K;clear hlc
       by_cases he:ed = 0
       ·subst he
        have HE0:=hid HED.out.symm;obtain⟨lv8,pv8,fv8,SL8,hg8⟩:=G7.out HE0.out;have G8:=hid hg8;clear hg8;go_wp2
        go_roundw
        case rel=>
         refine⟨i + 1,by simp,hid HLT.out,lv8,pv8,fv8,SL8,Ap.next R s5 c,G8,hid (Nat.le_trans (Ap.next_fr R s5 c) (by have:=HF5.out; omega)),hid (Ap.next_right HY5.out HE0.out),hid ?_⟩
         rw [HE5.out,Ap.run_ok HIA.out (by rw [<- HC.out]; exact HE0.out),<- HC.out]
        case measure=>have:=HLT.out; simp [RowKit.intOf]; omega
       ·have heb:(ed != 0) = true:=by simp [he]
        have HFIN:=hid (show Ap.result R L P ts A = (ed,Ap.none) by rw [HE5.out,Ap.run_bad HIA.out (by rw [<- HC.out,<- HED.out]; exact he),<- HC.out,HED.out])
        have X7:=hid (row_kept X2.out K7.out);have Y7:=hid (row_kept Y2.out K7.out);clear he
        go_upto_region 9 with fail
        refine wp_region_lit ?_;refine @wpL_build0 _ _ _ _ _ _ _ ?_ 25 rfl _ (build_tree0 _) ?_;kernel_rfl
        simp only [Act.put,sA,sB,sC];refine @wpL_build0 _ _ _ _ _ _ _ ?_ 27 rfl _ (build_times0 _) ?_;kernel_rfl
        simp only [Act.put,sA,sB,sC];refine wW λK hK=>?_;go_simp;apply hK;clear hK K;refine wpList_store_row rfl 25 _ _ rfl (a0 + 2) #[.slice none 0 0,.slice none 0 0] rfl rfl 25 #[.slice none 0 0,.slice none 0 0] X7.out treeInfo rfl (tree_all _ _ _ _ _ _) ?_
        simp only [Act.put];have X8:=setRow_heap w7 (a0 + 2) _ #[.slice none 0 0,.slice none 0 0] _ _ X7.out;have Y8:=(setRow_other w7 (a0 + 2) (a0 + 3) #[.slice none 0 0,.slice none 0 0] (by omega)).trans Y7.out
        refine wpList_store_row rfl 27 _ _ rfl (a0 + 3) (icells Ap.z64).toArray rfl rfl 27 (icells Ap.z64).toArray Y8 HZI.out rfl (icells_all _) ?_
        simp only [Act.put];iterate 2 (refine wW λK hK=>?_;go_simp;apply hK;clear hK K)
        have Y9:=setRow_heap (w7.setRow (a0 + 2) #[.slice none 0 0,.slice none 0 0]) (a0 + 3) _ (icells Ap.z64).toArray _ _ Y8;have X9:=(setRow_other (w7.setRow (a0 + 2) #[.slice none 0 0,.slice none 0 0]) (a0 + 3) (a0 + 2) (icells Ap.z64).toArray (by omega)).trans X8
        have K9:Kept w.heap.size w.heap.size w ((w7.setRow (a0 + 2) #[.slice none 0 0,.slice none 0 0]).setRow (a0 + 3) (icells Ap.z64).toArray):=kept_setRow10 (kept_setRow10 (K2.out.onto K7.out) (a0 + 2) (by rw [HA0.out]; omega) _) (a0 + 3) (by rw [HA0.out]; omega) _
        generalize (w7.setRow (a0 + 2) #[.slice none 0 0,.slice none 0 0]).setRow (a0 + 3) (icells Ap.z64).toArray = w9 at X9 Y9 K9 |-;go_wp2;refine bodyPost_ret (results_row4A rfl _ _ (a0 + 2) (a0 + 3) 25 #[.slice none 0 0,.slice none 0 0] (0,0) _ 27 (icells Ap.z64).toArray (0,0) _ rfl rfl X9 Y9 Tryz.underlying25 rfl treeInfo Tryz.underlying27 rfl HZI.out) rfl ?_
        rw [HFIN.out];exact⟨_,_,_,rfl,K9,ints_nil w9,[],none_mine w w9 (by exact K9.size)⟩
     ·have hnl:¬ (i:Int) < (an:Int):=by omega
      have HFIN:=hid (show Ap.result R L P ts A = (0,s5) by rw [HE5.out,Ap.run_end (by rw [<- HAN.out]; omega)])
      clear hlt
      as_aux_lemma=>
       go_upto_region 11 with fail
       obtain⟨la5,ln5,lc5,rfl⟩:=ownc_slice G5.out.mine.lo;obtain⟨pa5,pn5,pc5,rfl⟩:=ownc_slice G5.out.mine.po;have hfi:=G5.out.fr;obtain⟨fad,fn,fc,rfl⟩:=one_slice hfi;clear hfi;obtain⟨T5,hT5⟩:∃ D,D = (icells s5.ts).toArray:=⟨_,rfl⟩;have HT5S:=hid (show T5.size = 64 by rw [hT5]; simp [icells_length,G5.out.ts])
       have HT5I:=hid (timesInfo HT5S.out);have HT5A:=hid (show T5.all (·.oneCell') = true by rw [hT5]; exact icells_all _)
       have HT5:=hid hT5;have KX:=hid ((Kept.refl wr.heap.size wr.heap.size wr).drew);have GD:=hid (G5.out.kept KX.out);have RD:=hid GD.out.row;have XD:=hid (row_kept X2.out GD.out.kp);have YD:=hid (row_kept Y2.out GD.out.kp);have HNX:=hid (show gb≠a0 + 2/\gb≠a0 + 3 by have:=G5.out.ge; have:=HSZ2.out; omega)
       clear hT5;refine wp_region_noPanic ?_;refine wp_region_held_drew (S:=λx=>x.heap[gb]? = some (.cells (gcells (.slice la5 ln5 lc5) (.slice pa5 pn5 pc5) s5.ts (.slice rad rn rc) (.slice fad fn fc)).toArray 70 (0,0))) (by kernel_rfl) RD.out (λhH=>?_)
       obtain⟨wd,hwd⟩:∃ wd,wd = wr.drew:=⟨_,rfl⟩;rw [<- hwd] at hH GD RD XD YD |-;clear hwd KX;refine tkE (i:=0) 41 rfl hH ?_
       apply Exists.intro;apply And.intro
       ·intro w9 _
        go_simp
        first | done | rfl
       simp only [sA,sB,sC];refine tkA (i:=1) 42 (.agg #[.slice la5 ln5 lc5,.slice pa5 pn5 pc5]) rfl (yieldsIf_load_known (by kernel_rfl) 25 _ rfl (gb) (0) rfl (.agg #[.slice la5 ln5 lc5,.slice pa5 pn5 pc5]) (λx hx=>load_tree10 (grp_tree hx))) hH ?_
       simp only [sA,sB,sC];refine tkE (i:=2) 43 rfl hH ?_
       apply Exists.intro;apply And.intro
       ·intro w9 _
        go_simp
        first | done | rfl
       simp only [sA,sB,sC];refine tkA (i:=3) 44 (.agg T5) rfl (yieldsIf_load_known (by kernel_rfl) 27 _ rfl (gb) (2) rfl (.agg T5) (λx hx=>by rw [HT5.out]; exact load_times10 (grp_times hx) G5.out.ts)) hH ?_
       simp only [sA,sB,sC];refine tkE (i:=4) 45 rfl hH ?_
       apply Exists.intro;apply And.intro
       ·intro w9 _
        go_simp
        first | done | rfl
       simp only [sA,sB,sC];refine tkA (i:=5) 46 (.slice fad fn fc) rfl (yieldsIf_load_known (by kernel_rfl) 38 _ rfl (gb) (67) rfl (.slice fad fn fc) (λx hx=>load_slA (grp_fresh hx G5.out.ts) (.inr (.inr rfl)))) hH ?_
       simp only [sA,sB,sC];refine wpAnyH_ready (rs:=[6]) (by kernel_rfl) (by simp) ?_
       refine AllReadyH.cons rfl (λK hK=>?_) AllReadyH.nil
       rw [if_pos (by rfl)]
       refine wp_store_row_none 25 _ _ rfl rfl (a0 + 2) #[.slice la5 ln5 lc5,.slice pa5 pn5 pc5] rfl rfl 25 #[.slice none 0 0,.slice none 0 0] XD.out treeInfo rfl (tree_all _ _ _ _ _ _) ?_
       have X6:=setRow_heap wd (a0 + 2) _ #[.slice la5 ln5 lc5,.slice pa5 pn5 pc5] _ _ XD.out;have Y6:=(setRow_other wd (a0 + 2) (a0 + 3) #[.slice la5 ln5 lc5,.slice pa5 pn5 pc5] (by omega)).trans YD.out
       have R6:=(setRow_other wd (a0 + 2) gb #[.slice la5 ln5 lc5,.slice pa5 pn5 pc5] HNX.out.1).trans RD.out;have g6:=grown_setRow wd (a0 + 2) #[.slice la5 ln5 lc5,.slice pa5 pn5 pc5];have M6:=GD.out.mine.aside (b:=a0 + 2) (.inl (by have:=HSZ2.out; omega)) g6
       have F6:=World.ownsRow.kept GD.out.fr g6 (.inr (λe=>by have:=(World.ownsRow.lt GD.out.fr _ e).1; have:=HSZ2.out; omega))
       have K6:=kept_setRow10 (K2.out.onto GD.out.kp) (a0 + 2) (by rw [HA0.out]; omega) #[.slice la5 ln5 lc5,.slice pa5 pn5 pc5]
       generalize wd.setRow (a0 + 2) #[.slice la5 ln5 lc5,.slice pa5 pn5 pc5] = w6 at X6 Y6 R6 M6 F6 K6 |-;have X6:=hid X6;have Y6:=hid Y6;have R6:=hid R6;have M6:=hid M6;have F6:=hid F6;have K6:=hid K6;clear g6;refine hK.out _ _ R6.out (λhH=>?_)
       clear hK K;refine wpAnyH_ready (rs:=[7]) (by kernel_rfl) (by simp) ?_
       refine AllReadyH.cons rfl (λK hK=>?_) AllReadyH.nil
       rw [if_pos (by rfl)]
       refine wp_store_row_none 27 _ _ rfl rfl (a0 + 3) T5 rfl rfl 27 (icells Ap.z64).toArray Y6.out HT5I.out (by rw [HT5S.out]; rfl) HT5A.out ?_
       have Y7:=setRow_heap w6 (a0 + 3) _ T5 _ _ Y6.out;have X7:=(setRow_other w6 (a0 + 3) (a0 + 2) T5 (by omega)).trans X6.out
       have R7:=(setRow_other w6 (a0 + 3) gb T5 HNX.out.2).trans R6.out;have g7:=grown_setRow w6 (a0 + 3) T5;have M7:=M6.out.aside (b:=a0 + 3) (.inl (by have:=HSZ2.out; omega)) g7
       have F7:=World.ownsRow.kept F6.out g7 (.inr (λe=>by have:=(World.ownsRow.lt F6.out _ e).1; have:=HSZ2.out; omega))
       have K7:=kept_setRow10 K6.out (a0 + 3) (by rw [HA0.out]; omega) T5
       generalize w6.setRow (a0 + 3) T5 = w7 at X7 Y7 R7 M7 F7 K7 |-;have X7:=hid X7;have Y7:=hid Y7;have M7:=hid M7;have F7:=hid F7;have K7:=hid K7;clear g7;refine hK.out _ _ R7 (λhH=>?_)
       clear hK K R7;refine tkE (i:=8) 10 rfl hH ?_
       apply Exists.intro;apply And.intro
       ·intro w9 _
        go_simp
        first | done | rfl
       simp only [sA,sB,sC];refine tkE (i:=9) 11 rfl hH ?_
       apply Exists.intro;apply And.intro
       ·intro w9 _
        go_simp
        first | done | rfl
       simp only [sA,sB,sC];refine wpAnyH_done (by kernel_rfl) ?_ _
       refine NoPanic.normal ?_;clear hH;go_wp2;refine bodyPost_ret (results_row4A rfl _ _ (a0 + 2) (a0 + 3) 25 _ (0,0) _ 27 T5 (0,0) _ rfl rfl X7.out Y7.out Tryz.underlying25 rfl treeInfo Tryz.underlying27 rfl HT5I.out) rfl ?_
       rw [HFIN.out];exact⟨_,_,_,by rw [HT5.out]; rfl,K7.out,owns_lower F7.out (Nat.zero_le _),_,M7.out.mono (λq hq=>.inl (Nat.lt_of_lt_of_le hq K2.out.size))⟩
end Go.Proofs.YtinebhdilnndaaaGreatDoor
