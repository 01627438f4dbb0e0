/-
 The statement ChangeApplies: its walk.
-/
import Derived.Test.YtinebhdilnndaaaGreatDoorAC
import Derived.Test.YtinebhdilnndaaaGreatDoorAD
import Derived.Test.YtinebhdilnndaaaGreatDoorTreeSame
import Derived.Test.YtinebhdilnndaaaGreatDoorID
set_option maxRecDepth 100000
set_option maxHeartbeats 6400000
namespace Go.Proofs.YtinebhdilnndaaaGreatDoor
open Go.RowKit Go.Lib
open List renaming setIfInBounds_toArray -> sA, set_cons_zero -> sB, set_cons_succ -> sC
open BigFrame renaming wpList_want -> wQ
theorem Ap.run_small (R:List Pn):∀ (A:List Cg) (s:Gp),Tt.right s.L s.P = true->s.ts.length = 64->(Ap.run R s A).2.ts.length = 64/\((Ap.run R s A).2.L = []/\(Ap.run R s A).2.P = []\/Tt.right (Ap.run R s A).2.L (Ap.run R s A).2.P = true)
 | [],s,h,ht=>⟨ht,.inr h⟩
 | c :: A,s,h,ht=>by
  unfold Ap.run
  by_cases he:Ap.err R s c = 0
  ·rw [if_pos he]
   exact Ap.run_small R A _ (Ap.next_right h he) (by rw [Ap.next_ts]; exact ht)
  ·rw [if_neg he]
   exact⟨rfl,.inl ⟨rfl,rfl⟩⟩
theorem Ap.result_small (R:List Pn)(L:List Lf)(P:List Pr)(ts:List Int)(A:List Cg)(h64:ts.length = 64):(Ap.result R L P ts A).2.ts.length = 64/\(Ap.result R L P ts A).2.L.length<=1000/\(Ap.result R L P ts A).2.P.length<=1000/\∀ p∈(Ap.result R L P ts A).2.P,p.loose.length<=66:=by
 cases hr:Tt.right L P with
 | false=>
  rw [Ap.result_no hr];exact⟨rfl,Nat.zero_le _,Nat.zero_le _,λ_ h=>nomatch h⟩
 | true=>
  rw [Ap.result_yes hr];obtain⟨h1,h2⟩:=Ap.run_small R A ⟨L,P,ts,[]⟩ hr h64;refine⟨h1,?_⟩
  rcases h2 with ⟨e1,e2⟩ | h2
  ·rw [e1,e2]
   exact⟨Nat.zero_le _,Nat.zero_le _,λ_ h=>nomatch h⟩
  ·obtain⟨a1,a2,a3⟩:=Tt.right_parts h2
   exact⟨by omega,by omega,λp hp=>Nat.le_trans (Tt.parents_loose a1 _ 0 a3 p hp) (by decide)⟩
theorem Ap.run_fr (R:List Pn):∀ (A:List Cg) (s:Gp),(Ap.run R s A).2.fr.length<=s.fr.length + A.length
 | [],s=>Nat.le_refl _
 | c :: A,s=>by
  unfold Ap.run
  by_cases he:Ap.err R s c = 0
  ·rw [if_pos he]
   have h1:=Ap.run_fr R A (Ap.next R s c);have h2:=Ap.next_fr R s c;rw [List.length_cons]
   omega
  ·rw [if_neg he]
   exact Nat.zero_le _
theorem Ap.result_fr (R:List Pn)(L:List Lf)(P:List Pr)(ts:List Int)(A:List Cg):(Ap.result R L P ts A).2.fr.length<=A.length:=by
 cases hr:Tt.right L P with
 | false=>rw [Ap.result_no hr]; exact Nat.zero_le _
 | true=>
  rw [Ap.result_yes hr];have:=Ap.run_fr R A ⟨L,P,ts,[]⟩
  simpa using this
theorem changeapplies_walk (lv pv rv av:Value)(L:List Lf)(P:List Pr)(R:List Pn)(A:List Cg)(ts:List Int)(ep:List UInt8)(dp by_:Int)(w:World)(hL:Lvs w lv L)(hP:Pts w pv P)(hR:Pns w rv R)(hA:Cgs w av A)(h64:ts.length = 64)(hep:ep.length = 32)(hT:Tab w):
  Calls Tryz.prog 6 #[.agg (xcells lv pv ts rv ep dp by_).toArray,av] w λe w'=>e = .returned (.bool true)/\Kept w.heap.size w.heap.size w w':=by
 obtain⟨lad,lc,rfl⟩:=hL.shape;obtain⟨pad,pc,rfl⟩:=hP.shape;obtain⟨rad,rc,rfl⟩:=hR.shape;obtain⟨aad,ac,rfl⟩:=hA.shape;have hfew:=λu (kk:Kept w.heap.size w.heap.size w u)=>few_calls10 _ _ _ L P R ts ep dp by_ u (hL.kept kk) (hP.kept kk) (hR.kept kk) h64 hep
 have happ:=λu (kk:Kept w.heap.size w.heap.size w u) h1 h2 h3 h4 h5 h6=>apply_calls10 _ _ _ _ L P ts R A u (hL.kept kk) (hP.kept kk) (hR.kept kk) (hA.kept kk) h1 h2 h3 h64 h4 h5 h6
 have hrap:=λu (kk:Kept w.heap.size w.heap.size w u) h1 h2 h3 h4 h5 h6=>refapply_calls10 _ _ _ _ L P ts R A u (hL.kept kk) (hP.kept kk) (hR.kept kk) (hA.kept kk) h1 h2 h3 h64 h4 h5 h6
 obtain⟨ln,hln⟩:∃ q,q = L.length:=⟨_,rfl⟩;obtain⟨pn,hpn⟩:∃ q,q = P.length:=⟨_,rfl⟩;obtain⟨rn,hrn⟩:∃ q,q = R.length:=⟨_,rfl⟩;obtain⟨an,han⟩:∃ q,q = A.length:=⟨_,rfl⟩;have hlen:=Ap.result_small R L P ts A h64;have hfr:=Ap.result_fr R L P ts A;rw [<- hln,<- hpn,<- hrn] at hfew;rw [<- hln,<- hpn,<- hrn,<- han] at happ hrap;rw [<- hln,<- hpn,<- hrn,<- han];obtain⟨XD,hXD⟩:∃ D,D = (xcells (.slice lad ln lc) (.slice pad pn pc) ts (.slice rad rn rc) ep dp by_).toArray:=⟨_,rfl⟩
 rw [<- hXD] at hfew |-;obtain⟨TD,hTD⟩:∃ D,D = (icells ts).toArray:=⟨_,rfl⟩;rw [<- hTD] at happ hrap;obtain⟨fb,hfb⟩:∃ q,q = fewB L P R:=⟨_,rfl⟩;rw [<- hfb] at hfew;obtain⟨er,her⟩:∃ q,q = (Ap.result R L P ts A).1:=⟨_,rfl⟩;obtain⟨RT,hRT⟩:∃ q,q = (icells (Ap.result R L P ts A).2.ts).toArray:=⟨_,rfl⟩;rw [<- her,<- hRT] at happ hrap;have HEQT:=hid (λu=>(by rw [hRT]; exact times_equalIn u _ hlen.1:(Op.equalIn 10000 27 (.agg RT) (.agg RT)).run Tryz.prog u = .ok true u))
 have HRTS:=hid (show RT.size = 64 by rw [hRT]; simp [icells_length,hlen.1])
 have HRTI:=hid (timesInfo HRTS.out);have HRTA:=hid (show RT.all (·.oneCell') = true by rw [hRT]; exact icells_all _)
 have HLEN:=hid hlen;have HFRL:=hid hfr;generalize (Ap.result R L P ts A).2 = res at HLEN HFRL happ hrap;have HFEW:=hid hfew;have HAPP:=hid happ;have HRAP:=hid hrap;have HXD:=hid hXD;have HTD:=hid hTD;have H64:=hid h64;have HFB:=hid hfb;have HLN:=hid (show ln = L.length/\pn = P.length/\rn = R.length/\an = A.length from⟨hln,hpn,hrn,han⟩);have HAW:=hid (λ(u:World) (kk:Kept w.heap.size w.heap.size w u)=>change_awake u (hT.kept kk hT.lt hT.lt))
 have HXI:=hid (show(Tryz.prog.info? 32).map (·.size) = some XD.size by rw [hXD,List.size_toArray,xcells_length _ _ h64 _ hep]; kernel_rfl)
 have k1:Kept w.heap.size w.heap.size w (w.alloc (.cells XD 32)):=(Kept.refl _ _ _).alloc (Nat.le_refl _) _
 have r1:=heap_new w (.cells XD 32)
 clear hlen hfr hfew happ hrap hXD hTD hfb her hRT h64 hep hL hP hR hA hln hpn hrn han
 go_enter Tryz.func6,Tryz.ntmps6
 go_upto_region 1 with fail
 generalize w.alloc (.cells XD 32) = w1 at k1 r1 |-
 obtain⟨xb,hxb⟩:∃ n,n = w.heap.size:=⟨_,rfl⟩;rw [<- hxb] at r1
 (try rw [<- hxb])
 have K1:=hid k1;have R1:=hid r1;have C1:=hid (λ(x:World) (kk:Kp w1 x)=>(by have h:=row_kept R1.out kk; rw [HXD.out] at h; exact h:x.heap[xb]? = some (.cells (xcells (.slice lad ln lc) (.slice pad pn pc) ts (.slice rad rn rc) ep dp by_).toArray 32 (0,0))))
 clear hxb k1 r1
 by_cases hf:fb = true
 ·subst hf
  obtain⟨hf1,hf2,hf3,hf4,hf5⟩:=few_iff.1 HFB.out.symm;have HSM:=hid (show ln<=1000/\pn<=1000/\(∀ p∈P,p.loose.length<=1000)/\rn<=1000/\(∀ p∈R,p.cards.length<=1000) from⟨by have:=HLN.out.1; omega,by have:=HLN.out.2.1; omega,λp hp=>Nat.le_trans (hf4 p hp) (by decide),by have:=HLN.out.2.2.1; omega,λp hp=>Nat.le_trans (hf5 p hp) (by decide)⟩)
  clear hf1 hf2 hf3 hf4 hf5
  by_cases ha:an<=70
  ·have ha1:¬ (an:Int) > 70:=by omega
   have HANL:=hid (show A.length<=1000 by have:=HLN.out.2.2.2; omega)
   have HAN:=hid (show an<=1000 by omega)
   clear ha
   as_aux_lemma=>
    go_upto_region 1 with fail
    refine wp_region_lit ?_;refine wLk 32 (.tmp 2) rfl (xb) (0) rfl (.agg XD) (run_loadVar_row w1 xb 32 32 _ (0,0) _ R1.out Tryz.underlying32 rfl HXI.out) ?_
    simp only [Act.put,sA,sB,sC];refine wW λK hK=>?_;go_simp;go_at_call 8
    refine(HFEW.out _ K1.out).mono ?_;rintro e w2 ⟨rfl,k2⟩;have K2:=hid (K1.out.onto k2);have K12:=hid k2;clear k2;apply hK;clear hK K;iterate 6 (refine wW λK hK=>?_;go_simp;apply hK;clear hK K)
    go_upto_region 3 with fail
    have cx:=C1.out w2 K12.out;refine wp_region_lit ?_;refine wW λK hK=>?_;go_simp;apply hK;clear hK K;refine wLk 25 (.tmp 23) rfl (xb) (0) rfl (.agg #[.slice lad ln lc,.slice pad pn pc]) (load_tree10 (x_range cx)) ?_
    simp only [Act.put,sA,sB,sC];refine wW λK hK=>?_;go_simp;apply hK;clear hK K;refine @wpList_load_known _ _ _ _ _ _ _ ?_ 27 (.tmp 25) rfl (xb) (2) rfl (.agg TD) (by rw [HTD.out]; exact load_times10 (x_times cx) H64.out) ?_;kernel_rfl
    simp only [Act.put,sA,sB,sC];refine wW λK hK=>?_;go_simp;apply hK;clear hK K;refine wLk 28 (.tmp 27) rfl (xb) (66) rfl (.slice rad rn rc) (load_slA (x_roll cx H64.out) (.inl rfl)) ?_
    simp only [Act.put,sA,sB,sC];refine wW λK hK=>?_;go_simp;apply hK;clear hK K;refine wW λK hK=>?_;go_simp;go_at_call 10
    refine(HAPP.out _ K2.out HSM.out.1 HSM.out.2.1 HSM.out.2.2.1 HSM.out.2.2.2.1 HSM.out.2.2.2.2 HAN.out).mono ?_;rintro e wc5 ⟨lv5,pv5,fv5,rfl,kc5,fr5,SL5,m5⟩;obtain⟨la5,ln5,lc5,rfl⟩:=ownc_slice m5.lo;obtain⟨pa5,pn5,pc5,rfl⟩:=ownc_slice m5.po;obtain⟨fa5,fn5,fc5,rfl⟩:=one_slice fr5;apply hK;clear hK K;iterate 5 (refine wW λK hK=>?_;go_simp;apply hK;clear hK K)
    refine @wpL_alloc _ _ _ _ _ _ _ _ ?_ 25 rfl _ (alloc_tree _) ?_;kernel_rfl
    simp only [Act.put,sA,sB,sC];refine @wpL_alloc _ _ _ _ _ _ _ _ ?_ 27 rfl _ (alloc_times _) ?_;kernel_rfl
    simp only [Act.put,sA,sB,sC];have hz:(wc5.alloc (.cells #[.slice none 0 0,.slice none 0 0] 25)).heap.size = wc5.heap.size + 1:=by simp
    have ky:=(kA wc5 (.cells #[.slice none 0 0,.slice none 0 0] 25)).alloc (by simp) (.cells (icells Ap.z64).toArray 27)
    have ry:=heap_new (wc5.alloc (.cells #[.slice none 0 0,.slice none 0 0] 25)) (.cells (icells Ap.z64).toArray 27)
    have rx:((wc5.alloc (.cells #[.slice none 0 0,.slice none 0 0] 25)).alloc (.cells (icells Ap.z64).toArray 27)).heap[wc5.heap.size]? = some (.cells #[.slice none 0 0,.slice none 0 0] 25 (0,0)):=by
     rw [heap_alloc_old _ _ (by rw [hz]; omega)]; exact heap_new _ _
    rw [hz] at ry
    (try rw [hz])
    generalize (wc5.alloc (.cells #[.slice none 0 0,.slice none 0 0] 25)).alloc (.cells (icells Ap.z64).toArray 27) = wy at ky rx ry |-
    obtain⟨tb5,htb5⟩:∃ q,q = wc5.heap.size:=⟨_,rfl⟩;obtain⟨sb5,hsb5⟩:∃ q,q = wc5.heap.size + 1:=⟨_,rfl⟩;rw [<- hsb5] at ry
    (try rw [<- hsb5])
    rw [<- htb5] at rx
    (try rw [<- htb5])
    have hne:tb5≠sb5:=by omega
    have ks:=kept_setRow10 (kept_setRow10 ky tb5 (by omega) #[.slice la5 ln5 lc5,.slice pa5 pn5 pc5]) sb5 (by omega) RT
    refine wpList_store_row rfl 25 _ _ rfl tb5 #[.slice la5 ln5 lc5,.slice pa5 pn5 pc5] rfl rfl 25 #[.slice none 0 0,.slice none 0 0] rx treeInfo rfl (tree_all _ _ _ _ _ _) ?_
    simp only [Act.put];have rx2:=setRow_heap wy tb5 _ #[.slice la5 ln5 lc5,.slice pa5 pn5 pc5] _ _ rx;have ry2:=(setRow_other wy tb5 sb5 #[.slice la5 ln5 lc5,.slice pa5 pn5 pc5] hne.symm).trans ry;refine wpList_store_row rfl 27 _ _ rfl sb5 RT rfl rfl 27 (icells Ap.z64).toArray ry2 HRTI.out (by rw [HRTS.out]; rfl) HRTA.out ?_
    simp only [Act.put];have ry3:=setRow_heap (wy.setRow tb5 #[.slice la5 ln5 lc5,.slice pa5 pn5 pc5]) sb5 _ RT _ _ ry2;have rx3:=(setRow_other (wy.setRow tb5 #[.slice la5 ln5 lc5,.slice pa5 pn5 pc5]) sb5 tb5 RT hne).trans rx2;generalize (wy.setRow tb5 #[.slice la5 ln5 lc5,.slice pa5 pn5 pc5]).setRow sb5 RT = w5 at ks rx3 ry3 |-;have K5:=hid (K2.out.onto (kc5.onto ks));have K15:=hid (K12.out.onto (kc5.onto ks));have M5:=hid (m5.kept ks);have F5:=hid (Ints.kept fr5 ks);have TA5:=hid rx3;have TB5:=hid ry3;have KP5:=hid (kc5.onto ks);clear ks rx3 ry3 rx2 ry2 rx ry ky hne htb5 hsb5 m5 fr5 kc5 hz;iterate 2 (refine wW λK hK=>?_;go_simp;apply hK;clear hK K)
    clear cx
    go_upto_region 4 with fail
    have cx:=C1.out w5 K15.out;refine wp_region_lit ?_;refine wW λK hK=>?_;go_simp;apply hK;clear hK K;refine wLk 25 (.tmp 36) rfl (xb) (0) rfl (.agg #[.slice lad ln lc,.slice pad pn pc]) (load_tree10 (x_range cx)) ?_
    simp only [Act.put,sA,sB,sC];refine wW λK hK=>?_;go_simp;apply hK;clear hK K;refine @wpList_load_known _ _ _ _ _ _ _ ?_ 27 (.tmp 38) rfl (xb) (2) rfl (.agg TD) (by rw [HTD.out]; exact load_times10 (x_times cx) H64.out) ?_;kernel_rfl
    simp only [Act.put,sA,sB,sC];refine wW λK hK=>?_;go_simp;apply hK;clear hK K;refine wLk 28 (.tmp 40) rfl (xb) (66) rfl (.slice rad rn rc) (load_slA (x_roll cx H64.out) (.inl rfl)) ?_
    simp only [Act.put,sA,sB,sC];refine wW λK hK=>?_;go_simp;apply hK;clear hK K;refine wW λK hK=>?_;go_simp;go_at_call 14
    refine(HRAP.out _ K5.out HSM.out.1 HSM.out.2.1 HSM.out.2.2.1 HSM.out.2.2.2.1 HSM.out.2.2.2.2 HAN.out).mono ?_;rintro e wc6 ⟨lv6,pv6,fv6,rfl,kc6,fr6,SL6,m6⟩;obtain⟨la6,ln6,lc6,rfl⟩:=ownc_slice m6.lo;obtain⟨pa6,pn6,pc6,rfl⟩:=ownc_slice m6.po;obtain⟨fa6,fn6,fc6,rfl⟩:=one_slice fr6;apply hK;clear hK K;iterate 5 (refine wW λK hK=>?_;go_simp;apply hK;clear hK K)
    refine @wpL_alloc _ _ _ _ _ _ _ _ ?_ 25 rfl _ (alloc_tree _) ?_;kernel_rfl
    simp only [Act.put,sA,sB,sC];refine @wpL_alloc _ _ _ _ _ _ _ _ ?_ 27 rfl _ (alloc_times _) ?_;kernel_rfl
    simp only [Act.put,sA,sB,sC];have hz:(wc6.alloc (.cells #[.slice none 0 0,.slice none 0 0] 25)).heap.size = wc6.heap.size + 1:=by simp
    have ky:=(kA wc6 (.cells #[.slice none 0 0,.slice none 0 0] 25)).alloc (by simp) (.cells (icells Ap.z64).toArray 27)
    have ry:=heap_new (wc6.alloc (.cells #[.slice none 0 0,.slice none 0 0] 25)) (.cells (icells Ap.z64).toArray 27)
    have rx:((wc6.alloc (.cells #[.slice none 0 0,.slice none 0 0] 25)).alloc (.cells (icells Ap.z64).toArray 27)).heap[wc6.heap.size]? = some (.cells #[.slice none 0 0,.slice none 0 0] 25 (0,0)):=by
     rw [heap_alloc_old _ _ (by rw [hz]; omega)]; exact heap_new _ _
    rw [hz] at ry
    (try rw [hz])
    generalize (wc6.alloc (.cells #[.slice none 0 0,.slice none 0 0] 25)).alloc (.cells (icells Ap.z64).toArray 27) = wy at ky rx ry |-
    obtain⟨tb6,htb6⟩:∃ q,q = wc6.heap.size:=⟨_,rfl⟩;obtain⟨sb6,hsb6⟩:∃ q,q = wc6.heap.size + 1:=⟨_,rfl⟩;rw [<- hsb6] at ry
    (try rw [<- hsb6])
    rw [<- htb6] at rx
    (try rw [<- htb6])
    have hne:tb6≠sb6:=by omega
    have ks:=kept_setRow10 (kept_setRow10 ky tb6 (by omega) #[.slice la6 ln6 lc6,.slice pa6 pn6 pc6]) sb6 (by omega) RT
    refine wpList_store_row rfl 25 _ _ rfl tb6 #[.slice la6 ln6 lc6,.slice pa6 pn6 pc6] rfl rfl 25 #[.slice none 0 0,.slice none 0 0] rx treeInfo rfl (tree_all _ _ _ _ _ _) ?_
    simp only [Act.put];have rx2:=setRow_heap wy tb6 _ #[.slice la6 ln6 lc6,.slice pa6 pn6 pc6] _ _ rx;have ry2:=(setRow_other wy tb6 sb6 #[.slice la6 ln6 lc6,.slice pa6 pn6 pc6] hne.symm).trans ry;refine wpList_store_row rfl 27 _ _ rfl sb6 RT rfl rfl 27 (icells Ap.z64).toArray ry2 HRTI.out (by rw [HRTS.out]; rfl) HRTA.out ?_
    simp only [Act.put];have ry3:=setRow_heap (wy.setRow tb6 #[.slice la6 ln6 lc6,.slice pa6 pn6 pc6]) sb6 _ RT _ _ ry2;have rx3:=(setRow_other (wy.setRow tb6 #[.slice la6 ln6 lc6,.slice pa6 pn6 pc6]) sb6 tb6 RT hne).trans rx2;generalize (wy.setRow tb6 #[.slice la6 ln6 lc6,.slice pa6 pn6 pc6]).setRow sb6 RT = w6 at ks rx3 ry3 |-;have K6:=hid (K5.out.onto (kc6.onto ks));have K16:=hid (K15.out.onto (kc6.onto ks));have M6:=hid (m6.kept ks);have F6:=hid (Ints.kept fr6 ks);have TA6:=hid rx3;have TB6:=hid ry3;have KP6:=hid (kc6.onto ks);clear ks rx3 ry3 rx2 ry2 rx ry ky hne htb6 hsb6 m6 fr6 kc6 hz;iterate 2 (refine wW λK hK=>?_;go_simp;apply hK;clear hK K)
    clear cx;have TA5:=hid (row_kept TA5.out KP6.out);have TB5:=hid (row_kept TB5.out KP6.out);have M5:=hid (M5.out.kept KP6.out);have F5:=hid (Ints.kept F5.out KP6.out)
    go_upto_region 5 with fail
    have hee:(er == er) = true:=by simp
    refine wp_region_lit ?_;refine wW λK hK=>?_;go_simp;go_at_call 7
    refine(HAW.out _ K6.out).mono ?_;rintro e w7 ⟨rfl,k7⟩;have KQ:=hid k7;clear k7;apply hK;clear hK K;iterate 6 (refine wW λK hK=>?_;go_simp;apply hK;clear hK K)
    refine wLk 25 (.tmp 5) rfl (tb5) (0) rfl (.agg #[.slice la5 ln5 lc5,.slice pa5 pn5 pc5]) (run_loadVar_row _ tb5 25 25 _ (0,0) _ (row_kept TA5.out KQ.out) Tryz.underlying25 rfl treeInfo) ?_
    simp only [Act.put,sA,sB,sC];refine wLk 25 (.tmp 9) rfl (tb6) (0) rfl (.agg #[.slice la6 ln6 lc6,.slice pa6 pn6 pc6]) (run_loadVar_row _ tb6 25 25 _ (0,0) _ (row_kept TA6.out KQ.out) Tryz.underlying25 rfl treeInfo) ?_
    simp only [Act.put,sA,sB,sC];refine wW λK hK=>?_;go_simp;go_at_call 15
    refine(treesame_calls _ _ _ _ _ _ res.L res.P _ _ _ (M5.out.kept KQ.out) (M6.out.kept KQ.out) HLEN.out.2.1 HLEN.out.2.2.1 HLEN.out.2.2.2).mono ?_;rintro e w8 ⟨rfl,k8⟩;have KQ2:=hid (KQ.out.onto k8);clear k8;apply hK;clear hK K;iterate 2 (refine wW λK hK=>?_;go_simp;apply hK;clear hK K)
    refine wLk 27 (.tmp 6) rfl (sb5) (0) rfl (.agg RT) (run_loadVar_row _ sb5 27 27 _ (0,0) _ (row_kept TB5.out KQ2.out) Tryz.underlying27 rfl HRTI.out) ?_
    simp only [Act.put,sA,sB,sC];refine wLk 27 (.tmp 10) rfl (sb6) (0) rfl (.agg RT) (run_loadVar_row _ sb6 27 27 _ (0,0) _ (row_kept TB6.out KQ2.out) Tryz.underlying27 rfl HRTI.out) ?_
    simp only [Act.put,sA,sB,sC];refine @wpL_eql _ _ _ _ _ _ _ ?_ _ _ _ _ rfl (RT) (RT) rfl rfl timesGuard (true) (HEQT.out _) ?_;kernel_rfl;simp only [Act.put,sA,sB,sC];iterate 4 (refine wW λK hK=>?_;go_simp;apply hK;clear hK K)
    refine wW λK hK=>?_;go_simp;go_at_call 16
    refine(same_longA _ _ 0 0 res.fr res.fr _ (Ints.kept F5.out KQ2.out) (Ints.kept F6.out KQ2.out) (by have:=HFRL.out; have:=HANL.out; omega)).mono ?_
    rintro e w9 ⟨rfl,k9⟩;have KQ3:=hid (KQ2.out.onto k9);clear k9;apply hK;clear hK K;iterate 2 (refine wW λK hK=>?_;go_simp;apply hK;clear hK K)
    go_wp2;go_ret;exact⟨rfl,K6.out.onto KQ3.out⟩
  ·have ha1:(an:Int) > 70:=by omega
   clear ha
   as_aux_lemma=>
    go_upto_region 1 with fail
    refine wp_region_lit ?_;refine wLk 32 (.tmp 2) rfl (xb) (0) rfl (.agg XD) (run_loadVar_row w1 xb 32 32 _ (0,0) _ R1.out Tryz.underlying32 rfl HXI.out) ?_
    simp only [Act.put,sA,sB,sC];refine wW λK hK=>?_;go_simp;go_at_call 8
    refine(HFEW.out _ K1.out).mono ?_;rintro e w2 ⟨rfl,k2⟩;have K2:=hid (K1.out.onto k2);have K12:=hid k2;clear k2;apply hK;clear hK K;iterate 6 (refine wW λK hK=>?_;go_simp;apply hK;clear hK K)
    go_upto_region 2 with fail
    refine wp_region_lit ?_;refine wW λK hK=>?_;go_simp;go_at_call 7
    refine(HAW.out _ K2.out).mono ?_;rintro e w3 ⟨rfl,k3⟩;apply hK;clear hK K;refine wW λK hK=>?_;go_simp;apply hK;clear hK K;go_wp2;go_ret;exact⟨rfl,K2.out.onto k3⟩
 ·have hf0:fb = false:=by simpa using hf
  subst hf0;clear hf
  as_aux_lemma=>
   go_upto_region 1 with fail
   refine wp_region_lit ?_;refine wLk 32 (.tmp 2) rfl (xb) (0) rfl (.agg XD) (run_loadVar_row w1 xb 32 32 _ (0,0) _ R1.out Tryz.underlying32 rfl HXI.out) ?_
   simp only [Act.put,sA,sB,sC];refine wW λK hK=>?_;go_simp;go_at_call 8
   refine(HFEW.out _ K1.out).mono ?_;rintro e w2 ⟨rfl,k2⟩;have K2:=hid (K1.out.onto k2);have K12:=hid k2;clear k2;apply hK;clear hK K;iterate 2 (refine wW λK hK=>?_;go_simp;apply hK;clear hK K)
   (iterate 3 (refine @wpList_skip _ _ _ _ _ _ _ ?_ ?_;kernel_rfl;simp only [Act.put,sA,sB,sC]));refine wW λK hK=>?_;go_simp;apply hK;clear hK K
   go_upto_region 2 with fail
   refine wp_region_lit ?_;refine wW λK hK=>?_;go_simp;go_at_call 7
   refine(HAW.out _ K2.out).mono ?_;rintro e w3 ⟨rfl,k3⟩;apply hK;clear hK K;refine wW λK hK=>?_;go_simp;apply hK;clear hK K;go_wp2;go_ret;exact⟨rfl,K2.out.onto k3⟩
end Go.Proofs.YtinebhdilnndaaaGreatDoor
