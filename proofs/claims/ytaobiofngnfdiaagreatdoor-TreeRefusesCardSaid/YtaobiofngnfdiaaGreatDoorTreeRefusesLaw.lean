/-
 The law TreeRefuses.
-/
import Derived.Test.YtaobiofngnfdiaaGreatDoorHN
import Derived.Test.YtaobiofngnfdiaaGreatDoorTreeFew
set_option maxRecDepth 100000
set_option maxHeartbeats 6400000
namespace Go.Proofs.YtaobiofngnfdiaaGreatDoor
open Go.RowKit Go.Lib
open List renaming setIfInBounds_toArray → sA, set_cons_zero → sB, set_cons_succ → sC
open BigFrame renaming wpList_want → wQ
theorem few_sizesX {L:List Lf}{P:List Pr}(h:Tt.few L P = true):L.length≤1000∧P.length≤1000∧∀ p∈P,p.loose.length≤1000:=by
 simp only [Tt.few,Tt.fewp,Bool.and_eq_true,decide_eq_true_eq,List.all_eq_true] at h;exact⟨by omega,by omega,fun p hp=>Nat.le_trans (h.2.2 p hp) (by decide)⟩
theorem leafPub {w:World}{b:Nat}{l:Lf}{t:TypeId}(h:w.heap[b]? = some (.cells l.cells.toArray t (0,0))):w.rangeAt b 1 (bcells l.pub):=fun j v hj=>by
 rw [cell_of_row w b (1 + j) _ _ _ h,List.getElem?_toArray,Lf.cells,Nat.add_comm,List.getElem?_cons_succ,List.getElem?_append_left (List.getElem?_eq_some_iff.1 hj).1];exact hj
theorem treerefuses_walk (lv pv:Value)(L:List Lf)(P:List Pr)(l:Lf)(hlo:l.Ok)(x:Int)(kv:Value)(ks:List (List UInt8))(w:World)(hL:Lvs w lv L)(hP:Pts w pv P)(hK:Hs w kv ks)(ht:Tab w):
  Calls Tryz.prog 4 #[.agg #[lv,pv],.agg l.cells.toArray,.int .i64 x,kv] w fun e w'=>e = .returned (.bool true)∧Kept w.heap.size w.heap.size w w':=by
 have ka:=kA w (.cells #[lv,pv] 27)
 have ta:=heap_new w (.cells #[lv,pv] 27)
 have sa:(w.alloc (.cells #[lv,pv] 27)).heap.size = w.heap.size + 1:=by simp
 have hL1:=hL.kept ka;have hP1:=hP.kept ka;have hK1:=hK.kept ka;have ht1:=ht.ontoP ka;obtain⟨lad,lc,rfl⟩:=hL.shape;obtain⟨pad,pc,rfl⟩:=hP.shape;obtain⟨_,kad,_,_,kc,rfl,_⟩:=hK;obtain⟨fw,hfw⟩:∃ fw,fw = Tt.few L P:=⟨_,rfl⟩;obtain⟨rt,hrt⟩:∃ rt,rt = Tt.right L P:=⟨_,rfl⟩;have hsz:=fun h:fw = true=>few_sizesX (L:=L) (P:=P) (hfw ▸ h)
 have hr:=fun h:rt = true=>(show Tt.right L P = true from hrt ▸ h)
 obtain⟨D,hD⟩:∃ D,D = l.cells.toArray:=⟨_,rfl⟩;have HINF:=hid (show(Tryz.prog.info? 37).map (·.size) = some D.size by rw [hD]; exact leafInfo (Lf.size hlo))
 have HDE:=hid hD;obtain⟨DP,hDP⟩:∃ DP,DP = (bcells l.pub).toArray:=⟨_,rfl⟩;have HDP:=hid hDP;have HPI:=hid (show(Tryz.prog.info? 35).map (·.size) = some (bcells l.pub).length by exact hashInfoT (by rw [bcells_length,hlo.1]))
 obtain⟨ln,hln⟩:∃ ln,ln = L.length:=⟨_,rfl⟩;obtain⟨pn,hpn⟩:∃ pn,pn = P.length:=⟨_,rfl⟩;obtain⟨kn,hkn⟩:∃ kn,kn = ks.length:=⟨_,rfl⟩;rw [← hln,← hpn] at ka ta sa hL1 hP1;rw [← hln,← hpn] at hK1 ht1 ⊢;rw [← hkn] at hK1 ⊢;rw [← hD];clear hln hpn hD hDP
 go_enter Tryz.func4,Tryz.ntmps4
 go_upto_region 1 with fail
 generalize w.alloc (.cells #[.slice lad ln lc,.slice pad pn pc] 27) = wa at ka ta sa hL1 hP1 hK1 ht1 ⊢
 have kb:=kA wa (.cells D 37)
 have eb:=heap_new wa (.cells D 37)
 have tb0:=rk ta kb;have hL2:=hL1.kept kb;have hP2:=hP1.kept kb;have hK2:=hK1.kept kb;have ht2:=ht1.ontoP kb;generalize wa.alloc (.cells D 37) = w1 at kb eb tb0 hL2 hP2 hK2 ht2 ⊢
 rw [sa] at eb
 (try rw [sa])
 obtain⟨tb,htb⟩:∃ tb,tb = w.heap.size:=⟨_,rfl⟩;obtain⟨lb,hlb⟩:∃ lb,lb = w.heap.size + 1:=⟨_,rfl⟩;rw [← hlb] at eb
 (try rw [← hlb])
 rw [← htb] at tb0
 (try rw [← htb])
 have K1:=hid (ka.next1 kb);have T1:=hid tb0;have E1:=hid eb;have HLE:=hid (fun(x:World) (k:Kept w1.heap.size w1.heap.size w1 x)=>run_loadVar_row x lb 37 37 _ (0,0) _ (row_kept E1.out k) Tryz.underlying37 rfl HINF.out)
 have HLE2:=hid (fun(x:World) (k:Kept w1.heap.size w1.heap.size w1 x)=>run_loadVar_mid x lb 1 35 (bcells l.pub) _ (leafPub (by rw [← HDE.out]; exact row_kept E1.out k)) Tryz.underlying35 rfl HPI.out)
 rw [← HDP.out] at HLE2;have HLV:=hid hL2;have HPV:=hid hP2;have HKV:=hid hK2;have HTV:=hid ht2;clear hL hP ht hL1 hP1 hK1 ht1 hL2 hP2 hK2 ht2 ka ta sa kb eb tb0 htb hlb;have HLT:=hid (fun(x:World) (k:Kept w1.heap.size w1.heap.size w1 x)=>run_loadVar_row x tb 27 27 _ (0,0) _ (row_kept T1.out k) Tryz.underlying27 rfl treeInfo)
 have HFW:=hid (fun(x:World) (k:Kept w1.heap.size w1.heap.size w1 x)=>few_calls8 _ _ L P x (HLV.out.kept k) (HPV.out.kept k))
 rw [← hfw] at HFW;have HAW:=hid (fun x=>awake_calls8 x)
 have HRF:=hid (fun(hf:fw = true) (x:World) (k:Kept w1.heap.size w1.heap.size w1 x)=>refright_calls8 _ _ L P x (HLV.out.kept k) (HPV.out.kept k) (hsz hf).2.2)
 rw [← hrt] at HRF;have HA:=hid (fun(hf:fw = true) (u:World) (k:Kept w1.heap.size w1.heap.size w1 u)=>add_errs _ _ L P u (HLV.out.kept k) (HPV.out.kept k) (hsz hf).1 (hsz hf).2.1 (hsz hf).2.2 l hlo)
 have HB:=hid (fun(hf:fw = true) (u:World) (k:Kept w1.heap.size w1.heap.size w1 u)=>renew_errs _ _ L P u (HLV.out.kept k) (HPV.out.kept k) (hsz hf).1 (hsz hf).2.1 (hsz hf).2.2 x l.pub hlo.1)
 have HC:=hid (fun(hf:fw = true) (u:World) (k:Kept w1.heap.size w1.heap.size w1 u)=>remove_errs _ _ L P u (HLV.out.kept k) (HPV.out.kept k) (hsz hf).1 (hsz hf).2.1 (hsz hf).2.2 x)
 have HD:=hid (fun(hf:fw = true) (u:World) (k:Kept w1.heap.size w1.heap.size w1 u)=>path_errs _ _ L P u (HLV.out.kept k) (HPV.out.kept k) (hsz hf).1 (hsz hf).2.1 (hsz hf).2.2 x l.pub hlo.1 _ ks (HKV.out.kept k) (HTV.out.ontoP k))
 have XA:=hid (fun(hf:fw = true) (h:rt = true) (u:World) (k:Kept w1.heap.size w1.heap.size w1 u)=>refadd_errs _ _ L P u (HLV.out.kept k) (HPV.out.kept k) (hsz hf).2.2 l hlo (hr h))
 have XB:=hid (fun(hf:fw = true) (h:rt = true) (u:World) (k:Kept w1.heap.size w1.heap.size w1 u)=>refrenew_errs _ _ L P u (HLV.out.kept k) (HPV.out.kept k) (hsz hf).2.2 x l.pub hlo.1 (hr h))
 have XC:=hid (fun(hf:fw = true) (h:rt = true) (u:World) (k:Kept w1.heap.size w1.heap.size w1 u)=>refremove_errs _ _ L P u (HLV.out.kept k) (HPV.out.kept k) (hsz hf).2.2 x (hr h))
 have XD:=hid (fun(hf:fw = true) (h:rt = true) (u:World) (k:Kept w1.heap.size w1.heap.size w1 u)=>refpath_errs _ _ L P u (HLV.out.kept k) (HPV.out.kept k) (hsz hf).2.2 x l.pub hlo.1 _ ks (HKV.out.kept k) (hr h))
 rw [← HDE.out] at HA XA;rw [← HDP.out] at HB XB HD XD;rw [← hkn] at HD XD;obtain⟨ea,hea⟩:∃ e,e = Tt.eAdd L P l.name:=⟨_,rfl⟩;obtain⟨eb,heb⟩:∃ e,e = Tt.eNone L P x:=⟨_,rfl⟩;obtain⟨ed,hed⟩:∃ e,e = Tt.ePath L P x kn:=⟨_,rfl⟩
 have HE:=hid (show rt = false→ea = 1∧eb = 1∧ed = 1 from fun h=>by
  have h2:¬ Tt.right L P = true:=by rw [← hrt,h]; decide
  rw [hea,heb,hed];unfold Tt.eAdd Tt.eNone Tt.ePath;rw [if_neg h2,if_neg h2,if_neg h2]
  exact⟨rfl,rfl,rfl⟩)
 rw [← hea] at HA XA;rw [← heb] at HB XB HC XC;rw [← hed] at HD XD;clear hfw hrt hsz hr hea heb hed HLV HPV HTV HKV hlo hkn
 cases fw with
 | false=>
  refine wp_region_lit ?_;refine @wQ _ _ _ _ _ _ _ ?_ ?_;kernel_rfl;intro K hK;go_simp;go_at_call 7
  refine(HAW.out _).mono ?_;rintro e w2 ⟨rfl,k2⟩;have K2:=hid k2;clear k2;refine hK _ _ ?_;clear hK K;iterate 2 (refine @wQ _ _ _ _ _ _ _ ?_ ?_;kernel_rfl;intro K hK;go_simp;refine hK _ _ ?_;clear hK K)
  refine @wpList_load_known _ _ _ _ _ _ _ ?_ 27 (.tmp 4) rfl (tb) (0) rfl (.agg #[.slice lad ln lc,.slice pad pn pc]) (HLT.out w2 K2.out) ?_;kernel_rfl
  simp only [Act.put,sA,sB,sC];refine @wQ _ _ _ _ _ _ _ ?_ ?_;kernel_rfl;intro K hK;go_simp;go_at_call 10
  refine(HFW.out w2 K2.out).mono ?_;rintro e w3 ⟨rfl,k3⟩;have K3:=hid (K2.out.next1 k3);clear k3;refine hK _ _ ?_;clear hK K;iterate 3 (refine @wQ _ _ _ _ _ _ _ ?_ ?_;kernel_rfl;intro K hK;go_simp;refine hK _ _ ?_;clear hK K)
  refine @wpList_skip _ _ _ _ _ _ _ ?_ ?_;kernel_rfl;simp only [Act.put,sA,sB,sC];refine @wpList_skip _ _ _ _ _ _ _ ?_ ?_;kernel_rfl;simp only [Act.put,sA,sB,sC];refine @wpList_skip _ _ _ _ _ _ _ ?_ ?_;kernel_rfl;simp only [Act.put,sA,sB,sC];refine @wQ _ _ _ _ _ _ _ ?_ ?_;kernel_rfl;intro K hK;go_simp;refine hK _ _ ?_;clear hK K
  go_upto_region 2 with fail
  refine wp_region_lit ?_;refine @wQ _ _ _ _ _ _ _ ?_ ?_;kernel_rfl;intro K hK;go_simp;go_at_call 7
  refine(HAW.out _).mono ?_;rintro e w4 ⟨rfl,k4⟩;have K4:=hid (K3.out.next1 k4);clear k4;refine hK _ _ ?_;clear hK K;refine @wQ _ _ _ _ _ _ _ ?_ ?_;kernel_rfl;intro K hK;go_simp;refine hK _ _ ?_;clear hK K;go_wp2;go_ret;exact⟨rfl,K1.out.next1 K4.out⟩
 | true=>
  have HR2:=hid (HRF.out rfl);have HA2:=hid (HA.out rfl);have HB2:=hid (HB.out rfl);have HC2:=hid (HC.out rfl);have HD2:=hid (HD.out rfl);clear HRF HA HB HC HD
  by_cases hgt:(kn:Int) > 100
  ·have hg:decide ((kn:Int) > 100) = true:=decide_eq_true hgt
   clear hgt;refine wp_region_lit ?_;refine @wQ _ _ _ _ _ _ _ ?_ ?_;kernel_rfl;intro K hK;go_simp;go_at_call 7
   refine(HAW.out _).mono ?_;rintro e w2 ⟨rfl,k2⟩;have K2:=hid k2;clear k2;refine hK _ _ ?_;clear hK K;iterate 2 (refine @wQ _ _ _ _ _ _ _ ?_ ?_;kernel_rfl;intro K hK;go_simp;refine hK _ _ ?_;clear hK K)
   refine @wpList_load_known _ _ _ _ _ _ _ ?_ 27 (.tmp 4) rfl (tb) (0) rfl (.agg #[.slice lad ln lc,.slice pad pn pc]) (HLT.out w2 K2.out) ?_;kernel_rfl
   simp only [Act.put,sA,sB,sC];refine @wQ _ _ _ _ _ _ _ ?_ ?_;kernel_rfl;intro K hK;go_simp;go_at_call 10
   refine(HFW.out w2 K2.out).mono ?_;rintro e w3 ⟨rfl,k3⟩;have K3:=hid (K2.out.next1 k3);clear k3;refine hK _ _ ?_;clear hK K;iterate 7 (refine @wQ _ _ _ _ _ _ _ ?_ ?_;kernel_rfl;intro K hK;go_simp;refine hK _ _ ?_;clear hK K)
   go_upto_region 2 with fail
   refine wp_region_lit ?_;refine @wQ _ _ _ _ _ _ _ ?_ ?_;kernel_rfl;intro K hK;go_simp;go_at_call 7
   refine(HAW.out _).mono ?_;rintro e w4 ⟨rfl,k4⟩;have K4:=hid (K3.out.next1 k4);clear k4;refine hK _ _ ?_;clear hK K;refine @wQ _ _ _ _ _ _ _ ?_ ?_;kernel_rfl;intro K hK;go_simp;refine hK _ _ ?_;clear hK K;go_wp2;go_ret;exact⟨rfl,K1.out.next1 K4.out⟩
  ·have hg:decide ((kn:Int) > 100) = false:=decide_eq_false hgt
   refine wp_region_lit ?_;refine @wQ _ _ _ _ _ _ _ ?_ ?_;kernel_rfl;intro K hK;go_simp;go_at_call 7
   refine(HAW.out _).mono ?_;rintro e w2 ⟨rfl,k2⟩;have K2:=hid k2;clear k2;refine hK _ _ ?_;clear hK K;iterate 2 (refine @wQ _ _ _ _ _ _ _ ?_ ?_;kernel_rfl;intro K hK;go_simp;refine hK _ _ ?_;clear hK K)
   refine @wpList_load_known _ _ _ _ _ _ _ ?_ 27 (.tmp 4) rfl (tb) (0) rfl (.agg #[.slice lad ln lc,.slice pad pn pc]) (HLT.out w2 K2.out) ?_;kernel_rfl
   simp only [Act.put,sA,sB,sC];refine @wQ _ _ _ _ _ _ _ ?_ ?_;kernel_rfl;intro K hK;go_simp;go_at_call 10
   refine(HFW.out w2 K2.out).mono ?_;rintro e w3 ⟨rfl,k3⟩;have K3:=hid (K2.out.next1 k3);clear k3;refine hK _ _ ?_;clear hK K;iterate 7 (refine @wQ _ _ _ _ _ _ _ ?_ ?_;kernel_rfl;intro K hK;go_simp;refine hK _ _ ?_;clear hK K)
   go_upto_region 3 with fail
   refine wp_region_lit ?_;refine @wpList_load_known _ _ _ _ _ _ _ ?_ 27 (.tmp 4) rfl (tb) (0) rfl (.agg #[.slice lad ln lc,.slice pad pn pc]) (HLT.out w3 K3.out) ?_;kernel_rfl
   simp only [Act.put,sA,sB,sC];refine @wpList_load_known _ _ _ _ _ _ _ ?_ 37 (.tmp 5) rfl (lb) (0) rfl (.agg D) (HLE.out w3 K3.out) ?_;kernel_rfl
   simp only [Act.put,sA,sB,sC];refine @wQ _ _ _ _ _ _ _ ?_ ?_;kernel_rfl;intro K hK;go_simp;go_at_call 11
   refine(HA2.out w3 K3.out).mono ?_;rintro e w4 ⟨_,at4,rfl,⟨a4,n4,c4,p4,m4,d4,rfl⟩,k4⟩;have K4:=hid (K3.out.next1 k4);clear k4;refine hK _ _ ?_;clear hK K;iterate 4 (refine @wQ _ _ _ _ _ _ _ ?_ ?_;kernel_rfl;intro K hK;go_simp;refine hK _ _ ?_;clear hK K)
   refine @wpL_alloc _ _ _ _ _ _ _ _ ?_ 27 rfl _ (alloc_tree _) ?_;kernel_rfl
   simp only [Act.put,sA,sB,sC];refine wpList_store_row rfl 27 _ _ rfl (w4.heap.size) #[.slice a4 n4 c4,.slice p4 m4 d4] rfl rfl 27 #[.slice none 0 0,.slice none 0 0] (heap_new _ _) (treeInfo) (rfl) (tree_all _ _ _ _ _ _) ?_
   simp only [Act.put];rw [World.setRow_alloc_new];iterate 2 (refine @wQ _ _ _ _ _ _ _ ?_ ?_;kernel_rfl;intro K hK;go_simp;refine hK _ _ ?_;clear hK K)
   have K5:=hid (K4.out.next1 (kA w4 (.cells #[.slice a4 n4 c4,.slice p4 m4 d4] 27)))
   generalize w4.alloc (.cells #[.slice a4 n4 c4,.slice p4 m4 d4] 27) = w5 at K5 ⊢
   go_upto_region 4 with fail
   refine wp_region_lit ?_;refine @wpList_load_known _ _ _ _ _ _ _ ?_ 27 (.tmp 4) rfl (tb) (0) rfl (.agg #[.slice lad ln lc,.slice pad pn pc]) (HLT.out w5 K5.out) ?_;kernel_rfl
   simp only [Act.put,sA,sB,sC];iterate 2 (refine @wQ _ _ _ _ _ _ _ ?_ ?_;kernel_rfl;intro K hK;go_simp;refine hK _ _ ?_;clear hK K)
   refine @wpList_load_known _ _ _ _ _ _ _ ?_ 35 (.tmp 50) rfl (lb) (1) rfl (.agg DP) (HLE2.out w5 K5.out) ?_;kernel_rfl
   simp only [Act.put,sA,sB,sC];refine @wQ _ _ _ _ _ _ _ ?_ ?_;kernel_rfl;intro K hK;go_simp;go_at_call 12
   refine(HB2.out w5 K5.out).mono ?_;rintro e w6 ⟨_,rfl,⟨a6,n6,c6,p6,m6,d6,rfl⟩,k6⟩;have K6:=hid (K5.out.next1 k6);clear k6;refine hK _ _ ?_;clear hK K;iterate 3 (refine @wQ _ _ _ _ _ _ _ ?_ ?_;kernel_rfl;intro K hK;go_simp;refine hK _ _ ?_;clear hK K)
   refine @wpL_alloc _ _ _ _ _ _ _ _ ?_ 27 rfl _ (alloc_tree _) ?_;kernel_rfl
   simp only [Act.put,sA,sB,sC];refine wpList_store_row rfl 27 _ _ rfl (w6.heap.size) #[.slice a6 n6 c6,.slice p6 m6 d6] rfl rfl 27 #[.slice none 0 0,.slice none 0 0] (heap_new _ _) (treeInfo) (rfl) (tree_all _ _ _ _ _ _) ?_
   simp only [Act.put];rw [World.setRow_alloc_new];refine @wQ _ _ _ _ _ _ _ ?_ ?_;kernel_rfl;intro K hK;go_simp;refine hK _ _ ?_;clear hK K;have K7:=hid (K6.out.next1 (kA w6 (.cells #[.slice a6 n6 c6,.slice p6 m6 d6] 27)))
   generalize w6.alloc (.cells #[.slice a6 n6 c6,.slice p6 m6 d6] 27) = w7 at K7 ⊢
   go_upto_region 5 with fail
   refine wp_region_lit ?_;refine @wpList_load_known _ _ _ _ _ _ _ ?_ 27 (.tmp 4) rfl (tb) (0) rfl (.agg #[.slice lad ln lc,.slice pad pn pc]) (HLT.out w7 K7.out) ?_;kernel_rfl
   simp only [Act.put,sA,sB,sC];refine @wQ _ _ _ _ _ _ _ ?_ ?_;kernel_rfl;intro K hK;go_simp;refine hK _ _ ?_;clear hK K;refine @wQ _ _ _ _ _ _ _ ?_ ?_;kernel_rfl;intro K hK;go_simp;go_at_call 13
   refine(HC2.out w7 K7.out).mono ?_;rintro e w8 ⟨_,rfl,⟨a8,n8,c8,p8,m8,d8,rfl⟩,k8⟩;have K8:=hid (K7.out.next1 k8);clear k8;refine hK _ _ ?_;clear hK K;iterate 3 (refine @wQ _ _ _ _ _ _ _ ?_ ?_;kernel_rfl;intro K hK;go_simp;refine hK _ _ ?_;clear hK K)
   refine @wpL_alloc _ _ _ _ _ _ _ _ ?_ 27 rfl _ (alloc_tree _) ?_;kernel_rfl
   simp only [Act.put,sA,sB,sC];refine wpList_store_row rfl 27 _ _ rfl (w8.heap.size) #[.slice a8 n8 c8,.slice p8 m8 d8] rfl rfl 27 #[.slice none 0 0,.slice none 0 0] (heap_new _ _) (treeInfo) (rfl) (tree_all _ _ _ _ _ _) ?_
   simp only [Act.put];rw [World.setRow_alloc_new];refine @wQ _ _ _ _ _ _ _ ?_ ?_;kernel_rfl;intro K hK;go_simp;refine hK _ _ ?_;clear hK K;have K9:=hid (K8.out.next1 (kA w8 (.cells #[.slice a8 n8 c8,.slice p8 m8 d8] 27)))
   generalize w8.alloc (.cells #[.slice a8 n8 c8,.slice p8 m8 d8] 27) = w9 at K9 ⊢
   go_upto_region 6 with fail
   refine wp_region_lit ?_;refine @wpList_load_known _ _ _ _ _ _ _ ?_ 27 (.tmp 4) rfl (tb) (0) rfl (.agg #[.slice lad ln lc,.slice pad pn pc]) (HLT.out w9 K9.out) ?_;kernel_rfl
   simp only [Act.put,sA,sB,sC];iterate 2 (refine @wQ _ _ _ _ _ _ _ ?_ ?_;kernel_rfl;intro K hK;go_simp;refine hK _ _ ?_;clear hK K)
   refine @wpList_load_known _ _ _ _ _ _ _ ?_ 35 (.tmp 64) rfl (lb) (1) rfl (.agg DP) (HLE2.out w9 K9.out) ?_;kernel_rfl
   simp only [Act.put,sA,sB,sC];refine @wQ _ _ _ _ _ _ _ ?_ ?_;kernel_rfl;intro K hK;go_simp;refine hK _ _ ?_;clear hK K;refine @wQ _ _ _ _ _ _ _ ?_ ?_;kernel_rfl;intro K hK;go_simp;go_at_call 14
   refine(HD2.out w9 K9.out).mono ?_;rintro e w10 ⟨_,rfl,⟨a10,n10,c10,p10,m10,d10,rfl⟩,k10⟩;have K10:=hid (K9.out.next1 k10);clear k10;refine hK _ _ ?_;clear hK K;iterate 3 (refine @wQ _ _ _ _ _ _ _ ?_ ?_;kernel_rfl;intro K hK;go_simp;refine hK _ _ ?_;clear hK K)
   refine @wpL_alloc _ _ _ _ _ _ _ _ ?_ 27 rfl _ (alloc_tree _) ?_;kernel_rfl
   simp only [Act.put,sA,sB,sC];refine wpList_store_row rfl 27 _ _ rfl (w10.heap.size) #[.slice a10 n10 c10,.slice p10 m10 d10] rfl rfl 27 #[.slice none 0 0,.slice none 0 0] (heap_new _ _) (treeInfo) (rfl) (tree_all _ _ _ _ _ _) ?_
   simp only [Act.put];rw [World.setRow_alloc_new];refine @wQ _ _ _ _ _ _ _ ?_ ?_;kernel_rfl;intro K hK;go_simp;refine hK _ _ ?_;clear hK K;have K11:=hid (K10.out.next1 (kA w10 (.cells #[.slice a10 n10 c10,.slice p10 m10 d10] 27)))
   generalize w10.alloc (.cells #[.slice a10 n10 c10,.slice p10 m10 d10] 27) = w11 at K11 ⊢
   go_upto_region 7 with fail
   refine wp_region_lit ?_;refine @wpList_load_known _ _ _ _ _ _ _ ?_ 27 (.tmp 4) rfl (tb) (0) rfl (.agg #[.slice lad ln lc,.slice pad pn pc]) (HLT.out w11 K11.out) ?_;kernel_rfl
   simp only [Act.put,sA,sB,sC];refine @wQ _ _ _ _ _ _ _ ?_ ?_;kernel_rfl;intro K hK;go_simp;go_at_call 15
   refine(HR2.out w11 K11.out).mono ?_;rintro e w12 ⟨rfl,k12⟩;have K12:=hid (K11.out.next1 k12);clear k12;refine hK _ _ ?_;clear hK K;refine @wQ _ _ _ _ _ _ _ ?_ ?_;kernel_rfl;intro K hK;go_simp;refine hK _ _ ?_;clear hK K
   cases rt with
   | false=>
    obtain⟨rfl,rfl,rfl⟩:=HE.out rfl
    go_upto_region 8 with fail
    refine wp_region_lit ?_;iterate 15 (refine @wQ _ _ _ _ _ _ _ ?_ ?_;kernel_rfl;intro K hK;go_simp;refine hK _ _ ?_;clear hK K)
    go_wp2;go_ret;exact⟨rfl,K1.out.next1 K12.out⟩
   | true=>
    have XA2:=hid (XA.out rfl rfl);have XB2:=hid (XB.out rfl rfl);have XC2:=hid (XC.out rfl rfl);have XD2:=hid (XD.out rfl rfl);clear XA XB XC XD
    go_upto_region 9 with fail
    refine wp_region_lit ?_;refine @wpList_load_known _ _ _ _ _ _ _ ?_ 27 (.tmp 4) rfl (tb) (0) rfl (.agg #[.slice lad ln lc,.slice pad pn pc]) (HLT.out w12 K12.out) ?_;kernel_rfl
    simp only [Act.put,sA,sB,sC];refine @wpList_load_known _ _ _ _ _ _ _ ?_ 37 (.tmp 5) rfl (lb) (0) rfl (.agg D) (HLE.out w12 K12.out) ?_;kernel_rfl
    simp only [Act.put,sA,sB,sC];refine @wQ _ _ _ _ _ _ _ ?_ ?_;kernel_rfl;intro K hK;go_simp;go_at_call 16
    refine(XA2.out w12 K12.out).mono ?_;rintro e w13 ⟨_,at13,rfl,⟨a13,n13,c13,p13,m13,d13,rfl⟩,k13⟩;have K13:=hid (K12.out.next1 k13);clear k13;refine hK _ _ ?_;clear hK K;iterate 4 (refine @wQ _ _ _ _ _ _ _ ?_ ?_;kernel_rfl;intro K hK;go_simp;refine hK _ _ ?_;clear hK K)
    refine @wpL_alloc _ _ _ _ _ _ _ _ ?_ 27 rfl _ (alloc_tree _) ?_;kernel_rfl
    simp only [Act.put,sA,sB,sC];refine wpList_store_row rfl 27 _ _ rfl (w13.heap.size) #[.slice a13 n13 c13,.slice p13 m13 d13] rfl rfl 27 #[.slice none 0 0,.slice none 0 0] (heap_new _ _) (treeInfo) (rfl) (tree_all _ _ _ _ _ _) ?_
    simp only [Act.put];rw [World.setRow_alloc_new];iterate 2 (refine @wQ _ _ _ _ _ _ _ ?_ ?_;kernel_rfl;intro K hK;go_simp;refine hK _ _ ?_;clear hK K)
    have K14:=hid (K13.out.next1 (kA w13 (.cells #[.slice a13 n13 c13,.slice p13 m13 d13] 27)))
    generalize w13.alloc (.cells #[.slice a13 n13 c13,.slice p13 m13 d13] 27) = w14 at K14 ⊢
    go_upto_region 10 with fail
    refine wp_region_lit ?_;refine @wpList_load_known _ _ _ _ _ _ _ ?_ 27 (.tmp 4) rfl (tb) (0) rfl (.agg #[.slice lad ln lc,.slice pad pn pc]) (HLT.out w14 K14.out) ?_;kernel_rfl
    simp only [Act.put,sA,sB,sC];iterate 2 (refine @wQ _ _ _ _ _ _ _ ?_ ?_;kernel_rfl;intro K hK;go_simp;refine hK _ _ ?_;clear hK K)
    refine @wpList_load_known _ _ _ _ _ _ _ ?_ 35 (.tmp 97) rfl (lb) (1) rfl (.agg DP) (HLE2.out w14 K14.out) ?_;kernel_rfl
    simp only [Act.put,sA,sB,sC];refine @wQ _ _ _ _ _ _ _ ?_ ?_;kernel_rfl;intro K hK;go_simp;go_at_call 17
    refine(XB2.out w14 K14.out).mono ?_;rintro e w15 ⟨_,rfl,⟨a15,n15,c15,p15,m15,d15,rfl⟩,k15⟩;have K15:=hid (K14.out.next1 k15);clear k15;refine hK _ _ ?_;clear hK K;iterate 3 (refine @wQ _ _ _ _ _ _ _ ?_ ?_;kernel_rfl;intro K hK;go_simp;refine hK _ _ ?_;clear hK K)
    refine @wpL_alloc _ _ _ _ _ _ _ _ ?_ 27 rfl _ (alloc_tree _) ?_;kernel_rfl
    simp only [Act.put,sA,sB,sC];refine wpList_store_row rfl 27 _ _ rfl (w15.heap.size) #[.slice a15 n15 c15,.slice p15 m15 d15] rfl rfl 27 #[.slice none 0 0,.slice none 0 0] (heap_new _ _) (treeInfo) (rfl) (tree_all _ _ _ _ _ _) ?_
    simp only [Act.put];rw [World.setRow_alloc_new];refine @wQ _ _ _ _ _ _ _ ?_ ?_;kernel_rfl;intro K hK;go_simp;refine hK _ _ ?_;clear hK K;have K16:=hid (K15.out.next1 (kA w15 (.cells #[.slice a15 n15 c15,.slice p15 m15 d15] 27)))
    generalize w15.alloc (.cells #[.slice a15 n15 c15,.slice p15 m15 d15] 27) = w16 at K16 ⊢
    go_upto_region 11 with fail
    refine wp_region_lit ?_;refine @wpList_load_known _ _ _ _ _ _ _ ?_ 27 (.tmp 4) rfl (tb) (0) rfl (.agg #[.slice lad ln lc,.slice pad pn pc]) (HLT.out w16 K16.out) ?_;kernel_rfl
    simp only [Act.put,sA,sB,sC];refine @wQ _ _ _ _ _ _ _ ?_ ?_;kernel_rfl;intro K hK;go_simp;refine hK _ _ ?_;clear hK K;refine @wQ _ _ _ _ _ _ _ ?_ ?_;kernel_rfl;intro K hK;go_simp;go_at_call 18
    refine(XC2.out w16 K16.out).mono ?_;rintro e w17 ⟨_,rfl,⟨a17,n17,c17,p17,m17,d17,rfl⟩,k17⟩;have K17:=hid (K16.out.next1 k17);clear k17;refine hK _ _ ?_;clear hK K;iterate 3 (refine @wQ _ _ _ _ _ _ _ ?_ ?_;kernel_rfl;intro K hK;go_simp;refine hK _ _ ?_;clear hK K)
    refine @wpL_alloc _ _ _ _ _ _ _ _ ?_ 27 rfl _ (alloc_tree _) ?_;kernel_rfl
    simp only [Act.put,sA,sB,sC];refine wpList_store_row rfl 27 _ _ rfl (w17.heap.size) #[.slice a17 n17 c17,.slice p17 m17 d17] rfl rfl 27 #[.slice none 0 0,.slice none 0 0] (heap_new _ _) (treeInfo) (rfl) (tree_all _ _ _ _ _ _) ?_
    simp only [Act.put];rw [World.setRow_alloc_new];refine @wQ _ _ _ _ _ _ _ ?_ ?_;kernel_rfl;intro K hK;go_simp;refine hK _ _ ?_;clear hK K;have K18:=hid (K17.out.next1 (kA w17 (.cells #[.slice a17 n17 c17,.slice p17 m17 d17] 27)))
    generalize w17.alloc (.cells #[.slice a17 n17 c17,.slice p17 m17 d17] 27) = w18 at K18 ⊢
    go_upto_region 12 with fail
    refine wp_region_lit ?_;refine @wpList_load_known _ _ _ _ _ _ _ ?_ 27 (.tmp 4) rfl (tb) (0) rfl (.agg #[.slice lad ln lc,.slice pad pn pc]) (HLT.out w18 K18.out) ?_;kernel_rfl
    simp only [Act.put,sA,sB,sC];iterate 2 (refine @wQ _ _ _ _ _ _ _ ?_ ?_;kernel_rfl;intro K hK;go_simp;refine hK _ _ ?_;clear hK K)
    refine @wpList_load_known _ _ _ _ _ _ _ ?_ 35 (.tmp 111) rfl (lb) (1) rfl (.agg DP) (HLE2.out w18 K18.out) ?_;kernel_rfl
    simp only [Act.put,sA,sB,sC];refine @wQ _ _ _ _ _ _ _ ?_ ?_;kernel_rfl;intro K hK;go_simp;refine hK _ _ ?_;clear hK K;refine @wQ _ _ _ _ _ _ _ ?_ ?_;kernel_rfl;intro K hK;go_simp;go_at_call 19
    refine(XD2.out w18 K18.out).mono ?_;rintro e w19 ⟨_,rfl,⟨a19,n19,c19,p19,m19,d19,rfl⟩,k19⟩;have K19:=hid (K18.out.next1 k19);clear k19;refine hK _ _ ?_;clear hK K;iterate 3 (refine @wQ _ _ _ _ _ _ _ ?_ ?_;kernel_rfl;intro K hK;go_simp;refine hK _ _ ?_;clear hK K)
    refine @wpL_alloc _ _ _ _ _ _ _ _ ?_ 27 rfl _ (alloc_tree _) ?_;kernel_rfl
    simp only [Act.put,sA,sB,sC];refine wpList_store_row rfl 27 _ _ rfl (w19.heap.size) #[.slice a19 n19 c19,.slice p19 m19 d19] rfl rfl 27 #[.slice none 0 0,.slice none 0 0] (heap_new _ _) (treeInfo) (rfl) (tree_all _ _ _ _ _ _) ?_
    simp only [Act.put];rw [World.setRow_alloc_new];refine @wQ _ _ _ _ _ _ _ ?_ ?_;kernel_rfl;intro K hK;go_simp;refine hK _ _ ?_;clear hK K;have K20:=hid (K19.out.next1 (kA w19 (.cells #[.slice a19 n19 c19,.slice p19 m19 d19] 27)))
    generalize w19.alloc (.cells #[.slice a19 n19 c19,.slice p19 m19 d19] 27) = w20 at K20 ⊢
    go_upto_region 13 with fail
    refine wp_region_lit ?_;iterate 19 (refine @wQ _ _ _ _ _ _ _ ?_ ?_;kernel_rfl;intro K hK;go_simp;refine hK _ _ ?_;clear hK K)
    go_wp2;go_ret;exact⟨rfl,K1.out.next1 K20.out⟩
end Go.Proofs.YtaobiofngnfdiaaGreatDoor
