/-
 The law TreeCovers.
-/
import Derived.Test.YtlpabcnhcbgfjaaHR
import Derived.Test.YtlpabcnhcbgfjaaTreeCover
import Derived.Test.YtlpabcnhcbgfjaaHH
set_option maxRecDepth 100000
set_option maxHeartbeats 12800000
namespace Go.Proofs.Ytlpabcnhcbgfjaa
open Go.RowKit Go.Lib
open List renaming setIfInBounds_toArray → sA, set_cons_zero → sB, set_cons_succ → sC
open BigFrame renaming wpList_want → wQ
theorem Tt.self_next (W:List Int)(k i:Nat)(hi:i < W.length):Tt.selfC (W.take (i + 1)) k = Tt.selfC (W.take i) k + (if W[i] == 2 * (k:Int) then 1 else 0):=by
 unfold Tt.selfC;rw [List.take_succ_eq_append_getElem hi,List.countP_append,List.countP_singleton]
theorem Tt.over_next (n:Nat)(W:List Int)(k i:Nat)(hi:i < W.length):Tt.overC n (W.take (i + 1)) k = Tt.overC n (W.take i) k + (if !(W[i] == 2 * (k:Int)) && Bo.Holds (n:Int) W[i] (k:Int) then 1 else 0):=by
 unfold Tt.overC;rw [List.take_succ_eq_append_getElem hi,List.countP_append,List.countP_singleton]
theorem Tt.self_le (W:List Int)(k i:Nat):Tt.selfC (W.take i) k≤W.length:=Nat.le_trans List.countP_le_length (by rw [List.length_take]; exact Nat.min_le_right _ _)
theorem Tt.over_le (n:Nat)(W:List Int)(k i:Nat):Tt.overC n (W.take i) k≤W.length:=Nat.le_trans List.countP_le_length (by rw [List.length_take]; exact Nat.min_le_right _ _)
theorem Tt.res_root {L:List Lf}{P:List Pr}(hr:Tt.right L P = true)(h1:1≤L.length):∃ x:Nat,Bo.Root (L.length:Int) = (x:Int)∧Bo.In 0 L.length x∧(Tt.resNode L P x).length≤100000∧∀ k,k < L.length→(Tt.nameAt L (k:Int) = 0→Tt.selfC (Tt.resNode L P x) k = 0)∧(Tt.nameAt L (k:Int)≠0→Tt.selfC (Tt.resNode L P x) k≤1∧Tt.overC L.length (Tt.resNode L P x) k≤1∧1≤Tt.selfC (Tt.resNode L P x) k + Tt.overC L.length (Tt.resNode L P x) k):=by
 obtain⟨h64,_,_,_,_⟩:=(Tt.right_iff L P).1 hr;have hs:Bo.Seg L.length 0 L.length (-1) (-1):=.top;have hp:=hs.part h1 h64;refine⟨Bo.root 0 L.length,?_,hs.inn h1,?_,?_⟩
 ·rw [Bo.Root,if_pos (by simp [Bo.there]; omega),Int.toNat_natCast]
 ·unfold Tt.resNode
  rw [hp];have:=Tt.resSeg_length L P (fun p h=>Nat.le_trans (Tt.right_loose669 hr p h) (Nat.le_refl _)) L.length 0 L.length h1
  exact Nat.le_trans this (by omega)
 ·intro k hk
  unfold Tt.resNode;rw [hp];exact(Tt.res_cover hr h1 k L.length 0 L.length _ _ (Nat.le_refl _) hs).2 ⟨Nat.zero_le _,by omega⟩
theorem treecovers_walk (v:Value)(A:List Ac8)(w:World)(hA:Acs8 w v A):
  Calls Try.prog 3 #[v] w fun e w'=>e = .returned (.bool true)∧Kept w.heap.size w.heap.size w w':=by
 have HGC:=hid (fun(h:A.length≤100) (u:World) (k:Kept w.heap.size w.heap.size w u)=>grown_calls8 v A h u (hA.kept k))
 obtain⟨aad,ac,ag,ao,rfl,_⟩:=hA;obtain⟨an,han⟩:∃ an,an = A.length:=⟨_,rfl⟩;rw [← han] at HGC ⊢;have HAW:=hid (fun x=>awake_calls8 x)
 clear han
 go_enter Try.func3,Try.ntmps3
 go_upto_region 1 with fail
 by_cases hgt:(an:Int) > 100
 ·have hg:decide ((an:Int) > 100) = true:=decide_eq_true hgt
  clear hgt;refine wp_region_lit ?_;refine @wQ _ _ _ _ _ _ _ ?_ ?_;kernel_rfl;intro K hK;go_simp;go_at_call 4
  refine(HAW.out _).mono ?_;rintro e w2 ⟨rfl,k2⟩;have K2:=hid k2;clear k2;refine hK _ _ ?_;clear hK K;iterate 6 (refine @wQ _ _ _ _ _ _ _ ?_ ?_;kernel_rfl;intro K hK;go_simp;refine hK _ _ ?_;clear hK K)
  go_upto_region 2 with fail
  refine wp_region_lit ?_;refine @wQ _ _ _ _ _ _ _ ?_ ?_;kernel_rfl;intro K hK;go_simp;go_at_call 4
  refine(HAW.out _).mono ?_;rintro e w3 ⟨rfl,k3⟩;have K3:=hid (K2.out.onto k3);clear k3;refine hK _ _ ?_;clear hK K;refine @wQ _ _ _ _ _ _ _ ?_ ?_;kernel_rfl;intro K hK;go_simp;refine hK _ _ ?_;clear hK K;go_wp2;go_ret;exact⟨rfl,K3.out⟩
 ·have hg:decide ((an:Int) > 100) = false:=decide_eq_false hgt
  have HG2:=hid (HGC.out (by omega))
  clear hgt HGC;refine wp_region_lit ?_;refine @wQ _ _ _ _ _ _ _ ?_ ?_;kernel_rfl;intro K hK;go_simp;go_at_call 4
  refine(HAW.out _).mono ?_;rintro e w2 ⟨rfl,k2⟩;have K2:=hid k2;clear k2;refine hK _ _ ?_;clear hK K;iterate 6 (refine @wQ _ _ _ _ _ _ _ ?_ ?_;kernel_rfl;intro K hK;go_simp;refine hK _ _ ?_;clear hK K)
  go_upto_region 3 with fail
  refine wp_region_lit ?_;refine @wQ _ _ _ _ _ _ _ ?_ ?_;kernel_rfl;intro K hK;go_simp;refine hK _ _ ?_;clear hK K;refine @wQ _ _ _ _ _ _ _ ?_ ?_;kernel_rfl;intro K hK;go_simp;go_at_call 5
  refine(HG2.out _ K2.out).mono ?_;rintro e w3 ⟨lv,pv,rfl,k3,L,P,hr,SL,m3⟩;obtain⟨lad,lc,rfl⟩:=m3.lvs.shape;obtain⟨pad,pc,rfl⟩:=m3.pts.shape;obtain⟨ln,hln⟩:∃ ln,ln = L.length:=⟨_,rfl⟩;obtain⟨pn,hpn⟩:∃ pn,pn = P.length:=⟨_,rfl⟩;rw [← hln,← hpn] at m3 ⊢;have HLN:=hid hln;have HR:=hid hr;have K3:=hid (K2.out.onto k3);have M3:=hid m3;clear hln hpn hr k3 m3;refine hK _ _ ?_;clear hK K;refine @wpL_alloc _ _ _ _ _ _ _ _ ?_ 27 rfl _ (alloc_tree _) ?_;kernel_rfl
  simp only [Act.put,sA,sB,sC];refine wpList_store_row rfl 27 _ _ rfl (w3.heap.size) #[.slice lad ln lc,.slice pad pn pc] rfl rfl 27 #[.slice none 0 0,.slice none 0 0] (heap_new _ _) (treeInfo) (rfl) (tree_all _ _ _ _ _ _) ?_
  simp only [Act.put];rw [World.setRow_alloc_new];have k4:=kA w3 (.cells #[.slice lad ln lc,.slice pad pn pc] 27)
  have q4:=heap_new w3 (.cells #[.slice lad ln lc,.slice pad pn pc] 27)
  have K4:=hid (K3.out.onto k4);have M4:=hid (M3.out.kept k4);generalize w3.alloc (.cells #[.slice lad ln lc,.slice pad pn pc] 27) = w4 at q4 K4 M4 ⊢
  obtain⟨qb,hqb⟩:∃ x,x = w3.heap.size:=⟨_,rfl⟩;rw [← hqb] at q4
  (try rw [← hqb])
  have Q4:=hid q4;clear k4 q4 hqb K3 M3;have h64:=(Tt.right_parts HR.out).1;have hpl:=(Tt.right_parts HR.out).2.1;have HN:=hid (show L.length≤1000 by omega)
  have HPP:=hid (show P.length≤1000 by omega)
  have hln64:ln≤64:=by have:=HLN.out; omega
  have HL64:=hid hln64;have HLQ:=hid (fun(u:World) (k:Kept w4.heap.size w4.heap.size w4 u)=>run_loadVar_row u qb 27 27 _ (0,0) _ (row_kept Q4.out k) Try.underlying27 rfl treeInfo)
  have HLL:=hid (fun(u:World) (k:Kept w4.heap.size w4.heap.size w4 u)=>load_slice (d:=.int .u8) (two_cell0 (row_kept Q4.out k)) (.inl rfl) rfl)
  clear h64 hpl
  go_upto_region 4 with fail
  refine wp_region_lit ?_;refine @wQ _ _ _ _ _ _ _ ?_ ?_;kernel_rfl;intro K hK;go_simp;refine hK _ _ ?_;clear hK K;refine @wpList_load_known _ _ _ _ _ _ _ ?_ 24 (.tmp 20) rfl (qb) (0) rfl (.slice lad ln lc) (HLL.out w4 (Kept.refl _ _ _)) ?_;kernel_rfl
  simp only [Act.put,sA,sB,sC];iterate 2 (refine @wQ _ _ _ _ _ _ _ ?_ ?_;kernel_rfl;intro K hK;go_simp;refine hK _ _ ?_;clear hK K)
  go_upto_region 5 with fail
  refine wp_region_lit ?_;iterate 2 (refine @wQ _ _ _ _ _ _ _ ?_ ?_;kernel_rfl;intro K hK;go_simp;refine hK _ _ ?_;clear hK K)
  by_cases hz:ln = 0
  ·have hzb:((ln:Int) == 0) = true:=by rw [hz]; rfl
   have HRZ:=hid (resolve_none8 lad pad ln lc pn pc lad pad ln lc pn pc 0 w4 (fun u k=>rightornone8 _ _ L P u (M4.out.kept k).lvs (M4.out.kept k).pts HN.out HPP.out (Tt.right_loose669 HR.out) HR.out) (fun u=>isnode8_no ln 0 HL64.out (by omega) u))
   clear hz hln64
   go_upto_region 6 with fail
   refine wp_region_lit ?_;refine @wpList_load_known _ _ _ _ _ _ _ ?_ 27 (.tmp 3) rfl (qb) (0) rfl (.agg #[.slice lad ln lc,.slice pad pn pc]) (HLQ.out w4 (Kept.refl _ _ _)) ?_;kernel_rfl
   simp only [Act.put,sA,sB,sC];refine @wQ _ _ _ _ _ _ _ ?_ ?_;kernel_rfl;intro K hK;go_simp;go_at_call 6
   refine(HRZ.out).mono ?_;rintro e w5 ⟨rfl,k5⟩;have K5:=hid (K4.out.onto k5);clear k5;refine hK _ _ ?_;clear hK K;iterate 3 (refine @wQ _ _ _ _ _ _ _ ?_ ?_;kernel_rfl;intro K hK;go_simp;refine hK _ _ ?_;clear hK K)
   go_wp2;go_ret;exact⟨rfl,K5.out⟩
  ·have hzb:((ln:Int) == 0) = false:=by rw [beq_eq_false_iff_ne]; omega
   obtain⟨x,hx1,hx2,hx3,hx4⟩:=Tt.res_root HR.out (by have:=HLN.out; omega)
   have HRS:=hid (fun(u:World) (k:Kept w4.heap.size w4.heap.size w4 u)=>resolve_calls8 _ _ L P x u (M4.out.kept k).lvs (M4.out.kept k).pts HR.out hx2)
   have HRO:=hid (fun(u:World)=>rrootof_calls (ln:Int) u)
   rw [show Bo.Root (ln:Int) = (x:Int) by rw [HLN.out]; exact hx1] at HRO
   obtain⟨W,hW⟩:∃ W,W = Tt.resNode L P x:=⟨_,rfl⟩;rw [← hW] at HRS hx3 hx4;rw [← HLN.out] at hx4;have HCV:=hid hx4;have HW9:=hid hx3;clear hz hln64 hx1 hx2 hx3 hx4 hW
   go_upto_region 7 with fail
   have KD:Kept w4.heap.size w4.heap.size w4 w4.drew:=(Kept.refl _ _ _).drew;refine wp_region_noPanic ?_;refine wp_region_held_drew (S:=fun u=>Kept w4.heap.size w4.heap.size w4 u) (by kernel_rfl) (KD) (fun hH=>?_)
   refine wpAnyH_take_at (i:=0) 29 (.agg #[.slice lad ln lc,.slice pad pn pc]) rfl rfl (by kernel_rfl) (by kernel_rfl) (by kernel_rfl) (fun _ _ _ h=>h) (yieldsIf_load_known (by kernel_rfl) 27 _ rfl (qb) (0) rfl (.agg #[.slice lad ln lc,.slice pad pn pc]) (fun u hu=>HLQ.out u hu)) hH ?_
   simp only [sA,sB,sC];refine wpAnyH_take_ex (i:=1) 30 rfl rfl (by kernel_rfl) (by kernel_rfl) (by kernel_rfl) (fun _ _ _ _ h=>h) (by kernel_rfl) hH ?_
   apply Exists.intro;apply And.intro
   ·intro w9 _
    go_simp
    first | done | rfl
   simp only [sA,sB,sC];refine wpAnyH_ready (rs:=[2]) (by kernel_rfl) (by simp) ?_
   refine AllReadyH.cons rfl (fun K hK=>?_) AllReadyH.nil
   rw [if_pos (by rfl)]
   go_simp
   go_wp2_with (go_at_call 7; refine(HRO.out _).mono ?_; rintro e wv ⟨rfl,hwv⟩)
   subst hwv;refine hK.out _ _ KD (fun hH=>?_)
   clear hK K;refine wpAnyH_ready (rs:=[3]) (by kernel_rfl) (by simp) ?_
   refine AllReadyH.cons rfl (fun K hK=>?_) AllReadyH.nil
   rw [if_pos (by rfl)]
   go_simp
   go_wp2_with (go_at_call 6; refine(HRS.out _ KD).mono ?_; rintro e w5 ⟨vw,rfl,hi5,k5⟩)
   have KE:=KD.onto k5;have NW:=hid (ints_nums hi5);obtain⟨wad,wc9,wg,wo,rfl,hwc⟩:=ints_nums hi5;obtain⟨wn,hwn⟩:∃ x,x = W.length:=⟨_,rfl⟩;rw [← hwn] at NW ⊢;have HWC:=hid hwc;have HWN:=hid hwn;clear hi5 k5 hwc hwn;refine hK.out _ _ KE (fun hH=>?_)
   clear hK K;refine wpAnyH_take_ex (i:=4) 5 rfl rfl (by kernel_rfl) (by kernel_rfl) (by kernel_rfl) (fun _ _ _ _ h=>h) (by kernel_rfl) hH ?_
   apply Exists.intro;apply And.intro
   ·intro w9 _
    go_simp
    first | done | rfl
   simp only [sA,sB,sC];refine wpAnyH_done (by kernel_rfl) ?_ _
   refine NoPanic.normal ?_;have K5:=hid (K4.out.onto KE);have KE5:=hid KE;have hwn9:(wn:Int)≤100000:=by have:=HWN.out; have:=HW9.out; omega
   clear hH KD KE;go_wp2
   go_loopw [6] (fun s6 wr=>∃ k:Nat,s6 = .int .i64 (k:Int)∧Hid (k≤ln)∧wr = w5) (fun s6 _=>ln - (RowKit.intOf s6).toNat)
   case atStart=>exact⟨0,rfl,hid (Nat.zero_le _),rfl⟩
   case round=>
    obtain⟨k,rfl,hk,hwr⟩:=hrel;have hwr2:=hwr.symm;clear hwr;subst hwr2
    by_cases hlt:k < ln
    ·have hkl:(k:Int) < (ln:Int):=by omega
     have hk0:¬ (k:Int) < 0:=by omega
     obtain⟨hc1,hc2⟩:=HCV.out k hlt;have HLT:=hid hlt;have HC1:=hid hc1;have HC2:=hid hc2;have hl64:=HL64.out;have hw2k:IntKind.i64.wrap (2 * (k:Int)) = 2 * (k:Int):=wrap_small _ (by omega) (by omega)
     have HW2K:=hid hw2k;clear hlt hk hc1 hc2 hw2k
     go_upto_region 12 with fail
     refine wp_region_lit ?_;refine @wQ _ _ _ _ _ _ _ ?_ ?_;kernel_rfl;intro K hK;go_simp;refine hK _ _ ?_;clear hK K;go_wp2
     go_loopw [7,8,9] (fun s7 s8 s9 wr=>∃ i:Nat,s9 = .int .i64 (i:Int)∧s7 = .int .i64 ((Tt.overC ln (W.take i) k:Nat):Int)∧s8 = .int .i64 ((Tt.selfC (W.take i) k:Nat):Int)∧Hid (i≤wn)∧wr = w5) (fun _ _ s9 _=>wn - (RowKit.intOf s9).toNat)
     case atStart=>exact⟨0,rfl,rfl,rfl,hid (Nat.zero_le _),rfl⟩
     case round=>
      obtain⟨i,rfl,rfl,rfl,hi,hwr⟩:=hrel;have hwr2:=hwr.symm;clear hwr;subst hwr2;obtain⟨oc,hoc⟩:∃ x,x = Tt.overC ln (W.take i) k:=⟨_,rfl⟩;obtain⟨sc,hsc⟩:∃ x,x = Tt.selfC (W.take i) k:=⟨_,rfl⟩;have ho9:(oc:Int)≤100000:=by have:=Tt.over_le ln W k i; have:=HW9.out; omega
      have hs9:(sc:Int)≤100000:=by have:=Tt.self_le W k i; have:=HW9.out; omega
      rw [← hoc,← hsc]
      by_cases hli:i < wn
      ·have hiw:(i:Int) < (wn:Int):=by omega
       have hi0:¬ (i:Int) < 0:=by omega
       have hiW:i < W.length:=by rw [← HWN.out]; exact hli
       obtain⟨had,hgw,hcell⟩:=HWC.out i hiW;have hs:=Tt.self_next W k i hiW;have ho:=Tt.over_next ln W k i hiW;obtain⟨y,hy⟩:∃ y,y = W[i]:=⟨_,rfl⟩;rw [← hy] at hs ho hcell;rw [← hsc] at hs;rw [← hoc] at ho;have HCE:=hid (load_int hcell);have HS:=hid hs;have HO:=hid ho;have HLI:=hid hli;have hw1:IntKind.i64.wrap ((i:Int) + 1) = (i:Int) + 1:=wrap_small _ (by omega) (by omega)
       have hw2:IntKind.i64.wrap ((oc:Int) + 1) = (oc:Int) + 1:=wrap_small _ (by omega) (by omega)
       have hw3:IntKind.i64.wrap ((sc:Int) + 1) = (sc:Int) + 1:=wrap_small _ (by omega) (by omega)
       have HW1:=hid hw1;have HW2:=hid hw2;have HW3:=hid hw3;have HHO:=hid (fun(u:World)=>rholds_calls (ln:Int) y (k:Int) u)
       subst had;clear hli hi hiW hgw hcell hs ho hy hoc hsc hw1 hw2 hw3
       go_upto_region 15 with fail
       refine wp_region_lit ?_;iterate 3 (refine @wQ _ _ _ _ _ _ _ ?_ ?_;kernel_rfl;intro K hK;go_simp;refine hK _ _ ?_;clear hK K)
       refine @wpList_load_known _ _ _ _ _ _ _ ?_ 3 (.tmp 46) rfl (wg) (wo + i) rfl (.int .i64 y) (HCE.out) ?_;kernel_rfl
       simp only [Act.put,sA,sB,sC];refine @wQ _ _ _ _ _ _ _ ?_ ?_;kernel_rfl;intro K hK;go_simp;refine hK _ _ ?_;clear hK K;refine @wQ _ _ _ _ _ _ _ ?_ ?_;kernel_rfl;intro K hK;go_simp
       (try rw [HW2K.out])
       refine hK _ _ ?_;clear hK K;refine @wQ _ _ _ _ _ _ _ ?_ ?_;kernel_rfl;intro K hK;go_simp;refine hK _ _ ?_;clear hK K
       by_cases hyk:y = 2 * (k:Int)
       ·have hyb:(y == 2 * (k:Int)) = true:=beq_iff_eq.2 hyk
        rw [hyb] at HS HO;clear hyk
        go_upto_region 16 with fail
        refine wp_region_lit ?_;refine @wQ _ _ _ _ _ _ _ ?_ ?_;kernel_rfl;intro K hK;go_simp;refine hK _ _ ?_;clear hK K;refine @wQ _ _ _ _ _ _ _ ?_ ?_;kernel_rfl;intro K hK;go_simp
        (try rw [HW3.out])
        refine hK _ _ ?_;clear hK K
        (try rw [HW3.out])
        refine @wQ _ _ _ _ _ _ _ ?_ ?_;kernel_rfl;intro K hK;go_simp;refine hK _ _ ?_;clear hK K
        go_upto_region 14 with fail
        refine wp_region_lit ?_;refine @wQ _ _ _ _ _ _ _ ?_ ?_;kernel_rfl;intro K hK;go_simp;refine hK _ _ ?_;clear hK K;refine @wQ _ _ _ _ _ _ _ ?_ ?_;kernel_rfl;intro K hK;go_simp
        (try rw [HW1.out])
        refine hK _ _ ?_;clear hK K
        (try rw [HW1.out])
        refine @wQ _ _ _ _ _ _ _ ?_ ?_;kernel_rfl;intro K hK;go_simp;refine hK _ _ ?_;clear hK K;go_wp2
        go_roundw
        case rel=>exact⟨i + 1,by simp,by rw [HO.out]; simp,by rw [HS.out]; simp,hid HLI.out,trivial⟩
        case measure=>have h1:=HLI.out; simp [RowKit.intOf]; omega
       ·have hyb:(y == 2 * (k:Int)) = false:=beq_eq_false_iff_ne.2 hyk
        rw [hyb] at HS HO;clear hyk
        go_upto_region 17 with fail
        refine wp_region_lit ?_;iterate 4 (refine @wQ _ _ _ _ _ _ _ ?_ ?_;kernel_rfl;intro K hK;go_simp;refine hK _ _ ?_;clear hK K)
        refine @wpList_load_known _ _ _ _ _ _ _ ?_ 3 (.tmp 56) rfl (wg) (wo + i) rfl (.int .i64 y) (HCE.out) ?_;kernel_rfl
        simp only [Act.put,sA,sB,sC];refine @wQ _ _ _ _ _ _ _ ?_ ?_;kernel_rfl;intro K hK;go_simp;refine hK _ _ ?_;clear hK K;refine @wQ _ _ _ _ _ _ _ ?_ ?_;kernel_rfl;intro K hK;go_simp;go_at_call 8
        refine(HHO.out _).mono ?_;rintro e wq ⟨rfl,hwq⟩;subst hwq;refine hK _ _ ?_;clear hK K;obtain⟨hb,hhb⟩:∃ b,b = Bo.Holds (ln:Int) y (k:Int):=⟨_,rfl⟩;rw [← hhb] at HO ⊢;clear hhb
        cases hb with
        | true=>
         go_upto_region 18 with fail
         refine wp_region_lit ?_;refine @wQ _ _ _ _ _ _ _ ?_ ?_;kernel_rfl;intro K hK;go_simp;refine hK _ _ ?_;clear hK K;refine @wQ _ _ _ _ _ _ _ ?_ ?_;kernel_rfl;intro K hK;go_simp
         (try rw [HW2.out])
         refine hK _ _ ?_;clear hK K
         (try rw [HW2.out])
         refine @wQ _ _ _ _ _ _ _ ?_ ?_;kernel_rfl;intro K hK;go_simp;refine hK _ _ ?_;clear hK K
         go_upto_region 14 with fail
         refine wp_region_lit ?_;refine @wQ _ _ _ _ _ _ _ ?_ ?_;kernel_rfl;intro K hK;go_simp;refine hK _ _ ?_;clear hK K;refine @wQ _ _ _ _ _ _ _ ?_ ?_;kernel_rfl;intro K hK;go_simp
         (try rw [HW1.out])
         refine hK _ _ ?_;clear hK K
         (try rw [HW1.out])
         refine @wQ _ _ _ _ _ _ _ ?_ ?_;kernel_rfl;intro K hK;go_simp;refine hK _ _ ?_;clear hK K;go_wp2
         go_roundw
         case rel=>exact⟨i + 1,by simp,by rw [HO.out]; simp,by rw [HS.out]; simp,hid HLI.out,trivial⟩
         case measure=>have h1:=HLI.out; simp [RowKit.intOf]; omega
        | false=>
         go_upto_region 14 with fail
         refine wp_region_lit ?_;refine @wQ _ _ _ _ _ _ _ ?_ ?_;kernel_rfl;intro K hK;go_simp;refine hK _ _ ?_;clear hK K;refine @wQ _ _ _ _ _ _ _ ?_ ?_;kernel_rfl;intro K hK;go_simp
         (try rw [HW1.out])
         refine hK _ _ ?_;clear hK K
         (try rw [HW1.out])
         refine @wQ _ _ _ _ _ _ _ ?_ ?_;kernel_rfl;intro K hK;go_simp;refine hK _ _ ?_;clear hK K;go_wp2
         go_roundw
         case rel=>exact⟨i + 1,by simp,by rw [HO.out]; simp,by rw [HS.out]; simp,hid HLI.out,trivial⟩
         case measure=>have h1:=HLI.out; simp [RowKit.intOf]; omega
      ·have hnl:¬ (i:Int) < (wn:Int):=by omega
       have hiw:i = W.length:=by have:=hi.out; have:=HWN.out; omega
       rw [hiw,List.take_length] at hoc hsc;have HOC:=hid hoc;have HSC:=hid hsc;clear hli hi hiw hoc hsc;obtain⟨g1,had1,hg1,hokx,hr1⟩:=(M4.out.kept KE5.out).leafRow k (by have:=HLT.out; have:=HLN.out; omega)
       obtain⟨nq,hnq⟩:∃ x,x = Tt.nameAt L (k:Int):=⟨_,rfl⟩
       have c0:w5.cell? ⟨g1,k * 97,none⟩ = some (.int .i64 nq):=by
        have hkL:k < L.length:=by have:=HLT.out; have:=HLN.out; omega
        have h8:=hr1 0 (.int .i64 (L[k]'hkL).name) (by simp [Lf.cells,hkL])
        rw [Nat.add_zero] at h8;rw [h8,hnq,Tt.nameAt_get]
       have C0:=hid (load_int c0);rw [← hnq] at HC1 HC2;rw [← HSC.out] at HC1 HC2;rw [← HOC.out] at HC2;subst had1;clear hg1 hokx hr1 c0 hnq
       go_upto_region 19 with fail
       have HWK:=hid (show IntKind.i64.wrap ((k:Int) + 1) = (k:Int) + 1 from wrap_small _ (by omega) (by omega))
       have t0:=HLL.out w5 KE5.out;refine wp_region_lit ?_;refine @wQ _ _ _ _ _ _ _ ?_ ?_;kernel_rfl;intro K hK;go_simp;refine hK _ _ ?_;clear hK K;refine @wpList_load_known _ _ _ _ _ _ _ ?_ 24 (.tmp 62) rfl (qb) (0) rfl (.slice (some ⟨g1,0,none⟩) ln lc) (t0) ?_;kernel_rfl
       simp only [Act.put,sA,sB,sC];iterate 3 (refine @wQ _ _ _ _ _ _ _ ?_ ?_;kernel_rfl;intro K hK;go_simp;refine hK _ _ ?_;clear hK K)
       refine @wpList_load_known _ _ _ _ _ _ _ ?_ 3 (.tmp 66) rfl (g1) (k * 97) rfl (.int .i64 nq) (C0.out) ?_;kernel_rfl
       simp only [Act.put,sA,sB,sC];refine @wQ _ _ _ _ _ _ _ ?_ ?_;kernel_rfl;intro K hK;go_simp;refine hK _ _ ?_;clear hK K;clear t0
       by_cases hnz:nq = 0
       ·have hnb:(nq == 0) = true:=beq_iff_eq.2 hnz
        have hs0:sc = 0:=HC1.out hnz;subst hs0;clear hnz
        go_upto_region 20 with fail
        refine wp_region_lit ?_;iterate 2 (refine @wQ _ _ _ _ _ _ _ ?_ ?_;kernel_rfl;intro K hK;go_simp;refine hK _ _ ?_;clear hK K)
        go_upto_region 10 with fail
        refine wp_region_lit ?_;refine @wQ _ _ _ _ _ _ _ ?_ ?_;kernel_rfl;intro K hK;go_simp;refine hK _ _ ?_;clear hK K;refine @wQ _ _ _ _ _ _ _ ?_ ?_;kernel_rfl;intro K hK;go_simp
        (try rw [HWK.out])
        refine hK _ _ ?_;clear hK K
        (try rw [HWK.out])
        refine @wQ _ _ _ _ _ _ _ ?_ ?_;kernel_rfl;intro K hK;go_simp;refine hK _ _ ?_;clear hK K;go_wp2
        go_roundw
        case rel=>exact⟨k + 1,by simp,hid HLT.out,trivial⟩
        case measure=>have h1:=HLT.out; simp [RowKit.intOf]; omega
       ·have hnb:(nq == 0) = false:=beq_eq_false_iff_ne.2 hnz
        obtain⟨e1,e2,e3⟩:=HC2.out hnz;have hw9:IntKind.i64.wrap ((oc:Int) + (sc:Int)) = (oc:Int) + (sc:Int):=wrap_small _ (by omega) (by omega)
        have HW9':=hid hw9;have hg1:decide ((oc:Int) > 1) = false:=decide_eq_false (by omega)
        have hg2:decide ((sc:Int) > 1) = false:=decide_eq_false (by omega)
        have hg3:(((oc:Int) + (sc:Int)) == 0) = false:=beq_eq_false_iff_ne.2 (by omega)
        clear hnz e1 e2 e3 hw9
        go_upto_region 22 with fail
        refine wp_region_lit ?_;iterate 9 (refine @wQ _ _ _ _ _ _ _ ?_ ?_;kernel_rfl;intro K hK;go_simp;refine hK _ _ ?_;clear hK K)
        refine @wQ _ _ _ _ _ _ _ ?_ ?_;kernel_rfl;intro K hK;go_simp
        (try rw [HW9'.out])
        refine hK _ _ ?_;clear hK K
        (try rw [HW9'.out])
        iterate 2 (refine @wQ _ _ _ _ _ _ _ ?_ ?_;kernel_rfl;intro K hK;go_simp;refine hK _ _ ?_;clear hK K)
        go_upto_region 10 with fail
        refine wp_region_lit ?_;refine @wQ _ _ _ _ _ _ _ ?_ ?_;kernel_rfl;intro K hK;go_simp;refine hK _ _ ?_;clear hK K;refine @wQ _ _ _ _ _ _ _ ?_ ?_;kernel_rfl;intro K hK;go_simp
        (try rw [HWK.out])
        refine hK _ _ ?_;clear hK K
        (try rw [HWK.out])
        refine @wQ _ _ _ _ _ _ _ ?_ ?_;kernel_rfl;intro K hK;go_simp;refine hK _ _ ?_;clear hK K;go_wp2
        go_roundw
        case rel=>exact⟨k + 1,by simp,hid HLT.out,trivial⟩
        case measure=>have h1:=HLT.out; simp [RowKit.intOf]; omega
    ·have hnk:¬ (k:Int) < (ln:Int):=by omega
     clear hlt hk
     go_upto_region 24 with fail
     refine wp_region_lit ?_;refine @wQ _ _ _ _ _ _ _ ?_ ?_;kernel_rfl;intro K hK;go_simp;refine hK _ _ ?_;clear hK K;go_wp2;go_ret;exact⟨rfl,K5.out⟩
end Go.Proofs.Ytlpabcnhcbgfjaa
