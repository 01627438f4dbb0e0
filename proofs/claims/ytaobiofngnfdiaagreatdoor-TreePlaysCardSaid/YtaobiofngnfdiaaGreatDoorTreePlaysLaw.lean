/-
 The law TreePlays.
-/
import Derived.Test.YtaobiofngnfdiaaGreatDoorTreeStep
set_option maxRecDepth 100000
set_option maxHeartbeats 6400000
namespace Go.Proofs.YtaobiofngnfdiaaGreatDoor
open Go.RowKit Go.Lib
open List renaming setIfInBounds_toArray → sA, set_cons_zero → sB, set_cons_succ → sC
open BigFrame renaming wpList_want → wQ
theorem treeplays_walk (v:Value)(A:List Ac8)(w:World)(hA:Acs8 w v A)(ht:Tab w):
  Calls Tryz.prog 3 #[v] w fun e w'=>e = .returned (.bool true)∧Kept w.heap.size w.heap.size w w':=by
 obtain⟨aad,ac,ag,ao,rfl,hel⟩:=hA;obtain⟨an,han⟩:∃ an,an = A.length:=⟨_,rfl⟩;rw [← han];have HEL:=hid hel;have HAN:=hid han;have HTW:=hid ht;have HAW:=hid (fun x=>awake_calls8 x)
 clear hel han ht
 go_enter Tryz.func3,Tryz.ntmps3
 go_upto_region 1 with fail
 by_cases hgt:(an:Int) > 100
 ·have hg:decide ((an:Int) > 100) = true:=decide_eq_true hgt
  clear hgt;refine wp_region_lit ?_;refine @wQ _ _ _ _ _ _ _ ?_ ?_;kernel_rfl;intro K hK;go_simp;go_at_call 7
  refine(HAW.out _).mono ?_;rintro e w2 ⟨rfl,k2⟩;have K2:=hid k2;clear k2;refine hK _ _ ?_;clear hK K;iterate 6 (refine @wQ _ _ _ _ _ _ _ ?_ ?_;kernel_rfl;intro K hK;go_simp;refine hK _ _ ?_;clear hK K)
  go_upto_region 2 with fail
  refine wp_region_lit ?_;refine @wQ _ _ _ _ _ _ _ ?_ ?_;kernel_rfl;intro K hK;go_simp;go_at_call 7
  refine(HAW.out _).mono ?_;rintro e w3 ⟨rfl,k3⟩;have K3:=hid (K2.out.onto k3);clear k3;refine hK _ _ ?_;clear hK K;refine @wQ _ _ _ _ _ _ _ ?_ ?_;kernel_rfl;intro K hK;go_simp;refine hK _ _ ?_;clear hK K;go_wp2;go_ret;exact⟨rfl,K3.out⟩
 ·have hg:decide ((an:Int) > 100) = false:=decide_eq_false hgt
  have HA9:=hid (show(an:Int)≤100 by omega)
  clear hgt;refine wp_region_lit ?_;refine @wQ _ _ _ _ _ _ _ ?_ ?_;kernel_rfl;intro K hK;go_simp;go_at_call 7
  refine(HAW.out _).mono ?_;rintro e w2 ⟨rfl,k2⟩;have K2:=hid k2;clear k2;refine hK _ _ ?_;clear hK K;iterate 6 (refine @wQ _ _ _ _ _ _ _ ?_ ?_;kernel_rfl;intro K hK;go_simp;refine hK _ _ ?_;clear hK K)
  go_upto_region 3 with fail
  refine wp_region_lit ?_;refine @wpL_build0 _ _ _ _ _ _ _ ?_ 27 rfl _ (build_tree0 _) ?_;kernel_rfl
  simp only [Act.put,sA,sB,sC];refine @wpL_alloc _ _ _ _ _ _ _ _ ?_ 27 rfl _ (alloc_tree _) ?_;kernel_rfl
  simp only [Act.put,sA,sB,sC];refine wpList_store_row rfl 27 _ _ rfl (w2.heap.size) #[.slice none 0 0,.slice none 0 0] rfl rfl 27 #[.slice none 0 0,.slice none 0 0] (heap_new _ _) (treeInfo) (rfl) (tree_all _ _ _ _ _ _) ?_
  simp only [Act.put];rw [World.setRow_alloc_new];have k3:=kA w2 (.cells #[.slice none 0 0,.slice none 0 0] 27)
  have q3:=heap_new w2 (.cells #[.slice none 0 0,.slice none 0 0] 27)
  have K3:=hid (K2.out.onto k3);have hq3:w.heap.size≤w2.heap.size:=K2.out.size;generalize w2.alloc (.cells #[.slice none 0 0,.slice none 0 0] 27) = w3 at q3 K3 ⊢
  obtain⟨qb,hqb⟩:∃ qb,qb = w2.heap.size:=⟨_,rfl⟩;rw [← hqb] at q3 hq3
  (try rw [← hqb])
  have M3:=hid (Mine.empty (fun k=>k = qb) w3 (fun k hk=>by rw [hk]; exact lt_of_block q3))
  have Q3:=hid q3;have HQ:=hid hq3;clear k3 q3 hq3 hqb K2;go_wp2
  go_loopw [4] (fun s4 wr=>∃ i:Nat,s4 = .int .i64 (i:Int)∧Hid (i≤an)∧Hid (Kept w.heap.size w.heap.size w wr)∧∃ lad ln lc pad pn pc,Hid (wr.heap[qb]? = some (.cells #[.slice lad ln lc,.slice pad pn pc] 27 (0,0)))∧∃ L P SL,Hid (Tt.right L P = true)∧Hid (Mine (fun k=>k = qb) wr (.slice lad ln lc) (.slice pad pn pc) L P SL)) (fun s4 _=>an - (RowKit.intOf s4).toNat)
  case atStart=>exact⟨0,rfl,hid (Nat.zero_le _),K3,_,_,_,_,_,_,Q3,[],[],[],hid (by decide),M3⟩
  case round=>
   obtain⟨i,rfl,hi,HK,lad,ln,lc,pad,pn,pc,HQR,L,P,SL,HR,HM⟩:=hrel;clear K3 M3 Q3;have han:=HA9.out
   by_cases hlt:i < an
   ·have hlti:(i:Int) < (an:Int):=by omega
    have hi0:¬ (i:Int) < 0:=by omega
    have hiA:i < A.length:=by rw [← HAN.out]; exact hlt
    obtain⟨had,hag,har⟩:=HEL.out i hiA;obtain⟨ac9,hac9⟩:∃ x,x = A[i]:=⟨_,rfl⟩;rw [← hac9] at har;obtain⟨DX,hDX⟩:∃ D,D = ac9.cells.toArray:=⟨_,rfl⟩;have HLT:=hid hlt;have HXI:=hid (show(Tryz.prog.info? 31).map (·.size) = some ac9.cells.length from actInfo8)
    have HLX:=hid (fun(u:World) (k:Kept wr.heap.size wr.heap.size wr u)=>run_loadVar_mid u ag (ao + i * 4) 31 ac9.cells _ (rangeAt_kept (HK.out.onto k) har hag (Nat.ne_of_lt hag)) Tryz.underlying31 rfl HXI.out)
    rw [← hDX] at HLX;have HLQ:=hid (fun(u:World) (k:Kept wr.heap.size wr.heap.size wr u)=>run_loadVar_row u qb 27 27 _ (0,0) _ (row_kept HQR.out k) Tryz.underlying27 rfl treeInfo)
    have HST:=hid (fun(B:Nat→Prop) (u:World) (m:Mine B u (.slice lad ln lc) (.slice pad pn pc) L P SL) (k:Kept w.heap.size w.heap.size w u)=>step_calls8 B _ _ L P SL ac9 u m HR.out (HTW.out.ontoP k))
    rw [← hDX] at HST;subst had;clear hlt hi hiA hag har hac9 hDX
    go_upto_region 7 with fail
    refine wp_region_noPanic ?_;have kd:Kept wr.heap.size wr.heap.size wr wr.drew:=(Kept.refl _ _ _).drew;refine wp_region_held_drew (S:=fun u=>Kept wr.heap.size wr.heap.size wr u) (by kernel_rfl) kd (fun hH=>?_)
    have MD:=hid (HM.out.kept kd);have KD:=hid kd;have QD:=hid (row_kept HQR.out kd);generalize wr.drew = wd at hH MD KD QD ⊢;clear kd HM;refine wpAnyH_take_at (i:=0) 23 (.agg #[.slice lad ln lc,.slice pad pn pc]) rfl rfl (by kernel_rfl) (by kernel_rfl) (by kernel_rfl) (fun _ _ _ h=>h) (yieldsIf_load_known (by kernel_rfl) 27 _ rfl (qb) (0) rfl (.agg #[.slice lad ln lc,.slice pad pn pc]) (fun u hu=>HLQ.out u hu)) hH ?_
    simp only [sA,sB,sC];refine wpAnyH_take_ex (i:=1) 24 rfl rfl (by kernel_rfl) (by kernel_rfl) (by kernel_rfl) (fun _ _ _ _ h=>h) (by kernel_rfl) hH ?_
    apply Exists.intro;apply And.intro
    ·intro w9 _
     go_simp
     first | done | rfl
    simp only [sA,sB,sC];refine wpAnyH_take_ex (i:=2) 25 rfl rfl (by kernel_rfl) (by kernel_rfl) (by kernel_rfl) (fun _ _ _ _ h=>h) (by kernel_rfl) hH ?_
    apply Exists.intro;apply And.intro
    ·intro w9 _
     go_simp
     first | done | rfl
    simp only [sA,sB,sC];refine wpAnyH_take_ex (i:=3) 26 rfl rfl (by kernel_rfl) (by kernel_rfl) (by kernel_rfl) (fun _ _ _ _ h=>h) (by kernel_rfl) hH ?_
    apply Exists.intro;apply And.intro
    ·intro w9 _
     go_simp
     first | done | rfl
    simp only [sA,sB,sC];refine wpAnyH_take_at (i:=4) 27 (.agg DX) rfl rfl (by kernel_rfl) (by kernel_rfl) (by kernel_rfl) (fun _ _ _ h=>h) (yieldsIf_load_known (by kernel_rfl) 31 _ rfl (ag) (ao + i * 4) rfl (.agg DX) (fun u hu=>HLX.out u hu)) hH ?_
    simp only [sA,sB,sC];refine wpAnyH_ready (rs:=[5,9]) (by kernel_rfl) (by simp) ?_
    refine AllReadyH.cons rfl (fun K hK=>?_) ?_
    ·rw [if_pos (by rfl)]
     go_simp
     go_wp2_with (go_at_call 8; refine(HST.out _ _ MD.out (HK.out.onto KD.out)).mono ?_; rintro e w9 ⟨lv9,pv9,rfl,k9,L9,P9,hr9,SL9,m9⟩)
     obtain⟨uad,uc,rfl⟩:=m9.lvs.shape;obtain⟨vad,vc,rfl⟩:=m9.pts.shape;obtain⟨un,hun⟩:∃ x,x = L9.length:=⟨_,rfl⟩;obtain⟨vn,hvn⟩:∃ x,x = P9.length:=⟨_,rfl⟩;rw [← hun,← hvn] at m9 ⊢;have HUN:=hid hun;have HVN:=hid hvn;have HR9:=hid hr9;have M9:=hid m9;have K9:=hid (KD.out.onto k9);have Q9:=hid (row_kept QD.out k9)
     clear hun hvn hr9 m9 k9;refine hK.out _ _ K9.out (fun hH=>?_)
     clear hK K;refine wpAnyH_take_ex (i:=6) 22 rfl rfl (by kernel_rfl) (by kernel_rfl) (by kernel_rfl) (fun _ _ _ _ h=>h) (by kernel_rfl) hH ?_
     apply Exists.intro;apply And.intro
     ·intro w9 _
      go_simp
      first | done | rfl
     simp only [sA,sB,sC];refine wpAnyH_take_ex (i:=7) 29 rfl rfl (by kernel_rfl) (by kernel_rfl) (by kernel_rfl) (fun _ _ _ _ h=>h) (by kernel_rfl) hH ?_
     apply Exists.intro;apply And.intro
     ·intro w9 _
      go_simp
      first | done | rfl
     simp only [sA,sB,sC];refine wpAnyH_take_ex (i:=8) 30 rfl rfl (by kernel_rfl) (by kernel_rfl) (by kernel_rfl) (fun _ _ _ _ h=>h) (by kernel_rfl) hH ?_
     apply Exists.intro;apply And.intro
     ·intro w9 _
      go_simp
      first | done | rfl
     simp only [sA,sB,sC];refine wpAnyH_ready (rs:=[9]) (by kernel_rfl) (by simp) ?_
     refine AllReadyH.cons rfl (fun K hK=>?_) AllReadyH.nil
     rw [if_pos (by rfl)]
     have er:=alloc_tree w9;have ka:=kA w9 (.cells #[.slice none 0 0,.slice none 0 0] 27)
     have za:=heap_new w9 (.cells #[.slice none 0 0,.slice none 0 0] 27)
     have M10:=hid (M9.out.box (.cells #[.slice none 0 0,.slice none 0 0] 27))
     have K10:=hid (K9.out.onto ka);have Q10:=hid (row_kept Q9.out ka);have HZQ:=hid (show qb < w9.heap.size from lt_of_block Q9.out);have HZW:=hid (show wr.heap.size≤w9.heap.size from K9.out.size);generalize w9.alloc (.cells #[.slice none 0 0,.slice none 0 0] 27) = w10 at er za M10 K10 Q10 ⊢
     obtain⟨zb,hzb⟩:∃ x,x = w9.heap.size:=⟨_,rfl⟩;rw [← hzb] at er za M10 HZQ HZW;have Z10:=hid za;clear ka za hzb;refine wp_alloc_known 27 rfl (some 5) rfl _ er ?_
     simp only [Act.put,sA,sB,sC];refine hK.out _ _ K10.out (fun hH=>?_)
     clear hK K er;refine wpAnyH_ready (rs:=[10]) (by kernel_rfl) (by simp) ?_
     refine AllReadyH.cons rfl (fun K hK=>?_) AllReadyH.nil
     rw [if_pos (by rfl)]
     refine wp_store_row_none11 27 _ _ rfl rfl zb #[.slice uad un uc,.slice vad vn vc] rfl rfl 27 #[.slice none 0 0,.slice none 0 0] Z10.out treeInfo rfl (tree_all _ _ _ _ _ _) ?_
     have g11:=grown_setRow w10 zb #[.slice uad un uc,.slice vad vn vc];have M11:=hid (M10.out.aside (b:=zb) (.inr rfl) g11);have Z11:=hid (setRow_heap w10 zb _ #[.slice uad un uc,.slice vad vn vc] _ _ Z10.out);have Q11:=hid ((g11.block qb (lt_of_block Q10.out) (fun e=>Nat.ne_of_lt HZQ.out (Option.some.inj e))).trans Q10.out)
     have K11:=hid (K10.out.grown g11 K10.out.size (fun q hq=>by cases hq; exact HZW.out))
     generalize w10.setRow zb #[.slice uad un uc,.slice vad vn vc] = w11 at g11 M11 Z11 Q11 K11 ⊢;clear g11 M10 Z10 Q10 K10;refine hK.out _ _ K11.out (fun hH=>?_)
     clear hK K;refine wpAnyH_take_ex (i:=11) 6 rfl rfl (by kernel_rfl) (by kernel_rfl) (by kernel_rfl) (fun _ _ _ _ h=>h) (by kernel_rfl) hH ?_
     apply Exists.intro;apply And.intro
     ·intro w9 _
      go_simp
      first | done | rfl
     simp only [sA,sB,sC];refine wpAnyH_done (by kernel_rfl) ?_ _
     refine NoPanic.normal ?_;clear hH;have HRC:=hid (right_calls8 _ _ L9 P9 w11 M11.out.lvs M11.out.pts (by have:=(Tt.right_parts HR9.out).1; omega) (by have:=(Tt.right_parts HR9.out).1; have:=(Tt.right_parts HR9.out).2.1; omega) (fun p hp=>Nat.le_trans (Tt.right_loose668 HR9.out p hp) (by decide)))
     rw [HR9.out] at HRC
     go_upto_region 8 with fail
     refine wp_region_lit ?_;iterate 3 (refine @wQ _ _ _ _ _ _ _ ?_ ?_;kernel_rfl;intro K hK;go_simp;refine hK _ _ ?_;clear hK K)
     refine @wpList_load_known _ _ _ _ _ _ _ ?_ 27 (.tmp 5) rfl (zb) (0) rfl (.agg #[.slice uad un uc,.slice vad vn vc]) (run_loadVar_row w11 zb 27 27 _ (0,0) _ Z11.out Tryz.underlying27 rfl treeInfo) ?_;kernel_rfl
     simp only [Act.put,sA,sB,sC];refine @wQ _ _ _ _ _ _ _ ?_ ?_;kernel_rfl;intro K hK;go_simp;go_at_call 9
     refine(HRC.out).mono ?_;rintro e w12 ⟨rfl,k12⟩;have M12:=hid (M11.out.kept k12);have Z12:=hid (row_kept Z11.out k12);have Q12:=hid (row_kept Q11.out k12);have K12:=hid (K11.out.onto k12);clear k12 M11 Z11 Q11 K11;refine hK _ _ ?_;clear hK K;iterate 2 (refine @wQ _ _ _ _ _ _ _ ?_ ?_;kernel_rfl;intro K hK;go_simp;refine hK _ _ ?_;clear hK K)
     go_upto_region 10 with fail
     refine wp_region_lit ?_;refine @wpList_load_known _ _ _ _ _ _ _ ?_ 27 (.tmp 5) rfl (zb) (0) rfl (.agg #[.slice uad un uc,.slice vad vn vc]) (run_loadVar_row w12 zb 27 27 _ (0,0) _ Z12.out Tryz.underlying27 rfl treeInfo) ?_;kernel_rfl
     simp only [Act.put,sA,sB,sC];refine wpList_store_row rfl 27 _ _ rfl (qb) #[.slice uad un uc,.slice vad vn vc] rfl rfl 27 #[.slice lad ln lc,.slice pad pn pc] Q12.out treeInfo rfl (tree_all _ _ _ _ _ _) ?_
     simp only [Act.put];have g13:=grown_setRow w12 qb #[.slice uad un uc,.slice vad vn vc];have M13:=hid ((M12.out.aside (b:=qb) (.inl rfl) g13).mono (B':=fun k=>k = qb) (fun _ h=>.inl h))
     have Q13:=hid (setRow_heap w12 qb _ #[.slice uad un uc,.slice vad vn vc] _ _ Q12.out);have K13:=hid ((HK.out.onto K12.out).grown g13 (HK.out.onto K12.out).size (fun q hq=>by cases hq; exact HQ.out))
     generalize w12.setRow qb #[.slice uad un uc,.slice vad vn vc] = w13 at g13 M13 Q13 K13 ⊢;clear g13 M12 Z12 Q12 K12 HK HQR;have hi9:=HLT.out;have ha9:=HA9.out;have hw64:IntKind.i64.wrap ((i:Int) + 1) = (i:Int) + 1:=wrap_small _ (by omega) (by omega)
     go_wp2
     go_roundw
     case rel=>exact⟨i + 1,(by have h2:=HLT.out; go_num),hid HLT.out,K13,_,_,_,_,_,_,Q13,L9,P9,_,HR9,M13⟩
     case measure=>have h2:=HLT.out; simp [RowKit.intOf]; omega
    refine AllReadyH.cons rfl (fun K hK=>?_) AllReadyH.nil
    rw [if_pos (by rfl)]
    have er:=alloc_tree wd;have ka:=kA wd (.cells #[.slice none 0 0,.slice none 0 0] 27)
    have za:=heap_new wd (.cells #[.slice none 0 0,.slice none 0 0] 27)
    have MD1:=hid (MD.out.box (.cells #[.slice none 0 0,.slice none 0 0] 27))
    have KD1:=hid (KD.out.onto ka);have QD1:=hid (row_kept QD.out ka);have HZQ:=hid (show qb < wd.heap.size from lt_of_block QD.out);have HZW:=hid (show wr.heap.size≤wd.heap.size from KD.out.size);generalize wd.alloc (.cells #[.slice none 0 0,.slice none 0 0] 27) = we at er za MD1 KD1 QD1 ⊢
    obtain⟨zb,hzb⟩:∃ x,x = wd.heap.size:=⟨_,rfl⟩;rw [← hzb] at er za MD1 HZQ HZW;have ZD1:=hid za;clear ka za hzb;refine wp_alloc_known 27 rfl (some 5) rfl _ er ?_
    simp only [Act.put,sA,sB,sC];refine hK.out _ _ KD1.out (fun hH=>?_)
    clear hK K er;refine wpAnyH_ready (rs:=[5]) (by kernel_rfl) (by simp) ?_
    refine AllReadyH.cons rfl (fun K hK=>?_) AllReadyH.nil
    rw [if_pos (by rfl)]
    go_simp
    go_wp2_with (go_at_call 8; refine(HST.out _ _ MD1.out (HK.out.onto KD1.out)).mono ?_; rintro e w9 ⟨lv9,pv9,rfl,k9,L9,P9,hr9,SL9,m9⟩)
    obtain⟨uad,uc,rfl⟩:=m9.lvs.shape;obtain⟨vad,vc,rfl⟩:=m9.pts.shape;obtain⟨un,hun⟩:∃ x,x = L9.length:=⟨_,rfl⟩;obtain⟨vn,hvn⟩:∃ x,x = P9.length:=⟨_,rfl⟩;rw [← hun,← hvn] at m9 ⊢;have HUN:=hid hun;have HVN:=hid hvn;have HR9:=hid hr9;have M9:=hid m9;have K9:=hid (KD1.out.onto k9);have Q9:=hid (row_kept QD1.out k9);have Z9:=hid (row_kept ZD1.out k9);clear hun hvn hr9 m9 k9;refine hK.out _ _ K9.out (fun hH=>?_)
    clear hK K;have M10:=M9;have K10:=K9;have Q10:=Q9;have Z10:=Z9;clear M9 K9 Q9 Z9;refine wpAnyH_take_ex (i:=6) 22 rfl rfl (by kernel_rfl) (by kernel_rfl) (by kernel_rfl) (fun _ _ _ _ h=>h) (by kernel_rfl) hH ?_
    apply Exists.intro;apply And.intro
    ·intro w9 _
     go_simp
     first | done | rfl
    simp only [sA,sB,sC];refine wpAnyH_take_ex (i:=7) 29 rfl rfl (by kernel_rfl) (by kernel_rfl) (by kernel_rfl) (fun _ _ _ _ h=>h) (by kernel_rfl) hH ?_
    apply Exists.intro;apply And.intro
    ·intro w9 _
     go_simp
     first | done | rfl
    simp only [sA,sB,sC];refine wpAnyH_take_ex (i:=8) 30 rfl rfl (by kernel_rfl) (by kernel_rfl) (by kernel_rfl) (fun _ _ _ _ h=>h) (by kernel_rfl) hH ?_
    apply Exists.intro;apply And.intro
    ·intro w9 _
     go_simp
     first | done | rfl
    simp only [sA,sB,sC];refine wpAnyH_ready (rs:=[10]) (by kernel_rfl) (by simp) ?_
    refine AllReadyH.cons rfl (fun K hK=>?_) AllReadyH.nil
    rw [if_pos (by rfl)]
    refine wp_store_row_none11 27 _ _ rfl rfl zb #[.slice uad un uc,.slice vad vn vc] rfl rfl 27 #[.slice none 0 0,.slice none 0 0] Z10.out treeInfo rfl (tree_all _ _ _ _ _ _) ?_
    have g11:=grown_setRow w9 zb #[.slice uad un uc,.slice vad vn vc];have M11:=hid (M10.out.aside (b:=zb) (.inr rfl) g11);have Z11:=hid (setRow_heap w9 zb _ #[.slice uad un uc,.slice vad vn vc] _ _ Z10.out);have Q11:=hid ((g11.block qb (lt_of_block Q10.out) (fun e=>Nat.ne_of_lt HZQ.out (Option.some.inj e))).trans Q10.out)
    have K11:=hid (K10.out.grown g11 K10.out.size (fun q hq=>by cases hq; exact HZW.out))
    generalize w9.setRow zb #[.slice uad un uc,.slice vad vn vc] = w11 at g11 M11 Z11 Q11 K11 ⊢;clear g11 M10 Z10 Q10 K10;refine hK.out _ _ K11.out (fun hH=>?_)
    clear hK K;refine wpAnyH_take_ex (i:=11) 6 rfl rfl (by kernel_rfl) (by kernel_rfl) (by kernel_rfl) (fun _ _ _ _ h=>h) (by kernel_rfl) hH ?_
    apply Exists.intro;apply And.intro
    ·intro w9 _
     go_simp
     first | done | rfl
    simp only [sA,sB,sC];refine wpAnyH_done (by kernel_rfl) ?_ _
    refine NoPanic.normal ?_;clear hH;have HRC:=hid (right_calls8 _ _ L9 P9 w11 M11.out.lvs M11.out.pts (by have:=(Tt.right_parts HR9.out).1; omega) (by have:=(Tt.right_parts HR9.out).1; have:=(Tt.right_parts HR9.out).2.1; omega) (fun p hp=>Nat.le_trans (Tt.right_loose668 HR9.out p hp) (by decide)))
    rw [HR9.out] at HRC
    go_upto_region 8 with fail
    refine wp_region_lit ?_;iterate 3 (refine @wQ _ _ _ _ _ _ _ ?_ ?_;kernel_rfl;intro K hK;go_simp;refine hK _ _ ?_;clear hK K)
    refine @wpList_load_known _ _ _ _ _ _ _ ?_ 27 (.tmp 5) rfl (zb) (0) rfl (.agg #[.slice uad un uc,.slice vad vn vc]) (run_loadVar_row w11 zb 27 27 _ (0,0) _ Z11.out Tryz.underlying27 rfl treeInfo) ?_;kernel_rfl
    simp only [Act.put,sA,sB,sC];refine @wQ _ _ _ _ _ _ _ ?_ ?_;kernel_rfl;intro K hK;go_simp;go_at_call 9
    refine(HRC.out).mono ?_;rintro e w12 ⟨rfl,k12⟩;have M12:=hid (M11.out.kept k12);have Z12:=hid (row_kept Z11.out k12);have Q12:=hid (row_kept Q11.out k12);have K12:=hid (K11.out.onto k12);clear k12 M11 Z11 Q11 K11;refine hK _ _ ?_;clear hK K;iterate 2 (refine @wQ _ _ _ _ _ _ _ ?_ ?_;kernel_rfl;intro K hK;go_simp;refine hK _ _ ?_;clear hK K)
    go_upto_region 10 with fail
    refine wp_region_lit ?_;refine @wpList_load_known _ _ _ _ _ _ _ ?_ 27 (.tmp 5) rfl (zb) (0) rfl (.agg #[.slice uad un uc,.slice vad vn vc]) (run_loadVar_row w12 zb 27 27 _ (0,0) _ Z12.out Tryz.underlying27 rfl treeInfo) ?_;kernel_rfl
    simp only [Act.put,sA,sB,sC];refine wpList_store_row rfl 27 _ _ rfl (qb) #[.slice uad un uc,.slice vad vn vc] rfl rfl 27 #[.slice lad ln lc,.slice pad pn pc] Q12.out treeInfo rfl (tree_all _ _ _ _ _ _) ?_
    simp only [Act.put];have g13:=grown_setRow w12 qb #[.slice uad un uc,.slice vad vn vc];have M13:=hid ((M12.out.aside (b:=qb) (.inl rfl) g13).mono (B':=fun k=>k = qb) (fun _ h=>.inl h))
    have Q13:=hid (setRow_heap w12 qb _ #[.slice uad un uc,.slice vad vn vc] _ _ Q12.out);have K13:=hid ((HK.out.onto K12.out).grown g13 (HK.out.onto K12.out).size (fun q hq=>by cases hq; exact HQ.out))
    generalize w12.setRow qb #[.slice uad un uc,.slice vad vn vc] = w13 at g13 M13 Q13 K13 ⊢;clear g13 M12 Z12 Q12 K12 HK HQR;have hi9:=HLT.out;have ha9:=HA9.out;have hw64:IntKind.i64.wrap ((i:Int) + 1) = (i:Int) + 1:=wrap_small _ (by omega) (by omega)
    go_wp2
    go_roundw
    case rel=>exact⟨i + 1,(by have h2:=HLT.out; go_num),hid HLT.out,K13,_,_,_,_,_,_,Q13,L9,P9,_,HR9,M13⟩
    case measure=>have h2:=HLT.out; simp [RowKit.intOf]; omega
   ·have hnl:¬ (i:Int) < (an:Int):=by omega
    clear hlt hi
    go_upto_region 11 with fail
    refine wp_region_lit ?_;refine @wQ _ _ _ _ _ _ _ ?_ ?_;kernel_rfl;intro K hK;go_simp;refine hK _ _ ?_;clear hK K;go_wp2;go_ret;exact⟨rfl,HK.out⟩
end Go.Proofs.YtaobiofngnfdiaaGreatDoor
