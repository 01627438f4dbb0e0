/-
 The walk of the law DagHead.
-/
import Derived.Test.YtfbfdaeagpdaiaaDagHeadMem
set_option maxRecDepth 100000
set_option maxHeartbeats 51200000
namespace Go.Proofs.Ytfbfdaeagpdaiaa
open List renaming setIfInBounds_toArray → sA, set_cons_zero → sB, set_cons_succ → sC
open BigFrame renaming wpList_want → wQ
open Go.RowKit Go.Shelf Go.Lib
theorem load_ptr15 {w:World}{g o:Nat}{x:Option Addr}(h:w.cell? ⟨g,o,none⟩ = some (.pointer x)):(loadVar 25 ⟨g,o,none⟩).run Try.prog w = .ok (.pointer x) w:=by
 go_simp
theorem wp_letters15 {P:Program}{c:Code}{Q:Exit→Act→World→Prop}{w:World}{ds:List Deferred}{t0 t1 t2 t3 t4 t5 t6 t7 t8 t9 t10 t11 t12 t13 t14 t15 t16 t17 t18 t19 t20 t21 t22 t23 t24 t25 t26 t27 t28 t29 t30 t31 t32 t33 t34 t35 t36 t37 t38 t39 t40 t41 t42 t43 t44 t45 t46 t47 t48 t49 t50 t51 t52 t53 t54 t55 t56 t57 t58 t59 t60 t61 t62 t63 t64 t65 t66 t67 t68 t69 t70 t71 t72 t73 t74 t75 t76 t77 t78 t79 t80 t81 t82 t83 t84 t85 t86 t87 t88 t89 t90 t91 t92 t93 t94 t95:Value}
  (h:∀ z2 z3 z6 z10 z11 z12 z13 z14 z15 z16 z17 z18 z19 z20 z21 z22 z23 z24 z25 z26 z27 z28 z29 z30 z31 z32 z33 z34 z35 z36 z37 z38 z39 z40 z41 z42 z43 z44 z45 z46 z47 z48 z49 z50 z51 z52 z53 z54 z55 z56 z57 z58 z59 z60 z61 z62 z63 z64 z65 z67 z68 z69 z70 z71 z72 z73 z74 z75 z76 z77 z78 z79 z80 z81 z82 z83 z84 z85 z86 z87 z88 z89 z90 z91 z92 z93 z94 z95:Value,c.wp P Q { tmps:=#[t0,t1,z2,z3,t4,t5,z6,t7,t8,t9,z10,z11,z12,z13,z14,z15,z16,z17,z18,z19,z20,z21,z22,z23,z24,z25,z26,z27,z28,z29,z30,z31,z32,z33,z34,z35,z36,z37,z38,z39,z40,z41,z42,z43,z44,z45,z46,z47,z48,z49,z50,z51,z52,z53,z54,z55,z56,z57,z58,z59,z60,z61,z62,z63,z64,z65,t66,z67,z68,z69,z70,z71,z72,z73,z74,z75,z76,z77,z78,z79,z80,z81,z82,z83,z84,z85,z86,z87,z88,z89,z90,z91,z92,z93,z94,z95],defers:=ds } w):c.wp P Q { tmps:=#[t0,t1,t2,t3,t4,t5,t6,t7,t8,t9,t10,t11,t12,t13,t14,t15,t16,t17,t18,t19,t20,t21,t22,t23,t24,t25,t26,t27,t28,t29,t30,t31,t32,t33,t34,t35,t36,t37,t38,t39,t40,t41,t42,t43,t44,t45,t46,t47,t48,t49,t50,t51,t52,t53,t54,t55,t56,t57,t58,t59,t60,t61,t62,t63,t64,t65,t66,t67,t68,t69,t70,t71,t72,t73,t74,t75,t76,t77,t78,t79,t80,t81,t82,t83,t84,t85,t86,t87,t88,t89,t90,t91,t92,t93,t94,t95],defers:=ds } w:=h _ _ _ _ _ _ _ _ _ _ _ _ _ _ _ _ _ _ _ _ _ _ _ _ _ _ _ _ _ _ _ _ _ _ _ _ _ _ _ _ _ _ _ _ _ _ _ _ _ _ _ _ _ _ _ _ _ _ _ _ _ _ _ _ _ _ _ _ _ _ _ _ _ _ _ _ _ _ _ _ _ _ _ _ _ _ _ _
def Bad15 (tv:Vx)(fl:Int)(y:Vx):Prop:=tv.dep < y.dep∨y.dep < fl∨(y.dep = tv.dep∧Bk.less y.id tv.id = true)
theorem no_bad15 {keep:Int}{L:List Vx}{tv:Vx}(st:Dg.St keep L (some tv)){y:Vx}(hy:y∈L):¬ Bad15 tv (Dg.floor keep (some tv)) y:=by
 have h1:=st.above y hy;have h2:=Vx.lead_no.1 (st.top.2 y hy);rintro (h | h | ⟨h,h3⟩)
 ·omega
 ·omega
 ·rw [h2.2 h] at h3; cases h3
attribute [local go_sem] Oper.semAt_some
theorem daghead_walk (kb:Int)(hk0:0≤kb)(hk1:kb≤255)(lv:Value)(M:List Vx)(w:World)(hM:Va w lv M):
  Calls Try.prog 4 #[.int .u8 kb,lv] w fun e w'=>e = .returned (.bool true)∧Kept w.heap.size w.heap.size w w':=by
 have HVA:=hid hM;obtain⟨hok,ad,g,o,c,rfl,hel⟩:=hM;have HOK:=hid hok;obtain⟨ln,hln⟩:∃ ln,ln = M.length:=⟨_,rfl⟩;have HLN:=hid hln;rw [← hln] at HVA ⊢;have HEL:=hid (show ∀ i (hi:i < M.length),ad = some ⟨g,o,none⟩∧g < w.heap.size∧w.rangeAt g (o + i * 66) M[i].cells from hel);have HAW:=hid (fun x=>awake15 x)
 obtain⟨kp,hkp⟩:∃ x,x = 1 + kb.tmod 64:=⟨_,rfl⟩
 have hkp1:1≤kp∧kp≤64:=by
  have h1:=Int.tmod_eq_emod_of_nonneg (b:=64) hk0;have h2:=Int.emod_nonneg kb (show(64:Int)≠0 by decide)
  have h3:=Int.emod_lt_of_pos kb (show(0:Int) < 64 by decide)
  omega
 have HNEW:=hid (fun x=>new15 kp hkp1 x)
 have HKP:=hid (show IntKind.i64.wrap (1 + (IntKind.i64.wrap kb).tmod 64) = kp by rw [i64_in15 kb (by omega),← hkp,i64_in15 kp (by omega)])
 have HKB:=hid (show 0≤kb∧kb≤255 from⟨hk0,hk1⟩);clear hln hel hok hkp hkp1;refine(callsIn_wide (n:=3)).1 (callsIn_of_wp_marks Try.func4 rfl trivial ?_ rfl)
 simp only [Try.ntmps4,List.size_toArray,List.length_cons,List.length_nil,Nat.reduceAdd,Nat.reduceSub,Array.replicate_succ,Array.replicate_zero,List.push_toArray,List.append_toArray,List.nil_append,List.cons_append]
 refine wpIn_wide.2 ?_
 go_upto_region 1 with fail
 obtain⟨rb,hrb⟩:∃ x,x = w.heap.size:=⟨_,rfl⟩;have b1:Boxed (w.alloc (.cells #[.bool false] 4)) rb 4 (.bool false):=by rw [hrb]; exact heap_new w _
 have k1:=kA w (.cells #[.bool false] 4)
 have HRB:=hid (show w.heap.size≤rb by omega)
 rw [← hrb];generalize w.alloc (.cells #[.bool false] 4) = w1 at b1 k1 ⊢
 have B1:=hid b1;have K1:=hid k1;clear b1 k1 hrb
 by_cases h60:(60:Int) < (ln:Int)
 ·refine wp_region_lit ?_
  refine @wQ _ _ _ _ _ _ _ ?_ ?_;kernel_rfl;intro K hK;go_simp;go_at_call 5
  refine(HAW.out _).mono ?_;rintro e w2 ⟨rfl,kx⟩;have K2:=hid (K1.out.onto kx);have B2:=hid (show Boxed w2 rb 4 (.bool false) from row_kept B1.out kx)
  clear kx;refine hK _ _ ?_;clear hK K;iterate 6 (refine @wQ _ _ _ _ _ _ _ ?_ ?_;kernel_rfl;intro K hK;go_simp;refine hK _ _ ?_;clear hK K)
  go_upto_region 2 with fail
  refine wp_region_lit ?_;refine @wQ _ _ _ _ _ _ _ ?_ ?_;kernel_rfl;intro K hK;go_simp;go_at_call 5
  refine(HAW.out _).mono ?_;rintro e w3 ⟨rfl,kx⟩;have K3:=hid (K2.out.onto kx);have B3:=hid (show Boxed w3 rb 4 (.bool false) from row_kept B2.out kx)
  clear kx;refine hK _ _ ?_;clear hK K;have hc3:=B3.out.cell;have hf3:=B3.out.frozen;have hk4:=K3.out.setCell15 (a:=⟨rb,0,none⟩) HRB.out (.bool true);have hb4:=B3.out.set (.bool true)
  go_wp2_with fail
  exact leaves_marks15 (w0:=w) (rb:=rb) (fun w hb=>results_cell1_15 rfl _ _ hb rfl rfl rfl) (fun w' hk=>⟨rfl,hk⟩) [] _ hb4 (fun d hd=>nomatch hd) List.nodup_nil hk4
 ·refine wp_region_lit ?_
  refine @wQ _ _ _ _ _ _ _ ?_ ?_;kernel_rfl;intro K hK;go_simp;go_at_call 5
  refine(HAW.out _).mono ?_;rintro e w2 ⟨rfl,kx⟩;have K2:=hid (K1.out.onto kx);have B2:=hid (show Boxed w2 rb 4 (.bool false) from row_kept B1.out kx)
  clear kx;refine hK _ _ ?_;clear hK K;iterate 6 (refine @wQ _ _ _ _ _ _ _ ?_ ?_;kernel_rfl;intro K hK;go_simp;refine hK _ _ ?_;clear hK K)
  go_upto_region 3 with fail
  refine wp_region_lit ?_;iterate 4 (refine @wQ _ _ _ _ _ _ _ ?_ ?_;kernel_rfl;intro K hK;go_simp;refine hK _ _ ?_;clear hK K)
  refine @wQ _ _ _ _ _ _ _ ?_ ?_;kernel_rfl;intro K hK;go_simp;rw [HKP.out];go_at_call 6
  refine(HNEW.out _).mono ?_;rintro e w3 ⟨rfl,kx,hsz3,hd3⟩;have K3:=hid (K2.out.onto kx);have B3:=hid (show Boxed w3 rb 4 (.bool false) from row_kept B2.out kx)
  have D3:=hid hd3;have F3s:=hid (show ∀ k,(w2.heap.size≤k∧k < w2.heap.size + 3)→w.heap.size≤k∧k≠rb∧k < w3.heap.size from fun k h=>⟨Nat.le_trans K2.out.size h.1,by have:=B2.out.lt; omega,by omega⟩)
  obtain⟨sb,hs⟩:∃ x,x = w2.heap.size + 2:=⟨_,rfl⟩;rw [← hs] at D3 ⊢;clear kx hd3 hsz3 hs;refine hK _ _ ?_;clear hK K;iterate 6 (refine @wQ _ _ _ _ _ _ _ ?_ ?_;kernel_rfl;intro K hK;go_simp;refine hK _ _ ?_;clear hK K)
  have b4:Boxed (w3.alloc (.cells #[.pointer (some ⟨sb,0,none⟩)] 25)) w3.heap.size 25 (.pointer (some ⟨sb,0,none⟩)):=heap_new w3 _
  have k4:Kept w3.heap.size w3.heap.size w3 (w3.alloc (.cells #[.pointer (some ⟨sb,0,none⟩)] 25)):=(Kept.refl _ _ _).alloc (Nat.le_refl _) _
  have H4:HdI w (w3.alloc (.cells #[.pointer (some ⟨sb,0,none⟩)] 25)) rb w3.heap.size sb kp 0 (-1) 0 _ [] none [] []:=
   ⟨row_kept B3.out k4,b4,D3.out.kept k4,Dg.St.empty kp,Nat.le_refl _,fun k hk=>⟨(F3s.out k hk).1,(F3s.out k hk).2.1,Nat.ne_of_lt (F3s.out k hk).2.2⟩,HRB.out,K3.out.onto k4,Int.le_refl _,(fun d hd=>nomatch hd),List.nodup_nil⟩
  generalize w3.alloc (.cells #[.pointer (some ⟨sb,0,none⟩)] 25) = w4 at H4 ⊢
  generalize w3.heap.size = cb at H4 ⊢;have HI0:=hid H4;clear b4 k4 H4 D3 F3s B3 K3 B2 K2 B1 K1 HRB HNEW
  go_wp2_with fail
  refine wp_loop (fun a' wr=>∃ (i:Nat) (dp:Int) (n:Nat) (F:Nat→Prop) (L:List Vx) (h:Option Vx) (Ps:List (List UInt8)) (ds:List Nat),(i≤ln∧Hid (HdI w wr rb cb sb kp i dp n F L h Ps ds))∧∃ u2 u3 u6 u9 u10 u11 u12 u13 u14 u15 u16 u17 u18 u19 u20 u21 u22 u23 u24 u25 u26 u27 u28 u29 u30 u31 u32 u33 u34 u35 u36 u37 u38 u39 u40 u41 u42 u43 u44 u45 u46 u47 u48 u49 u50 u51 u52 u53 u54 u55 u56 u57 u58 u59 u60 u61 u62 u63 u64 u65 u66 u67 u68 u69 u70 u71 u72 u73 u74 u75 u76 u77 u78 u79 u80 u81 u82 u83 u84 u85 u86 u87 u88 u89 u90 u91 u92 u93 u94 u95:Value,a' = { tmps:=#[.int .u8 kb,.slice ad ln c,u2,u3,.pointer (some ⟨rb,0,none⟩),.pointer (some ⟨cb,0,none⟩),u6,.int .i64 dp,.int .i64 (i:Int),u9,u10,u11,u12,u13,u14,u15,u16,u17,u18,u19,u20,u21,u22,u23,u24,u25,u26,u27,u28,u29,u30,u31,u32,u33,u34,u35,u36,u37,u38,u39,u40,u41,u42,u43,u44,u45,u46,u47,u48,u49,u50,u51,u52,u53,u54,u55,u56,u57,u58,u59,u60,u61,u62,u63,u64,u65,u66,u67,u68,u69,u70,u71,u72,u73,u74,u75,u76,u77,u78,u79,u80,u81,u82,u83,u84,u85,u86,u87,u88,u89,u90,u91,u92,u93,u94,u95],defers:=mks ds }) (fun a' _=>ln - (RowKit.intOf (a'.tmps.getD 8 undef)).toNat) ?_ ?_
  ·refine⟨0,-1,0,_,[],none,[],[],⟨Nat.zero_le _,HI0⟩,?_⟩
   repeat apply Exists.intro
   rfl
  ·rintro a' wr ⟨i,dp,n,F,L,h,Ps,ds,⟨hil,HI⟩,hinv⟩
   obtain⟨u2,hinv⟩:=hinv;obtain⟨u3,hinv⟩:=hinv;obtain⟨u6,hinv⟩:=hinv;obtain⟨u9,hinv⟩:=hinv;obtain⟨u10,hinv⟩:=hinv;obtain⟨u11,hinv⟩:=hinv;obtain⟨u12,hinv⟩:=hinv;obtain⟨u13,hinv⟩:=hinv;obtain⟨u14,hinv⟩:=hinv;obtain⟨u15,hinv⟩:=hinv;obtain⟨u16,hinv⟩:=hinv;obtain⟨u17,hinv⟩:=hinv;obtain⟨u18,hinv⟩:=hinv;obtain⟨u19,hinv⟩:=hinv;obtain⟨u20,hinv⟩:=hinv;obtain⟨u21,hinv⟩:=hinv;obtain⟨u22,hinv⟩:=hinv;obtain⟨u23,hinv⟩:=hinv;obtain⟨u24,hinv⟩:=hinv;obtain⟨u25,hinv⟩:=hinv;obtain⟨u26,hinv⟩:=hinv;obtain⟨u27,hinv⟩:=hinv;obtain⟨u28,hinv⟩:=hinv;obtain⟨u29,hinv⟩:=hinv;obtain⟨u30,hinv⟩:=hinv;obtain⟨u31,hinv⟩:=hinv;obtain⟨u32,hinv⟩:=hinv;obtain⟨u33,hinv⟩:=hinv;obtain⟨u34,hinv⟩:=hinv;obtain⟨u35,hinv⟩:=hinv;obtain⟨u36,hinv⟩:=hinv;obtain⟨u37,hinv⟩:=hinv;obtain⟨u38,hinv⟩:=hinv;obtain⟨u39,hinv⟩:=hinv;obtain⟨u40,hinv⟩:=hinv;obtain⟨u41,hinv⟩:=hinv;obtain⟨u42,hinv⟩:=hinv;obtain⟨u43,hinv⟩:=hinv;obtain⟨u44,hinv⟩:=hinv;obtain⟨u45,hinv⟩:=hinv;obtain⟨u46,hinv⟩:=hinv;obtain⟨u47,hinv⟩:=hinv;obtain⟨u48,hinv⟩:=hinv;obtain⟨u49,hinv⟩:=hinv;obtain⟨u50,hinv⟩:=hinv;obtain⟨u51,hinv⟩:=hinv;obtain⟨u52,hinv⟩:=hinv;obtain⟨u53,hinv⟩:=hinv;obtain⟨u54,hinv⟩:=hinv;obtain⟨u55,hinv⟩:=hinv;obtain⟨u56,hinv⟩:=hinv;obtain⟨u57,hinv⟩:=hinv;obtain⟨u58,hinv⟩:=hinv;obtain⟨u59,hinv⟩:=hinv;obtain⟨u60,hinv⟩:=hinv;obtain⟨u61,hinv⟩:=hinv;obtain⟨u62,hinv⟩:=hinv;obtain⟨u63,hinv⟩:=hinv;obtain⟨u64,hinv⟩:=hinv;obtain⟨u65,hinv⟩:=hinv;obtain⟨u66,hinv⟩:=hinv;obtain⟨u67,hinv⟩:=hinv;obtain⟨u68,hinv⟩:=hinv;obtain⟨u69,hinv⟩:=hinv;obtain⟨u70,hinv⟩:=hinv;obtain⟨u71,hinv⟩:=hinv;obtain⟨u72,hinv⟩:=hinv;obtain⟨u73,hinv⟩:=hinv;obtain⟨u74,hinv⟩:=hinv;obtain⟨u75,hinv⟩:=hinv;obtain⟨u76,hinv⟩:=hinv;obtain⟨u77,hinv⟩:=hinv;obtain⟨u78,hinv⟩:=hinv;obtain⟨u79,hinv⟩:=hinv;obtain⟨u80,hinv⟩:=hinv;obtain⟨u81,hinv⟩:=hinv;obtain⟨u82,hinv⟩:=hinv;obtain⟨u83,hinv⟩:=hinv;obtain⟨u84,hinv⟩:=hinv;obtain⟨u85,hinv⟩:=hinv;obtain⟨u86,hinv⟩:=hinv;obtain⟨u87,hinv⟩:=hinv;obtain⟨u88,hinv⟩:=hinv;obtain⟨u89,hinv⟩:=hinv;obtain⟨u90,hinv⟩:=hinv;obtain⟨u91,hinv⟩:=hinv;obtain⟨u92,hinv⟩:=hinv;obtain⟨u93,hinv⟩:=hinv;obtain⟨u94,hinv⟩:=hinv;obtain⟨u95,hinv⟩:=hinv;have ha:=hinv;subst ha
   try dsimp only
   clear HI0
   by_cases hlt:i < ln
   ·have hki:(i:Int) < (ln:Int):=by omega
    have hi0:¬ (i:Int) < 0:=by omega
    have hiM:i < M.length:=by rw [← HLN.out]; exact hlt
    obtain⟨had,hg,har⟩:=HEL.out i hiM;have hxok:=HOK.out _ (List.getElem_mem hiM);obtain⟨x,hx⟩:∃ x,x = M[i]:=⟨_,rfl⟩;rw [← hx] at har hxok;have HLT:=hid hlt;obtain⟨v,hv⟩:∃ v:Vx,v = ⟨x.id,x.par,x.dep,0⟩:=⟨_,rfl⟩;have HVO:=hid (show v.Ok by rw [hv]; exact hxok)
    have har2:=fun(u:World) (k:Dfr F wr u)=>range_dfr15 (rangeAt_kept HI.out.kp har hg (Nat.ne_of_lt hg)) (Nat.lt_of_lt_of_le hg HI.out.kp.size) k (fun hf=>by have:=(HI.out.old g hf).1; omega)
    have HL1:=hid (fun(u:World) (k:Dfr F wr u)=>load_hash15 hxok.1 (range_id15 (har2 u k)))
    have HL2:=hid (fun(u:World) (k:Dfr F wr u)=>load_hash15 hxok.2 (range_par15 hxok (har2 u k)))
    have HL3:=hid (fun(u:World) (k:Dfr F wr u)=>load_int15 (range_dep15 hxok (har2 u k)))
    have HCB:=hid (fun(u:World) (k:Dfr F wr u)=>load_ptr15 (show Boxed u cb _ _ from(k.block cb HI.out.box.lt (fun hf=>(HI.out.old cb hf).2.2 rfl)).trans HI.out.box).cell)
    have HBV:=hid (fun u=>build_vx3 x.id x.par hxok.1 hxok.2 x.dep u)
    rw [← hv] at HBV;have HIN:=hid (fun(u:World) (k:Kept wr.heap.size wr.heap.size wr u)=>insert15 u (HI.out.dst.kept k) HI.out.st v HVO.out (by have:=HI.out.nle; omega))
    subst had;obtain⟨xd,hxd⟩:∃ y,y = x.dep:=⟨_,rfl⟩;rw [← hxd] at HL3 HBV;unfold Vx.val at HBV HIN;generalize (bcells x.id).toArray = ic at HL1 HBV;generalize (bcells x.par).toArray = pc at HL2 HBV;generalize v.cells.toArray = VC at HBV HIN;clear har har2 hg hxok hx hv hxd hiM hlt
    go_upto_region 8 with fail
    refine wp_region_noPanic ?_;refine wp_region_held_drew (S:=fun x=>Dfr F wr x) (by kernel_rfl) (Dfr.of_kept (Kept.refl _ _ _).drew) (fun hH=>?_)
    have KD:=hid (show Kept wr.heap.size wr.heap.size wr wr.drew from(Kept.refl _ _ _).drew);obtain⟨wd,hwd⟩:∃ x,x = wr.drew:=⟨_,rfl⟩;rw [← hwd] at hH KD ⊢;clear hwd;refine wpAnyH_take_at (i:=0) 34 (.pointer (some ⟨sb,0,none⟩)) rfl rfl (by kernel_rfl) (by kernel_rfl) (by kernel_rfl) (fun _ _ _ h=>h) (yieldsIf_load_known (by kernel_rfl) 25 _ rfl (cb) (0) rfl (.pointer (some ⟨sb,0,none⟩)) (fun x k=>HCB.out x k)) hH ?_
    simp only [sA,sB,sC];refine wpAnyH_take_ex (i:=1) 35 rfl rfl (by kernel_rfl) (by kernel_rfl) (by kernel_rfl) (fun _ _ _ _ h=>h) (by kernel_rfl) hH ?_
    apply Exists.intro;apply And.intro
    ·intro w9 _
     go_simp
     first | done | rfl
    simp only [sA,sB,sC];refine wpAnyH_take_ex (i:=2) 36 rfl rfl (by kernel_rfl) (by kernel_rfl) (by kernel_rfl) (fun _ _ _ _ h=>h) (by kernel_rfl) hH ?_
    apply Exists.intro;apply And.intro
    ·intro w9 _
     go_simp
     first | done | rfl
    simp only [sA,sB,sC];refine wpAnyH_take_ex (i:=3) 37 rfl rfl (by kernel_rfl) (by kernel_rfl) (by kernel_rfl) (fun _ _ _ _ h=>h) (by kernel_rfl) hH ?_
    apply Exists.intro;apply And.intro
    ·intro w9 _
     go_simp
     first | done | rfl
    simp only [sA,sB,sC];refine wpAnyH_take_ex (i:=4) 38 rfl rfl (by kernel_rfl) (by kernel_rfl) (by kernel_rfl) (fun _ _ _ _ h=>h) (by kernel_rfl) hH ?_
    apply Exists.intro;apply And.intro
    ·intro w9 _
     go_simp
     first | done | rfl
    simp only [sA,sB,sC];refine wpAnyH_take_at (i:=5) 39 (.agg ic) rfl rfl (by kernel_rfl) (by kernel_rfl) (by kernel_rfl) (fun _ _ _ h=>h) (yieldsIf_load_known (by kernel_rfl) 30 _ rfl (g) (o + i * 66) rfl (.agg ic) (fun x k=>HL1.out x k)) hH ?_
    simp only [sA,sB,sC];refine wpAnyH_take_ex (i:=6) 40 rfl rfl (by kernel_rfl) (by kernel_rfl) (by kernel_rfl) (fun _ _ _ _ h=>h) (by kernel_rfl) hH ?_
    apply Exists.intro;apply And.intro
    ·intro w9 _
     go_simp
     first | done | rfl
    simp only [sA,sB,sC];refine wpAnyH_take_ex (i:=7) 41 rfl rfl (by kernel_rfl) (by kernel_rfl) (by kernel_rfl) (fun _ _ _ _ h=>h) (by kernel_rfl) hH ?_
    apply Exists.intro;apply And.intro
    ·intro w9 _
     go_simp
     first | done | rfl
    simp only [sA,sB,sC];refine wpAnyH_take_ex (i:=8) 42 rfl rfl (by kernel_rfl) (by kernel_rfl) (by kernel_rfl) (fun _ _ _ _ h=>h) (by kernel_rfl) hH ?_
    apply Exists.intro;apply And.intro
    ·intro w9 _
     go_simp
     first | done | rfl
    simp only [sA,sB,sC];refine wpAnyH_take_ex (i:=9) 43 rfl rfl (by kernel_rfl) (by kernel_rfl) (by kernel_rfl) (fun _ _ _ _ h=>h) (by kernel_rfl) hH ?_
    apply Exists.intro;apply And.intro
    ·intro w9 _
     go_simp
     first | done | rfl
    simp only [sA,sB,sC];refine wpAnyH_take_at (i:=10) 44 (.agg pc) rfl rfl (by kernel_rfl) (by kernel_rfl) (by kernel_rfl) (fun _ _ _ h=>h) (yieldsIf_load_known (by kernel_rfl) 30 _ rfl (g) (o + i * 66 + 32) rfl (.agg pc) (fun x k=>HL2.out x k)) hH ?_
    simp only [sA,sB,sC];refine wpAnyH_take_ex (i:=11) 45 rfl rfl (by kernel_rfl) (by kernel_rfl) (by kernel_rfl) (fun _ _ _ _ h=>h) (by kernel_rfl) hH ?_
    apply Exists.intro;apply And.intro
    ·intro w9 _
     go_simp
     first | done | rfl
    simp only [sA,sB,sC];refine wpAnyH_take_ex (i:=12) 46 rfl rfl (by kernel_rfl) (by kernel_rfl) (by kernel_rfl) (fun _ _ _ _ h=>h) (by kernel_rfl) hH ?_
    apply Exists.intro;apply And.intro
    ·intro w9 _
     go_simp
     first | done | rfl
    simp only [sA,sB,sC];refine wpAnyH_take_ex (i:=13) 47 rfl rfl (by kernel_rfl) (by kernel_rfl) (by kernel_rfl) (fun _ _ _ _ h=>h) (by kernel_rfl) hH ?_
    apply Exists.intro;apply And.intro
    ·intro w9 _
     go_simp
     first | done | rfl
    simp only [sA,sB,sC];refine wpAnyH_take_ex (i:=14) 48 rfl rfl (by kernel_rfl) (by kernel_rfl) (by kernel_rfl) (fun _ _ _ _ h=>h) (by kernel_rfl) hH ?_
    apply Exists.intro;apply And.intro
    ·intro w9 _
     go_simp
     first | done | rfl
    simp only [sA,sB,sC];refine wpAnyH_take_at (i:=15) 49 (.int .i64 xd) rfl rfl (by kernel_rfl) (by kernel_rfl) (by kernel_rfl) (fun _ _ _ h=>h) (yieldsIf_load_known (by kernel_rfl) 3 _ rfl (g) (o + i * 66 + 64) rfl (.int .i64 xd) (fun x k=>HL3.out x k)) hH ?_
    simp only [sA,sB,sC];refine wpAnyH_take_at (i:=16) 50 (.agg VC) rfl rfl (by kernel_rfl) (by kernel_rfl) (by kernel_rfl) (fun _ _ _ h=>h) (yieldsIf_buildN15 (by kernel_rfl) 36 _ rfl #[(0,.agg ic),(1,.agg pc),(2,.int .i64 xd)] (by kernel_rfl) _ (fun w=>HBV.out w)) hH ?_
    simp only [sA,sB,sC];refine wpAnyH_ready (rs:=[17]) (by kernel_rfl) (by simp) ?_
    refine AllReadyH.cons rfl (fun K hK=>?_) AllReadyH.nil
    rw [if_pos (by rfl)]
    go_simp
    go_wp2_with (go_at_call 7; refine(HIN.out _ KD.out).mono ?_; rintro e w2 hI; have hdf:=hI.dfr15; obtain⟨⟨u,rfl⟩,n2,F2,L2,h2,P2,hI2⟩:=HI.out.insert KD.out HVO.out hI)
    have HI2:=hid hI2;clear hI hI2;refine hK.out _ _ (Dfr.trans hH hdf (fun _ h=>.inl h)) (fun hH=>?_)
    clear hK K;refine wpAnyH_done (by kernel_rfl) ?_ _
    refine NoPanic.normal ?_;have hb2:=HI2.out.box.cell;have HHD:=hid (head15 _ HI2.out.dst);have htv:∃ tv:Vx,tv.Ok∧∃ ob,head2 h2 = .returned (.tuple #[tv.val,.bool ob])∧(ob = true→h2 = some tv):=⟨_,head_ok15 HI2.out.dst.st0,_,rfl,fun h=>by cases h2 <;> first | rfl | cases h⟩
    obtain⟨tv,htok,ob,hte,hob⟩:=htv;rw [hte] at HHD;unfold Vx.val at HHD;have HTO:=hid htok;have HOB:=hid hob;have HCI:=hid (vxSize15 htok);have HCS:=hid (show tv.cells.toArray.size = 66 by rw [List.size_toArray,Vx.cells_length htok])
    have HCA:=hid (Vx.cells_all tv);have HTB:=hid (show ∀ (u:World) (b:Nat),u.heap[b]? = some (.cells tv.cells.toArray 36 (0,0))→Vb u b tv from fun u b h=>h)
    generalize tv.cells.toArray = CC at HHD HCI HCS HCA HTB;obtain⟨ZC,hZC⟩:∃ x,x = Vx.zero.cells.toArray:=⟨_,rfl⟩;have HZE:=hid hZC.symm;have HZS:=hid (show ZC.size = 66 by rw [hZC,List.size_toArray,Vx.cells_length Vx.zero_ok])
    clear hte htok hob hZC
    go_upto_region 9 with fail
    refine wp_region_lit ?_;refine @wQ _ _ _ _ _ _ _ ?_ ?_;kernel_rfl;intro K hK;go_simp;refine hK _ _ ?_;clear hK K;refine @wQ _ _ _ _ _ _ _ ?_ ?_;kernel_rfl;intro K hK;go_simp;go_at_call 8
    refine(HHD.out).mono ?_;rintro e w3 ⟨rfl,kx3⟩;have HI3:=hid (HI2.out.kept kx3);clear kx3;refine hK _ _ ?_;clear hK K;iterate 3 (refine @wQ _ _ _ _ _ _ _ ?_ ?_;kernel_rfl;intro K hK;go_simp;refine hK _ _ ?_;clear hK K)
    refine @wpL_alloc _ _ _ _ _ _ _ _ ?_ 36 rfl _ (alloc_vx15 _) ?_;kernel_rfl
    simp only [Act.put,sA,sB,sC];rw [HZE.out];refine wpList_store_row rfl 36 _ _ rfl (w3.heap.size) CC rfl rfl 36 ZC (heap_new _ _) (HCI.out) (by rw [HCS.out,HZS.out]) (HCA.out) ?_
    simp only [Act.put];rw [World.setRow_alloc_new];refine @wQ _ _ _ _ _ _ _ ?_ ?_;kernel_rfl;intro K hK;go_simp;refine hK _ _ ?_;clear hK K;have k4:Kept w3.heap.size w3.heap.size w3 (w3.alloc (.cells CC 36)):=(Kept.refl _ _ _).alloc (Nat.le_refl _) _
    have t4:=HTB.out _ _ (heap_new w3 (.cells CC 36))
    have HI4:=hid (HI3.out.kept k4);generalize w3.alloc (.cells CC 36) = w4 at HI4 t4 ⊢
    generalize w3.heap.size = hb at t4 ⊢;have HT4:=hid t4;clear k4 t4 HI3 hb2
    cases ob with
    | false=>
     go_wp2_with fail
     refine⟨⟨i + 1,dp,n2,F2,L2,h2,P2,ds,⟨HLT.out,HI4⟩,?_⟩,?_⟩
     ·repeat apply Exists.intro
      rfl
     ·have:=HLT.out
      simp [RowKit.intOf]
      omega
    | true=>
     obtain rfl:=HOB.out rfl;have hdc:=HT4.out.dep HTO.out
     have hdn:¬ tv.dep < dp:=by
      have h9:dp≤tv.dep:=HI4.out.dep
      omega
     have hb4:=HI4.out.box.cell;obtain⟨td,htd⟩:∃ x,x = tv.dep:=⟨_,rfl⟩;rw [← htd] at hdc hdn;have HTD:=hid htd;clear htd
     go_upto_region 14 with fail
     refine wp_region_lit ?_;refine @wQ _ _ _ _ _ _ _ ?_ ?_;kernel_rfl;intro K hK;go_simp;refine hK _ _ ?_;clear hK K;refine @wQ _ _ _ _ _ _ _ ?_ ?_;kernel_rfl;intro K hK;go_simp;go_at_call 10
     refine(all15 sb _).mono ?_;rintro e w9 ⟨rfl,rfl⟩;refine hK _ _ ?_;clear hK K
     go_wp2_with fail
     refine wp_letters15 ?_;intro z2 z3 z6 z10 z11 z12 z13 z14 z15 z16 z17 z18 z19 z20 z21 z22 z23 z24 z25 z26 z27 z28 z29 z30 z31 z32 z33 z34 z35 z36 z37 z38 z39 z40 z41 z42 z43 z44 z45 z46 z47 z48 z49 z50 z51 z52 z53 z54 z55 z56 z57 z58 z59 z60 z61 z62 z63 z64 z65 z67 z68 z69 z70 z71 z72 z73 z74 z75 z76 z77 z78 z79 z80 z81 z82 z83 z84 z85 z86 z87 z88 z89 z90 z91 z92 z93 z94 z95;have b5:Boxed (w4.alloc (.cells #[.pointer (some ⟨sb,0,none⟩)] 25)) w4.heap.size 25 (.pointer (some ⟨sb,0,none⟩)):=heap_new w4 _
     have k5:Kept w4.heap.size w4.heap.size w4 (w4.alloc (.cells #[.pointer (some ⟨sb,0,none⟩)] 25)):=(Kept.refl _ _ _).alloc (Nat.le_refl _) _
     have HI5:=hid (HI4.out.kept k5);have HT5:=hid (HT4.out.kept k5);generalize w4.alloc (.cells #[.pointer (some ⟨sb,0,none⟩)] 25) = w5 at HI5 HT5 b5 ⊢
     generalize w4.heap.size = ab at b5 ⊢;clear k5 hb4 hdc hdn HI4 HT4;refine(wpIn_wide (n:=3)).1 ?_
     refine wpIn_rangeFunc_ownH rfl (by omega) (gf:=18) (lb:=#[.pointer (some ⟨ab,0,none⟩)]) rfl trivial (enters_of Try.func18 (by kernel_rfl) rfl)
      (all_stops15 2 (by omega) ab w5 b5.lt b5.cell HI5.out.dst) (fun h k=>KC.t h k) KC.b (Below.refl _ _) (fun _=>rfl)
      (fun(pre:List VxO) W=>Below w5.heap.size w5 W)
      (fun _ pre _=>∃ y∈pre,Bad15 tv (Dg.floor kp (some tv)) y.1)
      (ownFrom_below (Nat.le_refl _) (Nat.le_refl _))
      (fun _=>ownFrom_pure _ _)
      (Below.refl _ _)
      (fun x a' W=>∃ Bx,w5.heap.size≤Bx∧Vb W Bx x.1∧a' = { tmps:=#[.int .u8 kb,.slice (some ⟨g,o,none⟩) ln c,z2,z3,.pointer (some ⟨rb,0,none⟩),.pointer (some ⟨cb,0,none⟩),z6,.int .i64 td,.int .i64 (i:Int),.pointer (some ⟨hb,0,none⟩),z10,.pointer (some ⟨Bx,0,none⟩),z12,z13,z14,z15,z16,z17,z18,z19,z20,z21,z22,z23,z24,z25,z26,z27,z28,z29,z30,z31,z32,z33,z34,z35,z36,z37,z38,z39,z40,z41,z42,z43,z44,z45,z46,z47,z48,z49,z50,z51,z52,z53,z54,z55,z56,z57,z58,z59,z60,z61,z62,z63,z64,z65,.func (.func 18) #[] #[.pointer (some ⟨ab,0,none⟩)],.agg x.1.cells.toArray,z68,z69,z70,z71,z72,z73,z74,z75,z76,z77,z78,z79,z80,z81,z82,z83,z84,z85,z86,z87,z88,z89,z90,z91,z92,z93,z94,z95],defers:=[] })
      (fun x a' s A B row hs hg hr=>by obtain⟨Bx,h1,h2,h3⟩:=hs; exact⟨Bx,h1,h2.own15 hg (fun r e=>(hr r e).2),h3⟩)
      ?assign ?body ?done ?stop
     case assign=>
      rintro l pre x W K hB hK;have hst:=store_vx15 W x.1 x.2;have hal:=alloc_vx15 W
      have hfin:K { tmps:=#[.int .u8 kb,.slice (some ⟨g,o,none⟩) ln c,z2,z3,.pointer (some ⟨rb,0,none⟩),.pointer (some ⟨cb,0,none⟩),z6,.int .i64 td,.int .i64 (i:Int),.pointer (some ⟨hb,0,none⟩),z10,.pointer (some ⟨W.heap.size,0,none⟩),z12,z13,z14,z15,z16,z17,z18,z19,z20,z21,z22,z23,z24,z25,z26,z27,z28,z29,z30,z31,z32,z33,z34,z35,z36,z37,z38,z39,z40,z41,z42,z43,z44,z45,z46,z47,z48,z49,z50,z51,z52,z53,z54,z55,z56,z57,z58,z59,z60,z61,z62,z63,z64,z65,.func (.func 18) #[] #[.pointer (some ⟨ab,0,none⟩)],.agg x.1.cells.toArray,z68,z69,z70,z71,z72,z73,z74,z75,z76,z77,z78,z79,z80,z81,z82,z83,z84,z85,z86,z87,z88,z89,z90,z91,z92,z93,z94,z95],defers:=[] } (W.alloc (.cells x.1.cells.toArray 36)):=
       hK _ _ ((KeepsOthers.alloc _ _).from _) (KC.alloc _ _) (hB.trans ((Below.refl w5.heap.size W).alloc hB.size _)) ⟨W.heap.size,hB.size,Vb.new W x.1,rfl⟩
      unfold Vx.val;generalize x.1.cells.toArray = CC at hst hfin ⊢;generalize Vx.zero.cells.toArray = ZC at hst hal;clear hK hB
      gi_wp2_with (first
       | (refine inL_alloc rfl 36 rfl hal ?_; simp [Act.put])
       | (refine inL_store rfl 36 _ _ rfl rfl W.heap.size 0 rfl (.agg CC) rfl hst ?_)
       | gi_in)
      exact hfin
     case body=>
      rintro l pre x a' W hl ⟨r,hr⟩ hB ⟨Bx,hBx,bX,rfl⟩ hlen;have kW:Kept w5.heap.size w5.heap.size w5 W:=Kept.ofBelow hB (Nat.le_refl _);have HBE:=hid hB;have HIW:=hid (HI5.out.kept kW);have HTW:=hid (HT5.out.kept kW);have HBX:=hid bX;have HFL:=hid (fun(u:World) (k:Kept W.heap.size W.heap.size W u)=>floor15 u (HIW.out.dst.kept k))
      have HLX:=hid (fun(u:World) (k:Kept W.heap.size W.heap.size W u)=>(HBX.out.kept k).ldep x.2)
      have HLH:=hid (fun(u:World) (k:Kept W.heap.size W.heap.size W u)=>(HTW.out.kept k).ldep HTO.out)
      have HCX:=hid (fun(u:World) (k:Kept W.heap.size W.heap.size W u)=>load_ptr15 (show Boxed u cb _ _ from row_kept HIW.out.box k).cell)
      have HC1:=hid (fun(u:World) (k:Kept W.heap.size W.heap.size W u)=>conv_id15 (HBX.out.kept k) x.2)
      have HC2:=hid (fun(u:World) (k:Kept W.heap.size W.heap.size W u)=>conv_id15 (HTW.out.kept k) HTO.out)
      obtain⟨xd,hxd⟩:∃ y,y = x.1.dep:=⟨_,rfl⟩;have HXD:=hid hxd;rw [← hxd] at HLX;rw [← HTD.out] at HLH;obtain⟨fl,hfl⟩:∃ y,y = Dg.floor kp (some tv):=⟨_,rfl⟩;have HFD:=hid hfl;rw [← hfl] at HFL;obtain⟨xi,hxi⟩:∃ y,y = x.1.id:=⟨_,rfl⟩;have HXI:=hid hxi;rw [← hxi] at HC1;obtain⟨ti,hti⟩:∃ y,y = tv.id:=⟨_,rfl⟩;have HTI:=hid hti;rw [← hti] at HC2;obtain⟨lb,hlb⟩:∃ y,y = Op.bytesLess xi ti:=⟨_,rfl⟩;have HLB:=hid hlb;have s1:=fun u=>slice_hash u
      clear kW hB bX hxd hfl hxi hti hlb hlen;generalize x.1.cells.toArray = XC
      by_cases hA:td < xd
      ·have hA2:xd > td:=hA
       refine wpIn_block ?_;refine wpIn_seq ?_;refine region_round (S:=fun u=>Kept W.heap.size W.heap.size W u) (by kernel_rfl) (by kernel_rfl) ((Kept.refl _ _ _).drew) (fun hH=>?_)
       obtain⟨wd,hwd⟩:∃ x,x = W.drew:=⟨_,rfl⟩;rw [← hwd] at hH ⊢;clear hwd;refine wpAnyH_take_ex (i:=0) 68 rfl rfl (by kernel_rfl) (by kernel_rfl) (by kernel_rfl) (fun _ _ _ _ h=>h) (by kernel_rfl) hH ?_
       apply Exists.intro;apply And.intro
       ·intro w9 _
        go_simp
        first | done | rfl
       simp only [sA,sB,sC];refine wpAnyH_take_at (i:=1) 69 (.int .i64 xd) rfl rfl (by kernel_rfl) (by kernel_rfl) (by kernel_rfl) (fun _ _ _ h=>h) (yieldsIf_load_known (by kernel_rfl) 3 _ rfl (Bx) (64) rfl (.int .i64 xd) (fun u k=>HLX.out u k)) hH ?_
       simp only [sA,sB,sC];refine wpAnyH_take_ex (i:=2) 70 rfl rfl (by kernel_rfl) (by kernel_rfl) (by kernel_rfl) (fun _ _ _ _ h=>h) (by kernel_rfl) hH ?_
       apply Exists.intro;apply And.intro
       ·intro w9 _
        go_simp
        first | done | rfl
       simp only [sA,sB,sC];refine wpAnyH_take_at (i:=3) 71 (.int .i64 td) rfl rfl (by kernel_rfl) (by kernel_rfl) (by kernel_rfl) (fun _ _ _ h=>h) (yieldsIf_load_known (by kernel_rfl) 3 _ rfl (hb) (64) rfl (.int .i64 td) (fun u k=>HLH.out u k)) hH ?_
       simp only [sA,sB,sC]
       refine wpAnyH_take_at (i:=4) 72 (.bool true) rfl rfl (by kernel_rfl) (by kernel_rfl) (by kernel_rfl) (fun _ _ _ h=>h) (.inl ⟨by kernel_rfl,fun w9 h9=>by
        go_simp⟩) hH ?_
       simp only [sA,sB,sC];refine wpAnyH_take_ex (i:=5) 73 rfl rfl (by kernel_rfl) (by kernel_rfl) (by kernel_rfl) (fun _ _ _ _ h=>h) (by kernel_rfl) hH ?_
       apply Exists.intro;apply And.intro
       ·intro w9 _
        go_simp
        first | done | rfl
       simp only [sA,sB,sC];refine wpAnyH_take_at (i:=6) 74 undef rfl rfl (by kernel_rfl) (by kernel_rfl) (by kernel_rfl) (fun _ _ _ h=>h) (.inr ⟨by kernel_rfl,rfl⟩) hH ?_
       simp only [sA,sB,sC];refine wpAnyH_take_at (i:=7) 75 undef rfl rfl (by kernel_rfl) (by kernel_rfl) (by kernel_rfl) (fun _ _ _ h=>h) (.inr ⟨by kernel_rfl,rfl⟩) hH ?_
       simp only [sA,sB,sC];refine wpAnyH_take_at (i:=8) 76 undef rfl rfl (by kernel_rfl) (by kernel_rfl) (by kernel_rfl) (fun _ _ _ h=>h) (.inr ⟨by kernel_rfl,rfl⟩) hH ?_
       simp only [sA,sB,sC];refine wpAnyH_take_at (i:=9) 77 undef rfl rfl (by kernel_rfl) (by kernel_rfl) (by kernel_rfl) (fun _ _ _ h=>h) (.inr ⟨by kernel_rfl,rfl⟩) hH ?_
       simp only [sA,sB,sC];refine wpAnyH_take_at (i:=10) 78 undef rfl rfl (by kernel_rfl) (by kernel_rfl) (by kernel_rfl) (fun _ _ _ h=>h) (.inr ⟨by kernel_rfl,rfl⟩) hH ?_
       simp only [sA,sB,sC];refine wpAnyH_take_ex (i:=11) 79 rfl rfl (by kernel_rfl) (by kernel_rfl) (by kernel_rfl) (fun _ _ _ _ h=>h) (by kernel_rfl) hH ?_
       apply Exists.intro;apply And.intro
       ·intro w9 _
        go_simp
        first | done | rfl
       simp only [sA,sB,sC];refine wpAnyH_take_ex (i:=12) 80 rfl rfl (by kernel_rfl) (by kernel_rfl) (by kernel_rfl) (fun _ _ _ _ h=>h) (by kernel_rfl) hH ?_
       apply Exists.intro;apply And.intro
       ·intro w9 _
        go_simp
        first | done | rfl
       simp only [sA,sB,sC];refine wpAnyH_take_at (i:=13) 81 undef rfl rfl (by kernel_rfl) (by kernel_rfl) (by kernel_rfl) (fun _ _ _ h=>h) (.inr ⟨by kernel_rfl,rfl⟩) hH ?_
       simp only [sA,sB,sC];refine wpAnyH_take_at (i:=14) 82 undef rfl rfl (by kernel_rfl) (by kernel_rfl) (by kernel_rfl) (fun _ _ _ h=>h) (.inr ⟨by kernel_rfl,rfl⟩) hH ?_
       simp only [sA,sB,sC];refine wpAnyH_take_at (i:=15) 83 undef rfl rfl (by kernel_rfl) (by kernel_rfl) (by kernel_rfl) (fun _ _ _ h=>h) (.inr ⟨by kernel_rfl,rfl⟩) hH ?_
       simp only [sA,sB,sC];refine wpAnyH_take_at (i:=16) 84 undef rfl rfl (by kernel_rfl) (by kernel_rfl) (by kernel_rfl) (fun _ _ _ h=>h) (.inr ⟨by kernel_rfl,rfl⟩) hH ?_
       simp only [sA,sB,sC];refine wpAnyH_take_at (i:=17) 85 undef rfl rfl (by kernel_rfl) (by kernel_rfl) (by kernel_rfl) (fun _ _ _ h=>h) (.inr ⟨by kernel_rfl,rfl⟩) hH ?_
       simp only [sA,sB,sC];refine wpAnyH_take_at (i:=18) 86 undef rfl rfl (by kernel_rfl) (by kernel_rfl) (by kernel_rfl) (fun _ _ _ h=>h) (.inr ⟨by kernel_rfl,rfl⟩) hH ?_
       simp only [sA,sB,sC];refine wpAnyH_take_at (i:=19) 87 undef rfl rfl (by kernel_rfl) (by kernel_rfl) (by kernel_rfl) (fun _ _ _ h=>h) (.inr ⟨by kernel_rfl,rfl⟩) hH ?_
       simp only [sA,sB,sC];refine wpAnyH_take_at (i:=20) 88 undef rfl rfl (by kernel_rfl) (by kernel_rfl) (by kernel_rfl) (fun _ _ _ h=>h) (.inr ⟨by kernel_rfl,rfl⟩) hH ?_
       simp only [sA,sB,sC];refine wpAnyH_take_at (i:=21) 89 undef rfl rfl (by kernel_rfl) (by kernel_rfl) (by kernel_rfl) (fun _ _ _ h=>h) (.inr ⟨by kernel_rfl,rfl⟩) hH ?_
       simp only [sA,sB,sC];refine wpAnyH_take_at (i:=22) 90 undef rfl rfl (by kernel_rfl) (by kernel_rfl) (by kernel_rfl) (fun _ _ _ h=>h) (.inr ⟨by kernel_rfl,rfl⟩) hH ?_
       simp only [sA,sB,sC];refine wpAnyH_take_at (i:=23) 91 undef rfl rfl (by kernel_rfl) (by kernel_rfl) (by kernel_rfl) (fun _ _ _ h=>h) (.inr ⟨by kernel_rfl,rfl⟩) hH ?_
       simp only [sA,sB,sC];refine wpAnyH_take_at (i:=24) 92 undef rfl rfl (by kernel_rfl) (by kernel_rfl) (by kernel_rfl) (fun _ _ _ h=>h) (.inr ⟨by kernel_rfl,rfl⟩) hH ?_
       simp only [sA,sB,sC];refine wpAnyH_take_at (i:=25) 93 undef rfl rfl (by kernel_rfl) (by kernel_rfl) (by kernel_rfl) (fun _ _ _ h=>h) (.inr ⟨by kernel_rfl,rfl⟩) hH ?_
       simp only [sA,sB,sC];refine wpAnyH_take_at (i:=26) 94 undef rfl rfl (by kernel_rfl) (by kernel_rfl) (by kernel_rfl) (fun _ _ _ h=>h) (.inr ⟨by kernel_rfl,rfl⟩) hH ?_
       simp only [sA,sB,sC];refine wpAnyH_take_ex (i:=27) 95 rfl rfl (by kernel_rfl) (by kernel_rfl) (by kernel_rfl) (fun _ _ _ _ h=>h) (by kernel_rfl) hH ?_
       apply Exists.intro;apply And.intro
       ·intro w9 _
        go_simp
        first | done | rfl
       simp only [sA,sB,sC];refine wpAnyH_done (by kernel_rfl) ?_ _
       refine OnlyN.normal ?_;have hbw:=(show Boxed _ rb 4 (.bool false) from row_kept HIW.out.res hH)
       have hbc:=hbw.cell;have hbf:=hbw.frozen;have hkf:=fun B=>keepsFrom15 (B:=B) hH hbw (.bool false)
       clear hbw
       gi_wp2_with fail
       exact⟨hkf _,x,by simp,.inl (by rw [← HXD.out,← HTD.out]; exact hA)⟩
      ·by_cases hBb:xd < fl
       ·refine wpIn_block ?_
        refine wpIn_seq ?_;refine region_round (S:=fun u=>Kept W.heap.size W.heap.size W u) (by kernel_rfl) (by kernel_rfl) ((Kept.refl _ _ _).drew) (fun hH=>?_)
        obtain⟨wd,hwd⟩:∃ x,x = W.drew:=⟨_,rfl⟩;rw [← hwd] at hH ⊢;clear hwd;refine wpAnyH_take_ex (i:=0) 68 rfl rfl (by kernel_rfl) (by kernel_rfl) (by kernel_rfl) (fun _ _ _ _ h=>h) (by kernel_rfl) hH ?_
        apply Exists.intro;apply And.intro
        ·intro w9 _
         go_simp
         first | done | rfl
        simp only [sA,sB,sC];refine wpAnyH_take_at (i:=1) 69 (.int .i64 xd) rfl rfl (by kernel_rfl) (by kernel_rfl) (by kernel_rfl) (fun _ _ _ h=>h) (yieldsIf_load_known (by kernel_rfl) 3 _ rfl (Bx) (64) rfl (.int .i64 xd) (fun u k=>HLX.out u k)) hH ?_
        simp only [sA,sB,sC];refine wpAnyH_take_ex (i:=2) 70 rfl rfl (by kernel_rfl) (by kernel_rfl) (by kernel_rfl) (fun _ _ _ _ h=>h) (by kernel_rfl) hH ?_
        apply Exists.intro;apply And.intro
        ·intro w9 _
         go_simp
         first | done | rfl
        simp only [sA,sB,sC];refine wpAnyH_take_at (i:=3) 71 (.int .i64 td) rfl rfl (by kernel_rfl) (by kernel_rfl) (by kernel_rfl) (fun _ _ _ h=>h) (yieldsIf_load_known (by kernel_rfl) 3 _ rfl (hb) (64) rfl (.int .i64 td) (fun u k=>HLH.out u k)) hH ?_
        simp only [sA,sB,sC]
        refine wpAnyH_take_at (i:=4) 72 (.bool false) rfl rfl (by kernel_rfl) (by kernel_rfl) (by kernel_rfl) (fun _ _ _ h=>h) (.inl ⟨by kernel_rfl,fun w9 h9=>by
         go_simp⟩) hH ?_
        simp only [sA,sB,sC];refine wpAnyH_take_ex (i:=5) 73 rfl rfl (by kernel_rfl) (by kernel_rfl) (by kernel_rfl) (fun _ _ _ _ h=>h) (by kernel_rfl) hH ?_
        apply Exists.intro;apply And.intro
        ·intro w9 _
         go_simp
         first | done | rfl
        simp only [sA,sB,sC];refine wpAnyH_take_ex (i:=6) 74 rfl rfl (by kernel_rfl) (by kernel_rfl) (by kernel_rfl) (fun _ _ _ _ h=>h) (by kernel_rfl) hH ?_
        apply Exists.intro;apply And.intro
        ·intro w9 _
         go_simp
         first | done | rfl
        simp only [sA,sB,sC];refine wpAnyH_take_at (i:=7) 75 (.int .i64 xd) rfl rfl (by kernel_rfl) (by kernel_rfl) (by kernel_rfl) (fun _ _ _ h=>h) (yieldsIf_load_known (by kernel_rfl) 3 _ rfl (Bx) (64) rfl (.int .i64 xd) (fun u k=>HLX.out u k)) hH ?_
        simp only [sA,sB,sC];refine wpAnyH_take_at (i:=8) 76 (.pointer (some ⟨sb,0,none⟩)) rfl rfl (by kernel_rfl) (by kernel_rfl) (by kernel_rfl) (fun _ _ _ h=>h) (yieldsIf_load_known (by kernel_rfl) 25 _ rfl (cb) (0) rfl (.pointer (some ⟨sb,0,none⟩)) (fun u k=>HCX.out u k)) hH ?_
        simp only [sA,sB,sC];refine wpAnyH_ready (rs:=[9]) (by kernel_rfl) (by simp) ?_
        refine AllReadyH.cons rfl (fun K hK=>?_) AllReadyH.nil
        rw [if_pos (by rfl)]
        go_simp
        go_wp2_with (go_at_call 12; refine(HFL.out _ hH).mono ?_; rintro e wf ⟨rfl,kx⟩)
        refine hK.out _ _ (hH.onto kx) (fun hH=>?_)
        clear hK K kx
        refine wpAnyH_take_at (i:=10) 78 (.bool true) rfl rfl (by kernel_rfl) (by kernel_rfl) (by kernel_rfl) (fun _ _ _ h=>h) (.inl ⟨by kernel_rfl,fun w9 h9=>by
         go_simp⟩) hH ?_
        simp only [sA,sB,sC];refine wpAnyH_take_ex (i:=11) 79 rfl rfl (by kernel_rfl) (by kernel_rfl) (by kernel_rfl) (fun _ _ _ _ h=>h) (by kernel_rfl) hH ?_
        apply Exists.intro;apply And.intro
        ·intro w9 _
         go_simp
         first | done | rfl
        simp only [sA,sB,sC];refine wpAnyH_take_ex (i:=12) 80 rfl rfl (by kernel_rfl) (by kernel_rfl) (by kernel_rfl) (fun _ _ _ _ h=>h) (by kernel_rfl) hH ?_
        apply Exists.intro;apply And.intro
        ·intro w9 _
         go_simp
         first | done | rfl
        simp only [sA,sB,sC];refine wpAnyH_take_at (i:=13) 81 undef rfl rfl (by kernel_rfl) (by kernel_rfl) (by kernel_rfl) (fun _ _ _ h=>h) (.inr ⟨by kernel_rfl,rfl⟩) hH ?_
        simp only [sA,sB,sC];refine wpAnyH_take_at (i:=14) 82 undef rfl rfl (by kernel_rfl) (by kernel_rfl) (by kernel_rfl) (fun _ _ _ h=>h) (.inr ⟨by kernel_rfl,rfl⟩) hH ?_
        simp only [sA,sB,sC];refine wpAnyH_take_at (i:=15) 83 undef rfl rfl (by kernel_rfl) (by kernel_rfl) (by kernel_rfl) (fun _ _ _ h=>h) (.inr ⟨by kernel_rfl,rfl⟩) hH ?_
        simp only [sA,sB,sC];refine wpAnyH_take_at (i:=16) 84 undef rfl rfl (by kernel_rfl) (by kernel_rfl) (by kernel_rfl) (fun _ _ _ h=>h) (.inr ⟨by kernel_rfl,rfl⟩) hH ?_
        simp only [sA,sB,sC];refine wpAnyH_take_at (i:=17) 85 undef rfl rfl (by kernel_rfl) (by kernel_rfl) (by kernel_rfl) (fun _ _ _ h=>h) (.inr ⟨by kernel_rfl,rfl⟩) hH ?_
        simp only [sA,sB,sC];refine wpAnyH_take_at (i:=18) 86 undef rfl rfl (by kernel_rfl) (by kernel_rfl) (by kernel_rfl) (fun _ _ _ h=>h) (.inr ⟨by kernel_rfl,rfl⟩) hH ?_
        simp only [sA,sB,sC];refine wpAnyH_take_at (i:=19) 87 undef rfl rfl (by kernel_rfl) (by kernel_rfl) (by kernel_rfl) (fun _ _ _ h=>h) (.inr ⟨by kernel_rfl,rfl⟩) hH ?_
        simp only [sA,sB,sC];refine wpAnyH_take_at (i:=20) 88 undef rfl rfl (by kernel_rfl) (by kernel_rfl) (by kernel_rfl) (fun _ _ _ h=>h) (.inr ⟨by kernel_rfl,rfl⟩) hH ?_
        simp only [sA,sB,sC];refine wpAnyH_take_at (i:=21) 89 undef rfl rfl (by kernel_rfl) (by kernel_rfl) (by kernel_rfl) (fun _ _ _ h=>h) (.inr ⟨by kernel_rfl,rfl⟩) hH ?_
        simp only [sA,sB,sC];refine wpAnyH_take_at (i:=22) 90 undef rfl rfl (by kernel_rfl) (by kernel_rfl) (by kernel_rfl) (fun _ _ _ h=>h) (.inr ⟨by kernel_rfl,rfl⟩) hH ?_
        simp only [sA,sB,sC];refine wpAnyH_take_at (i:=23) 91 undef rfl rfl (by kernel_rfl) (by kernel_rfl) (by kernel_rfl) (fun _ _ _ h=>h) (.inr ⟨by kernel_rfl,rfl⟩) hH ?_
        simp only [sA,sB,sC];refine wpAnyH_take_at (i:=24) 92 undef rfl rfl (by kernel_rfl) (by kernel_rfl) (by kernel_rfl) (fun _ _ _ h=>h) (.inr ⟨by kernel_rfl,rfl⟩) hH ?_
        simp only [sA,sB,sC];refine wpAnyH_take_at (i:=25) 93 undef rfl rfl (by kernel_rfl) (by kernel_rfl) (by kernel_rfl) (fun _ _ _ h=>h) (.inr ⟨by kernel_rfl,rfl⟩) hH ?_
        simp only [sA,sB,sC];refine wpAnyH_take_at (i:=26) 94 undef rfl rfl (by kernel_rfl) (by kernel_rfl) (by kernel_rfl) (fun _ _ _ h=>h) (.inr ⟨by kernel_rfl,rfl⟩) hH ?_
        simp only [sA,sB,sC];refine wpAnyH_take_ex (i:=27) 95 rfl rfl (by kernel_rfl) (by kernel_rfl) (by kernel_rfl) (fun _ _ _ _ h=>h) (by kernel_rfl) hH ?_
        apply Exists.intro;apply And.intro
        ·intro w9 _
         go_simp
         first | done | rfl
        simp only [sA,sB,sC];refine wpAnyH_done (by kernel_rfl) ?_ _
        refine OnlyN.normal ?_;have hbw:=(show Boxed _ rb 4 (.bool false) from row_kept HIW.out.res hH)
        have hbc:=hbw.cell;have hbf:=hbw.frozen;have hkf:=fun B=>keepsFrom15 (B:=B) hH hbw (.bool false)
        clear hbw
        gi_wp2_with fail
        exact⟨hkf _,x,by simp,.inr (.inl (by rw [← HXD.out,← HFD.out]; exact hBb))⟩
       ·by_cases hDd:xd = td
        ·have hle:fl≤td:=by omega
         have hle2:fl≤xd:=by omega
         refine wpIn_block ?_;refine wpIn_seq ?_;refine region_round (S:=fun u=>Kept W.heap.size W.heap.size W u) (by kernel_rfl) (by kernel_rfl) ((Kept.refl _ _ _).drew) (fun hH=>?_)
         obtain⟨wd,hwd⟩:∃ x,x = W.drew:=⟨_,rfl⟩;rw [← hwd] at hH ⊢;clear hwd;refine wpAnyH_take_ex (i:=0) 68 rfl rfl (by kernel_rfl) (by kernel_rfl) (by kernel_rfl) (fun _ _ _ _ h=>h) (by kernel_rfl) hH ?_
         apply Exists.intro;apply And.intro
         ·intro w9 _
          go_simp
          first | done | rfl
         simp only [sA,sB,sC];refine wpAnyH_take_at (i:=1) 69 (.int .i64 xd) rfl rfl (by kernel_rfl) (by kernel_rfl) (by kernel_rfl) (fun _ _ _ h=>h) (yieldsIf_load_known (by kernel_rfl) 3 _ rfl (Bx) (64) rfl (.int .i64 xd) (fun u k=>HLX.out u k)) hH ?_
         simp only [sA,sB,sC];refine wpAnyH_take_ex (i:=2) 70 rfl rfl (by kernel_rfl) (by kernel_rfl) (by kernel_rfl) (fun _ _ _ _ h=>h) (by kernel_rfl) hH ?_
         apply Exists.intro;apply And.intro
         ·intro w9 _
          go_simp
          first | done | rfl
         simp only [sA,sB,sC];refine wpAnyH_take_at (i:=3) 71 (.int .i64 td) rfl rfl (by kernel_rfl) (by kernel_rfl) (by kernel_rfl) (fun _ _ _ h=>h) (yieldsIf_load_known (by kernel_rfl) 3 _ rfl (hb) (64) rfl (.int .i64 td) (fun u k=>HLH.out u k)) hH ?_
         simp only [sA,sB,sC]
         refine wpAnyH_take_at (i:=4) 72 (.bool false) rfl rfl (by kernel_rfl) (by kernel_rfl) (by kernel_rfl) (fun _ _ _ h=>h) (.inl ⟨by kernel_rfl,fun w9 h9=>by
          go_simp⟩) hH ?_
         simp only [sA,sB,sC];refine wpAnyH_take_ex (i:=5) 73 rfl rfl (by kernel_rfl) (by kernel_rfl) (by kernel_rfl) (fun _ _ _ _ h=>h) (by kernel_rfl) hH ?_
         apply Exists.intro;apply And.intro
         ·intro w9 _
          go_simp
          first | done | rfl
         simp only [sA,sB,sC];refine wpAnyH_take_ex (i:=6) 74 rfl rfl (by kernel_rfl) (by kernel_rfl) (by kernel_rfl) (fun _ _ _ _ h=>h) (by kernel_rfl) hH ?_
         apply Exists.intro;apply And.intro
         ·intro w9 _
          go_simp
          first | done | rfl
         simp only [sA,sB,sC];refine wpAnyH_take_at (i:=7) 75 (.int .i64 xd) rfl rfl (by kernel_rfl) (by kernel_rfl) (by kernel_rfl) (fun _ _ _ h=>h) (yieldsIf_load_known (by kernel_rfl) 3 _ rfl (Bx) (64) rfl (.int .i64 xd) (fun u k=>HLX.out u k)) hH ?_
         simp only [sA,sB,sC];refine wpAnyH_take_at (i:=8) 76 (.pointer (some ⟨sb,0,none⟩)) rfl rfl (by kernel_rfl) (by kernel_rfl) (by kernel_rfl) (fun _ _ _ h=>h) (yieldsIf_load_known (by kernel_rfl) 25 _ rfl (cb) (0) rfl (.pointer (some ⟨sb,0,none⟩)) (fun u k=>HCX.out u k)) hH ?_
         simp only [sA,sB,sC];refine wpAnyH_ready (rs:=[9]) (by kernel_rfl) (by simp) ?_
         refine AllReadyH.cons rfl (fun K hK=>?_) AllReadyH.nil
         rw [if_pos (by rfl)]
         go_simp
         go_wp2_with (go_at_call 12; refine(HFL.out _ hH).mono ?_; rintro e wf ⟨rfl,kx⟩)
         refine hK.out _ _ (hH.onto kx) (fun hH=>?_)
         clear hK K kx
         refine wpAnyH_take_at (i:=10) 78 (.bool false) rfl rfl (by kernel_rfl) (by kernel_rfl) (by kernel_rfl) (fun _ _ _ h=>h) (.inl ⟨by kernel_rfl,fun w9 h9=>by
          go_simp⟩) hH ?_
         simp only [sA,sB,sC];refine wpAnyH_take_ex (i:=11) 79 rfl rfl (by kernel_rfl) (by kernel_rfl) (by kernel_rfl) (fun _ _ _ _ h=>h) (by kernel_rfl) hH ?_
         apply Exists.intro;apply And.intro
         ·intro w9 _
          go_simp
          first | done | rfl
         simp only [sA,sB,sC];refine wpAnyH_take_ex (i:=12) 80 rfl rfl (by kernel_rfl) (by kernel_rfl) (by kernel_rfl) (fun _ _ _ _ h=>h) (by kernel_rfl) hH ?_
         apply Exists.intro;apply And.intro
         ·intro w9 _
          go_simp
          first | done | rfl
         simp only [sA,sB,sC];refine wpAnyH_take_ex (i:=13) 81 rfl rfl (by kernel_rfl) (by kernel_rfl) (by kernel_rfl) (fun _ _ _ _ h=>h) (by kernel_rfl) hH ?_
         apply Exists.intro;apply And.intro
         ·intro w9 _
          go_simp
          first | done | rfl
         simp only [sA,sB,sC];refine wpAnyH_take_at (i:=14) 82 (.int .i64 xd) rfl rfl (by kernel_rfl) (by kernel_rfl) (by kernel_rfl) (fun _ _ _ h=>h) (yieldsIf_load_known (by kernel_rfl) 3 _ rfl (Bx) (64) rfl (.int .i64 xd) (fun u k=>HLX.out u k)) hH ?_
         simp only [sA,sB,sC];refine wpAnyH_take_ex (i:=15) 83 rfl rfl (by kernel_rfl) (by kernel_rfl) (by kernel_rfl) (fun _ _ _ _ h=>h) (by kernel_rfl) hH ?_
         apply Exists.intro;apply And.intro
         ·intro w9 _
          go_simp
          first | done | rfl
         simp only [sA,sB,sC];refine wpAnyH_take_at (i:=16) 84 (.int .i64 td) rfl rfl (by kernel_rfl) (by kernel_rfl) (by kernel_rfl) (fun _ _ _ h=>h) (yieldsIf_load_known (by kernel_rfl) 3 _ rfl (hb) (64) rfl (.int .i64 td) (fun u k=>HLH.out u k)) hH ?_
         simp only [sA,sB,sC]
         refine wpAnyH_take_at (i:=17) 85 (.bool true) rfl rfl (by kernel_rfl) (by kernel_rfl) (by kernel_rfl) (fun _ _ _ h=>h) (.inl ⟨by kernel_rfl,fun w9 h9=>by
          go_simp⟩) hH ?_
         simp only [sA,sB,sC];refine wpAnyH_take_ex (i:=18) 86 rfl rfl (by kernel_rfl) (by kernel_rfl) (by kernel_rfl) (fun _ _ _ _ h=>h) (by kernel_rfl) hH ?_
         apply Exists.intro;apply And.intro
         ·intro w9 _
          go_simp
          first | done | rfl
         simp only [sA,sB,sC];refine wpAnyH_take_ex (i:=19) 87 rfl rfl (by kernel_rfl) (by kernel_rfl) (by kernel_rfl) (fun _ _ _ _ h=>h) (by kernel_rfl) hH ?_
         apply Exists.intro;apply And.intro
         ·intro w9 _
          go_simp
          first | done | rfl
         simp only [sA,sB,sC];refine wpAnyH_take_ex (i:=20) 88 rfl rfl (by kernel_rfl) (by kernel_rfl) (by kernel_rfl) (fun _ _ _ _ h=>h) (by kernel_rfl) hH ?_
         apply Exists.intro;apply And.intro
         ·intro w9 _
          go_simp
          first | done | rfl
         simp only [sA,sB,sC]
         refine wpAnyH_take_at (i:=21) 89 (.string (str xi)) rfl rfl (by kernel_rfl) (by kernel_rfl) (by kernel_rfl) (fun _ _ _ h=>h) (.inl ⟨by kernel_rfl,fun w9 h9=>by
          have c9:=HC1.out w9 h9
          go_simp⟩) hH ?_
         simp only [sA,sB,sC];refine wpAnyH_take_ex (i:=22) 90 rfl rfl (by kernel_rfl) (by kernel_rfl) (by kernel_rfl) (fun _ _ _ _ h=>h) (by kernel_rfl) hH ?_
         apply Exists.intro;apply And.intro
         ·intro w9 _
          go_simp
          first | done | rfl
         simp only [sA,sB,sC];refine wpAnyH_take_ex (i:=23) 91 rfl rfl (by kernel_rfl) (by kernel_rfl) (by kernel_rfl) (fun _ _ _ _ h=>h) (by kernel_rfl) hH ?_
         apply Exists.intro;apply And.intro
         ·intro w9 _
          go_simp
          first | done | rfl
         simp only [sA,sB,sC]
         refine wpAnyH_take_at (i:=24) 92 (.string (str ti)) rfl rfl (by kernel_rfl) (by kernel_rfl) (by kernel_rfl) (fun _ _ _ h=>h) (.inl ⟨by kernel_rfl,fun w9 h9=>by
          have c9:=HC2.out w9 h9
          go_simp⟩) hH ?_
         simp only [sA,sB,sC]
         refine wpAnyH_take_at (i:=25) 93 (.bool lb) rfl rfl (by kernel_rfl) (by kernel_rfl) (by kernel_rfl) (fun _ _ _ h=>h) (.inl ⟨by kernel_rfl,fun w9 h9=>by
          rw [HLB.out]
          go_simp⟩) hH ?_
         simp only [sA,sB,sC];refine wpAnyH_take_ex (i:=26) 94 rfl rfl (by kernel_rfl) (by kernel_rfl) (by kernel_rfl) (fun _ _ _ _ h=>h) (by kernel_rfl) hH ?_
         apply Exists.intro;apply And.intro
         ·intro w9 _
          go_simp
          first | done | rfl
         simp only [sA,sB,sC];refine wpAnyH_take_ex (i:=27) 95 rfl rfl (by kernel_rfl) (by kernel_rfl) (by kernel_rfl) (fun _ _ _ _ h=>h) (by kernel_rfl) hH ?_
         apply Exists.intro;apply And.intro
         ·intro w9 _
          go_simp
          first | done | rfl
         simp only [sA,sB,sC];refine wpAnyH_done (by kernel_rfl) ?_ _
         refine OnlyN.normal ?_
         cases lb with
         | true=>
          have hbw:=(show Boxed _ rb 4 (.bool false) from row_kept HIW.out.res hH)
          have hbc:=hbw.cell;have hbf:=hbw.frozen;have hkf:=fun B=>keepsFrom15 (B:=B) hH hbw (.bool false)
          clear hbw
          gi_wp2_with fail
          exact⟨hkf _,x,by simp,.inr (.inr ⟨by rw [← HXD.out,← HTD.out]; exact hDd,by rw [← HXI.out,← HTI.out]; exact(cb_less xi ti).trans HLB.out.symm⟩)⟩
         | false=>
          have hkf:=(KeepsOthers.of_grownBy (grown15 hH) (fun j o e=>by cases e)).from w5.heap.size
          have hkc:=KC.of_kept hH;have hbe:=HBE.out.trans ((below15 hH).mono HBE.out.size)
          gi_wp2_with fail
          exact⟨hkf,hkc,hbe⟩
        ·refine wpIn_block ?_
         refine wpIn_seq ?_;refine region_round (S:=fun u=>Kept W.heap.size W.heap.size W u) (by kernel_rfl) (by kernel_rfl) ((Kept.refl _ _ _).drew) (fun hH=>?_)
         obtain⟨wd,hwd⟩:∃ x,x = W.drew:=⟨_,rfl⟩;rw [← hwd] at hH ⊢;clear hwd;refine wpAnyH_take_ex (i:=0) 68 rfl rfl (by kernel_rfl) (by kernel_rfl) (by kernel_rfl) (fun _ _ _ _ h=>h) (by kernel_rfl) hH ?_
         apply Exists.intro;apply And.intro
         ·intro w9 _
          go_simp
          first | done | rfl
         simp only [sA,sB,sC];refine wpAnyH_take_at (i:=1) 69 (.int .i64 xd) rfl rfl (by kernel_rfl) (by kernel_rfl) (by kernel_rfl) (fun _ _ _ h=>h) (yieldsIf_load_known (by kernel_rfl) 3 _ rfl (Bx) (64) rfl (.int .i64 xd) (fun u k=>HLX.out u k)) hH ?_
         simp only [sA,sB,sC];refine wpAnyH_take_ex (i:=2) 70 rfl rfl (by kernel_rfl) (by kernel_rfl) (by kernel_rfl) (fun _ _ _ _ h=>h) (by kernel_rfl) hH ?_
         apply Exists.intro;apply And.intro
         ·intro w9 _
          go_simp
          first | done | rfl
         simp only [sA,sB,sC];refine wpAnyH_take_at (i:=3) 71 (.int .i64 td) rfl rfl (by kernel_rfl) (by kernel_rfl) (by kernel_rfl) (fun _ _ _ h=>h) (yieldsIf_load_known (by kernel_rfl) 3 _ rfl (hb) (64) rfl (.int .i64 td) (fun u k=>HLH.out u k)) hH ?_
         simp only [sA,sB,sC]
         refine wpAnyH_take_at (i:=4) 72 (.bool false) rfl rfl (by kernel_rfl) (by kernel_rfl) (by kernel_rfl) (fun _ _ _ h=>h) (.inl ⟨by kernel_rfl,fun w9 h9=>by
          go_simp⟩) hH ?_
         simp only [sA,sB,sC];refine wpAnyH_take_ex (i:=5) 73 rfl rfl (by kernel_rfl) (by kernel_rfl) (by kernel_rfl) (fun _ _ _ _ h=>h) (by kernel_rfl) hH ?_
         apply Exists.intro;apply And.intro
         ·intro w9 _
          go_simp
          first | done | rfl
         simp only [sA,sB,sC];refine wpAnyH_take_ex (i:=6) 74 rfl rfl (by kernel_rfl) (by kernel_rfl) (by kernel_rfl) (fun _ _ _ _ h=>h) (by kernel_rfl) hH ?_
         apply Exists.intro;apply And.intro
         ·intro w9 _
          go_simp
          first | done | rfl
         simp only [sA,sB,sC];refine wpAnyH_take_at (i:=7) 75 (.int .i64 xd) rfl rfl (by kernel_rfl) (by kernel_rfl) (by kernel_rfl) (fun _ _ _ h=>h) (yieldsIf_load_known (by kernel_rfl) 3 _ rfl (Bx) (64) rfl (.int .i64 xd) (fun u k=>HLX.out u k)) hH ?_
         simp only [sA,sB,sC];refine wpAnyH_take_at (i:=8) 76 (.pointer (some ⟨sb,0,none⟩)) rfl rfl (by kernel_rfl) (by kernel_rfl) (by kernel_rfl) (fun _ _ _ h=>h) (yieldsIf_load_known (by kernel_rfl) 25 _ rfl (cb) (0) rfl (.pointer (some ⟨sb,0,none⟩)) (fun u k=>HCX.out u k)) hH ?_
         simp only [sA,sB,sC];refine wpAnyH_ready (rs:=[9]) (by kernel_rfl) (by simp) ?_
         refine AllReadyH.cons rfl (fun K hK=>?_) AllReadyH.nil
         rw [if_pos (by rfl)]
         go_simp
         go_wp2_with (go_at_call 12; refine(HFL.out _ hH).mono ?_; rintro e wf ⟨rfl,kx⟩)
         refine hK.out _ _ (hH.onto kx) (fun hH=>?_)
         clear hK K kx
         refine wpAnyH_take_at (i:=10) 78 (.bool false) rfl rfl (by kernel_rfl) (by kernel_rfl) (by kernel_rfl) (fun _ _ _ h=>h) (.inl ⟨by kernel_rfl,fun w9 h9=>by
          go_simp⟩) hH ?_
         simp only [sA,sB,sC];refine wpAnyH_take_ex (i:=11) 79 rfl rfl (by kernel_rfl) (by kernel_rfl) (by kernel_rfl) (fun _ _ _ _ h=>h) (by kernel_rfl) hH ?_
         apply Exists.intro;apply And.intro
         ·intro w9 _
          go_simp
          first | done | rfl
         simp only [sA,sB,sC];refine wpAnyH_take_ex (i:=12) 80 rfl rfl (by kernel_rfl) (by kernel_rfl) (by kernel_rfl) (fun _ _ _ _ h=>h) (by kernel_rfl) hH ?_
         apply Exists.intro;apply And.intro
         ·intro w9 _
          go_simp
          first | done | rfl
         simp only [sA,sB,sC];refine wpAnyH_take_ex (i:=13) 81 rfl rfl (by kernel_rfl) (by kernel_rfl) (by kernel_rfl) (fun _ _ _ _ h=>h) (by kernel_rfl) hH ?_
         apply Exists.intro;apply And.intro
         ·intro w9 _
          go_simp
          first | done | rfl
         simp only [sA,sB,sC];refine wpAnyH_take_at (i:=14) 82 (.int .i64 xd) rfl rfl (by kernel_rfl) (by kernel_rfl) (by kernel_rfl) (fun _ _ _ h=>h) (yieldsIf_load_known (by kernel_rfl) 3 _ rfl (Bx) (64) rfl (.int .i64 xd) (fun u k=>HLX.out u k)) hH ?_
         simp only [sA,sB,sC];refine wpAnyH_take_ex (i:=15) 83 rfl rfl (by kernel_rfl) (by kernel_rfl) (by kernel_rfl) (fun _ _ _ _ h=>h) (by kernel_rfl) hH ?_
         apply Exists.intro;apply And.intro
         ·intro w9 _
          go_simp
          first | done | rfl
         simp only [sA,sB,sC];refine wpAnyH_take_at (i:=16) 84 (.int .i64 td) rfl rfl (by kernel_rfl) (by kernel_rfl) (by kernel_rfl) (fun _ _ _ h=>h) (yieldsIf_load_known (by kernel_rfl) 3 _ rfl (hb) (64) rfl (.int .i64 td) (fun u k=>HLH.out u k)) hH ?_
         simp only [sA,sB,sC]
         refine wpAnyH_take_at (i:=17) 85 (.bool false) rfl rfl (by kernel_rfl) (by kernel_rfl) (by kernel_rfl) (fun _ _ _ h=>h) (.inl ⟨by kernel_rfl,fun w9 h9=>by
          go_simp⟩) hH ?_
         simp only [sA,sB,sC];refine wpAnyH_take_ex (i:=18) 86 rfl rfl (by kernel_rfl) (by kernel_rfl) (by kernel_rfl) (fun _ _ _ _ h=>h) (by kernel_rfl) hH ?_
         apply Exists.intro;apply And.intro
         ·intro w9 _
          go_simp
          first | done | rfl
         simp only [sA,sB,sC];refine wpAnyH_take_at (i:=19) 87 undef rfl rfl (by kernel_rfl) (by kernel_rfl) (by kernel_rfl) (fun _ _ _ h=>h) (.inr ⟨by kernel_rfl,rfl⟩) hH ?_
         simp only [sA,sB,sC];refine wpAnyH_take_at (i:=20) 88 undef rfl rfl (by kernel_rfl) (by kernel_rfl) (by kernel_rfl) (fun _ _ _ h=>h) (.inr ⟨by kernel_rfl,rfl⟩) hH ?_
         simp only [sA,sB,sC];refine wpAnyH_take_at (i:=21) 89 undef rfl rfl (by kernel_rfl) (by kernel_rfl) (by kernel_rfl) (fun _ _ _ h=>h) (.inr ⟨by kernel_rfl,rfl⟩) hH ?_
         simp only [sA,sB,sC];refine wpAnyH_take_at (i:=22) 90 undef rfl rfl (by kernel_rfl) (by kernel_rfl) (by kernel_rfl) (fun _ _ _ h=>h) (.inr ⟨by kernel_rfl,rfl⟩) hH ?_
         simp only [sA,sB,sC];refine wpAnyH_take_at (i:=23) 91 undef rfl rfl (by kernel_rfl) (by kernel_rfl) (by kernel_rfl) (fun _ _ _ h=>h) (.inr ⟨by kernel_rfl,rfl⟩) hH ?_
         simp only [sA,sB,sC];refine wpAnyH_take_at (i:=24) 92 undef rfl rfl (by kernel_rfl) (by kernel_rfl) (by kernel_rfl) (fun _ _ _ h=>h) (.inr ⟨by kernel_rfl,rfl⟩) hH ?_
         simp only [sA,sB,sC];refine wpAnyH_take_at (i:=25) 93 undef rfl rfl (by kernel_rfl) (by kernel_rfl) (by kernel_rfl) (fun _ _ _ h=>h) (.inr ⟨by kernel_rfl,rfl⟩) hH ?_
         simp only [sA,sB,sC];refine wpAnyH_take_ex (i:=26) 94 rfl rfl (by kernel_rfl) (by kernel_rfl) (by kernel_rfl) (fun _ _ _ _ h=>h) (by kernel_rfl) hH ?_
         apply Exists.intro;apply And.intro
         ·intro w9 _
          go_simp
          first | done | rfl
         simp only [sA,sB,sC];refine wpAnyH_take_ex (i:=27) 95 rfl rfl (by kernel_rfl) (by kernel_rfl) (by kernel_rfl) (fun _ _ _ _ h=>h) (by kernel_rfl) hH ?_
         apply Exists.intro;apply And.intro
         ·intro w9 _
          go_simp
          first | done | rfl
         simp only [sA,sB,sC];refine wpAnyH_done (by kernel_rfl) ?_ _
         refine OnlyN.normal ?_;have hkf:=(KeepsOthers.of_grownBy (grown15 hH) (fun j o e=>by cases e)).from w5.heap.size
         have hkc:=KC.of_kept hH;have hbe:=HBE.out.trans ((below15 hH).mono HBE.out.size)
         gi_wp2_with fail
         exact⟨hkf,hkc,hbe⟩
     case done=>
      rintro D ys W hD hperm hB hKD;have kW:Kept w5.heap.size w5.heap.size w5 W:=Kept.ofBelow hB (Nat.le_refl _);have HI6:=hid (((HI5.out.kept kW).deep).mark (D:=D) (Nat.le_trans HI5.out.kp.size hD) hKD (fun hf=>by have:=HI5.out.dst.fsize D hf; omega) (fun hm=>by have:=lt_of_block (HI5.out.marks D hm).2.1; omega))
      have he:dep0 (some tv) = td:=HTD.out.symm;rw [he] at HI6;clear kW hB hperm he
      go_wp2_with fail
      refine⟨⟨i + 1,td,n2,F2,L2,some tv,P2,D :: ds,⟨HLT.out,HI6⟩,?_⟩,?_⟩
      ·repeat apply Exists.intro
       rfl
      ·have:=HLT.out
       simp [RowKit.intOf]
       omega
     case stop=>
      rintro D cc pre W _ hin ⟨y,hy,hbad⟩ _;exact absurd hbad (no_bad15 HI5.out.st (hin y hy))
   ·have hki:¬ (i:Int) < (ln:Int):=by omega
    have hbc:=HI.out.res.cell;have hbf:=HI.out.res.frozen;have hk4:=HI.out.kp.setCell15 (a:=⟨rb,0,none⟩) HI.out.new (.bool true);have hb4:=HI.out.res.set (.bool true)
    go_wp2_with fail
    refine leaves_marks15 (w0:=w) (rb:=rb) (fun w hb=>results_cell1_15 rfl _ _ hb rfl rfl rfl) (fun w' hk=>⟨rfl,hk⟩) ds _ hb4 (fun d hd=>⟨(HI.out.marks d hd).1,?_⟩) HI.out.nd hk4
    obtain⟨_,h2,_⟩:=HI.out.marks d hd;refine(setCell_other wr rb 0 (.bool true) d ?_).trans h2;rintro rfl;rw [show wr.heap[d]? = _ from HI.out.res] at h2
    cases h2
end Go.Proofs.Ytfbfdaeagpdaiaa
