/-
 The walk of the law DagOrders.
-/
import Derived.Test.YtfbfdaeagpdaiaaDagOrdMem
set_option maxRecDepth 100000
set_option maxHeartbeats 102400000
namespace Go.Proofs.Ytfbfdaeagpdaiaa
open List renaming setIfInBounds_toArray → sA, set_cons_zero → sB, set_cons_succ → sC
open BigFrame renaming wpList_want → wQ
open Go.RowKit Go.Shelf Go.Lib
theorem load_ptr15b {w:World}{g o:Nat}{x:Option Addr}(h:w.cell? ⟨g,o,none⟩ = some (.pointer x)):(loadVar 25 ⟨g,o,none⟩).run Try.prog w = .ok (.pointer x) w:=by
 go_simp
theorem wp_letters15b {P:Program}{c:Code}{Q:Exit→Act→World→Prop}{w:World}{ds:List Deferred}{t0 t1 t2 t3 t4 t5 t6 t7 t8 t9 t10 t11 t12 t13 t14 t15 t16 t17 t18 t19 t20 t21 t22 t23 t24 t25 t26 t27 t28 t29 t30 t31 t32 t33 t34 t35 t36 t37 t38 t39 t40 t41 t42 t43 t44 t45 t46 t47 t48 t49 t50 t51 t52 t53 t54 t55 t56 t57 t58 t59 t60 t61 t62 t63 t64 t65 t66 t67 t68 t69 t70 t71 t72 t73 t74 t75 t76 t77 t78 t79 t80 t81 t82 t83 t84 t85 t86 t87 t88 t89 t90 t91 t92 t93 t94 t95 t96 t97 t98 t99 t100 t101 t102 t103 t104 t105 t106 t107 t108 t109 t110 t111 t112 t113 t114 t115 t116 t117 t118 t119 t120 t121 t122 t123 t124 t125 t126 t127 t128 t129 t130 t131 t132 t133 t134 t135 t136 t137 t138 t139 t140 t141 t142 t143 t144 t145 t146 t147 t148 t149 t150 t151 t152 t153 t154 t155 t156 t157 t158 t159 t160 t161 t162 t163 t164 t165 t166 t167 t168 t169 t170 t171 t172 t173 t174 t175 t176 t177 t178 t179 t180 t181 t182 t183 t184 t185 t186 t187 t188 t189 t190 t191 t192 t193 t194 t195 t196 t197 t198 t199 t200 t201 t202:Value}
  (h:∀ z0 z1 z2 z3 z4 z5 z7 z9 z11 z12 z13 z14 z15 z16 z17 z18 z19 z20 z21 z22 z23 z24 z25 z26 z27 z28 z29 z30 z31 z32 z33 z34 z35 z36 z37 z38 z39 z40 z41 z42 z43 z44 z45 z46 z47 z48 z49 z50 z51 z52 z53 z54 z55 z56 z57 z58 z59 z60 z61 z62 z63 z64 z65 z66 z67 z68 z69 z70 z71 z72 z73 z74 z75 z76 z77 z78 z79 z80 z81 z82 z83 z84 z85 z86 z87 z88 z89 z90 z91 z92 z93 z94 z95 z96 z97 z98 z99 z100 z101 z102 z103 z104 z105 z106 z107 z108 z109 z110 z111 z112 z113 z114 z115 z116 z117 z118 z119 z120 z121 z122 z123 z124 z125 z126 z127 z128 z129 z130 z131 z132 z133 z134 z135 z136 z137 z138 z139 z140 z141 z142 z143 z144 z145 z146 z147 z148 z149 z150 z151 z152 z153 z154 z155 z156 z157 z158 z159 z160 z161 z162 z163 z164 z165 z166 z167 z168 z169 z170 z171 z172 z173 z174 z175 z176 z177 z178 z179 z180 z181 z182 z183 z184 z185 z186 z188 z189 z190 z191 z192 z193 z194 z195 z196 z197 z198 z199 z200 z201 z202:Value,c.wp P Q { tmps:=#[z0,z1,z2,z3,z4,z5,t6,z7,t8,z9,t10,z11,z12,z13,z14,z15,z16,z17,z18,z19,z20,z21,z22,z23,z24,z25,z26,z27,z28,z29,z30,z31,z32,z33,z34,z35,z36,z37,z38,z39,z40,z41,z42,z43,z44,z45,z46,z47,z48,z49,z50,z51,z52,z53,z54,z55,z56,z57,z58,z59,z60,z61,z62,z63,z64,z65,z66,z67,z68,z69,z70,z71,z72,z73,z74,z75,z76,z77,z78,z79,z80,z81,z82,z83,z84,z85,z86,z87,z88,z89,z90,z91,z92,z93,z94,z95,z96,z97,z98,z99,z100,z101,z102,z103,z104,z105,z106,z107,z108,z109,z110,z111,z112,z113,z114,z115,z116,z117,z118,z119,z120,z121,z122,z123,z124,z125,z126,z127,z128,z129,z130,z131,z132,z133,z134,z135,z136,z137,z138,z139,z140,z141,z142,z143,z144,z145,z146,z147,z148,z149,z150,z151,z152,z153,z154,z155,z156,z157,z158,z159,z160,z161,z162,z163,z164,z165,z166,z167,z168,z169,z170,z171,z172,z173,z174,z175,z176,z177,z178,z179,z180,z181,z182,z183,z184,z185,z186,t187,z188,z189,z190,z191,z192,z193,z194,z195,z196,z197,z198,z199,z200,z201,z202],defers:=ds } w):c.wp P Q { tmps:=#[t0,t1,t2,t3,t4,t5,t6,t7,t8,t9,t10,t11,t12,t13,t14,t15,t16,t17,t18,t19,t20,t21,t22,t23,t24,t25,t26,t27,t28,t29,t30,t31,t32,t33,t34,t35,t36,t37,t38,t39,t40,t41,t42,t43,t44,t45,t46,t47,t48,t49,t50,t51,t52,t53,t54,t55,t56,t57,t58,t59,t60,t61,t62,t63,t64,t65,t66,t67,t68,t69,t70,t71,t72,t73,t74,t75,t76,t77,t78,t79,t80,t81,t82,t83,t84,t85,t86,t87,t88,t89,t90,t91,t92,t93,t94,t95,t96,t97,t98,t99,t100,t101,t102,t103,t104,t105,t106,t107,t108,t109,t110,t111,t112,t113,t114,t115,t116,t117,t118,t119,t120,t121,t122,t123,t124,t125,t126,t127,t128,t129,t130,t131,t132,t133,t134,t135,t136,t137,t138,t139,t140,t141,t142,t143,t144,t145,t146,t147,t148,t149,t150,t151,t152,t153,t154,t155,t156,t157,t158,t159,t160,t161,t162,t163,t164,t165,t166,t167,t168,t169,t170,t171,t172,t173,t174,t175,t176,t177,t178,t179,t180,t181,t182,t183,t184,t185,t186,t187,t188,t189,t190,t191,t192,t193,t194,t195,t196,t197,t198,t199,t200,t201,t202],defers:=ds } w:=h _ _ _ _ _ _ _ _ _ _ _ _ _ _ _ _ _ _ _ _ _ _ _ _ _ _ _ _ _ _ _ _ _ _ _ _ _ _ _ _ _ _ _ _ _ _ _ _ _ _ _ _ _ _ _ _ _ _ _ _ _ _ _ _ _ _ _ _ _ _ _ _ _ _ _ _ _ _ _ _ _ _ _ _ _ _ _ _ _ _ _ _ _ _ _ _ _ _ _ _ _ _ _ _ _ _ _ _ _ _ _ _ _ _ _ _ _ _ _ _ _ _ _ _ _ _ _ _ _ _ _ _ _ _ _ _ _ _ _ _ _ _ _ _ _ _ _ _ _ _ _ _ _ _ _ _ _ _ _ _ _ _ _ _ _ _ _ _ _ _ _ _ _ _ _ _ _ _ _ _ _ _ _ _ _ _ _ _ _ _ _ _ _ _ _ _ _ _ _
theorem wpL_neq15 {P:Program}{ops:Array Oper}{Q:Exit→Act→World→Prop}{a:Act}{w:World}{rest:List Oper}{o:Oper}(hw:Region.wanted o (yielded ops a.tmps) = true)(t t2:TypeId)(x y:Operand)(ho:o.op = .binOp .neq t x y t2)(A B:Array Value)(hx:a.eval x = .agg A)(hy:a.eval y = .agg B)(hg:P.eqGuardType P.depth t = false)(hr:(Op.equalIn 10000 t (.agg A) (.agg B)).run P w = .ok true w)(hk:wpList P ops Q rest (a.put o.dst (.bool false)) w):wpList P ops Q (o :: rest) a w:=by
 refine wpList_step fun K hK=>?_
 rw [if_pos hw];unfold Oper.wp execOp;simp only [ho,hx,hy,Sem.run_bind,run_eqGuard_agg _ _ _ _ _ _ _ hg,run_neq_struct,hr,Result.andThen_ok,Sem.run_pure];exact hK _ _ hk
theorem list_round15 {l m:Nat}{P:Program}{ops:Array Oper}{Q:Exit→Act→World→Prop}:∀ (rest:List Oper) (a:Act) (w:World),rest.all noDefer = true→wpList P ops (OnlyN Q) rest a w→wpListIn (Fence.wide.inRound l) m P ops (OnlyN Q) rest a w
 | [],_,_,_,h=>h
 | o :: rest,a,w,hd,h=>by
  rw [List.all_cons,Bool.and_eq_true] at hd;unfold wpList at h;unfold wpListIn
  split
  ·rename_i hw
   rw [if_pos hw] at h
   rcases h with h | ⟨_,h⟩
   ·exact Oper.wpIn_mono (fun a w=>list_round15 rest a w hd.2) (oper_round hd.1 h)
   ·exact(OnlyN.noOut h).elim
  ·rename_i hw
   rw [if_neg hw] at h;exact⟨fun _ _=>trivial,list_round15 rest _ _ hd.2 h⟩
theorem region_round_lit15 {l m:Nat}{P:Program}{Q:Exit→Act→World→Prop}{id:Nat}{ls:List Oper}{a:Act}{w:World}(hd:ls.all noDefer = true)(h:wpList P ls.toArray (OnlyN Q) ls a w):(Code.region id ls.toArray false).wpIn (Fence.wide.inRound l) m P Q a w:=
 Code.wpIn_mono OnlyN.imp (wpIn_region_lit (list_round15 _ _ _ hd h))
theorem getd15 {sb n:Nat}{F:Nat→Prop}{keep:Int}{L:List Vx}{h:Option Vx}{P:List (List UInt8)}(w:World)(d:Dst w sb F keep n L h P)(st:Dg.St keep L h){v:Vx}(hv:v∈L)(hvo:v.Ok):
  Calls Try.prog 11 #[.pointer (some ⟨sb,0,none⟩),.agg (bcells v.id).toArray] w fun e w'=>e = .returned (.tuple #[v.val,.bool true])∧Kept w.heap.size w.heap.size w w':=by
 obtain⟨vb,bb,hd,d⟩:=d;refine(get15 w d v.id hvo.1).mono ?_;rintro e w' ⟨rfl,hk⟩;refine⟨?_,hk⟩;unfold look2;rw [look_of st.nodup hv]
 rfl
attribute [local go_sem] Oper.semAt_some
theorem dagorders_walk (kb:Int)(hk0:0≤kb)(hk1:kb≤255)(lv:Value)(M:List Vx)(tv:Value)(tn:Nat)(w:World)(hM:Va w lv M)(hT:Bs15 w tv tn):
  Calls Try.prog 3 #[.int .u8 kb,lv,tv] w fun e w'=>e = .returned (.bool true)∧Kept w.heap.size w.heap.size w w':=by
 have HVA:=hid hM;obtain⟨hok,ad,g,o,c,rfl,hel⟩:=hM;obtain⟨tad,tg,to,tc,rfl,htl⟩:=hT;have HOK:=hid hok;obtain⟨ln,hln⟩:∃ ln,ln = M.length:=⟨_,rfl⟩;have HLN:=hid hln;rw [← hln] at HVA ⊢;have HEL:=hid (show ∀ i (hi:i < M.length),ad = some ⟨g,o,none⟩∧g < w.heap.size∧w.rangeAt g (o + i * 66) M[i].cells from hel);have HTL:=hid htl;have HAW:=hid (fun x=>awake15 x)
 obtain⟨kp,hkp⟩:∃ x,x = 1 + kb.tmod 64:=⟨_,rfl⟩
 have hkp1:1≤kp∧kp≤64:=by
  have h1:=Int.tmod_eq_emod_of_nonneg (b:=64) hk0;have h2:=Int.emod_nonneg kb (show(64:Int)≠0 by decide)
  have h3:=Int.emod_lt_of_pos kb (show(0:Int) < 64 by decide)
  omega
 have HNEW:=hid (fun x=>new15 kp hkp1 x)
 have HKP:=hid (show IntKind.i64.wrap (1 + (IntKind.i64.wrap kb).tmod 64) = kp by rw [i64_in15 kb (by omega),← hkp,i64_in15 kp (by omega)])
 clear hln hel hok hkp hkp1 htl;refine(callsIn_wide (n:=3)).1 (callsIn_of_wp_marks Try.func3 rfl trivial ?_ rfl)
 simp only [Try.ntmps3,List.size_toArray,List.length_cons,List.length_nil,Nat.reduceAdd,Nat.reduceSub,Array.replicate_succ,Array.replicate_zero,List.push_toArray,List.append_toArray,List.nil_append,List.cons_append]
 refine wpIn_wide.2 ?_
 go_upto_region 1 with fail
 obtain⟨rb,hrb⟩:∃ x,x = w.heap.size:=⟨_,rfl⟩;have b1:Boxed (w.alloc (.cells #[.bool false] 4)) rb 4 (.bool false):=by rw [hrb]; exact heap_new w _
 have k1:=kA w (.cells #[.bool false] 4)
 have HRB:=hid (show w.heap.size≤rb by omega)
 rw [← hrb];generalize w.alloc (.cells #[.bool false] 4) = w1 at b1 k1 ⊢
 have B1:=hid b1;have K1:=hid k1;clear b1 k1 hrb
 by_cases h60:(60:Int) < (ln:Int)
 ·refine wp_region_lit ?_
  refine @wQ _ _ _ _ _ _ _ ?_ ?_;kernel_rfl;intro K hK;go_simp;go_at_call 5
  refine(HAW.out _).mono ?_;rintro e w2 ⟨rfl,kx⟩;have K2:=hid (K1.out.onto kx);have B2:=hid (show Boxed w2 rb 4 (.bool false) from row_kept B1.out kx)
  clear kx;refine hK _ _ ?_;clear hK K;iterate 7 (refine @wQ _ _ _ _ _ _ _ ?_ ?_;kernel_rfl;intro K hK;go_simp;refine hK _ _ ?_;clear hK K)
  refine @wpList_skip _ _ _ _ _ _ _ ?_ ?_;kernel_rfl;simp only [Act.put,sA,sB,sC];refine @wpList_skip _ _ _ _ _ _ _ ?_ ?_;kernel_rfl;simp only [Act.put,sA,sB,sC];refine @wpList_skip _ _ _ _ _ _ _ ?_ ?_;kernel_rfl;simp only [Act.put,sA,sB,sC];refine @wQ _ _ _ _ _ _ _ ?_ ?_;kernel_rfl;intro K hK;go_simp;refine hK _ _ ?_;clear hK K
  go_upto_region 2 with fail
  refine wp_region_lit ?_;refine @wQ _ _ _ _ _ _ _ ?_ ?_;kernel_rfl;intro K hK;go_simp;go_at_call 5
  refine(HAW.out _).mono ?_;rintro e w3 ⟨rfl,kx⟩;have K3:=hid (K2.out.onto kx);have B3:=hid (show Boxed w3 rb 4 (.bool false) from row_kept B2.out kx)
  clear kx;refine hK _ _ ?_;clear hK K;have hc3:=B3.out.cell;have hf3:=B3.out.frozen;have hk4:=K3.out.setCell15 (a:=⟨rb,0,none⟩) HRB.out (.bool true);have hb4:=B3.out.set (.bool true)
  go_wp2_with fail
  exact leaves_marks15 (w0:=w) (rb:=rb) (fun w hb=>results_cell1_15 rfl _ _ hb rfl rfl rfl) (fun w' hk=>⟨rfl,hk⟩) [] _ hb4 (fun d hd=>nomatch hd) List.nodup_nil hk4
 by_cases h61:(60:Int) < (tn:Int)
 ·refine wp_region_lit ?_
  refine @wQ _ _ _ _ _ _ _ ?_ ?_;kernel_rfl;intro K hK;go_simp;go_at_call 5
  refine(HAW.out _).mono ?_;rintro e w2 ⟨rfl,kx⟩;have K2:=hid (K1.out.onto kx);have B2:=hid (show Boxed w2 rb 4 (.bool false) from row_kept B1.out kx)
  clear kx;refine hK _ _ ?_;clear hK K;iterate 11 (refine @wQ _ _ _ _ _ _ _ ?_ ?_;kernel_rfl;intro K hK;go_simp;refine hK _ _ ?_;clear hK K)
  go_upto_region 2 with fail
  refine wp_region_lit ?_;refine @wQ _ _ _ _ _ _ _ ?_ ?_;kernel_rfl;intro K hK;go_simp;go_at_call 5
  refine(HAW.out _).mono ?_;rintro e w3 ⟨rfl,kx⟩;have K3:=hid (K2.out.onto kx);have B3:=hid (show Boxed w3 rb 4 (.bool false) from row_kept B2.out kx)
  clear kx;refine hK _ _ ?_;clear hK K;have hc3:=B3.out.cell;have hf3:=B3.out.frozen;have hk4:=K3.out.setCell15 (a:=⟨rb,0,none⟩) HRB.out (.bool true);have hb4:=B3.out.set (.bool true)
  go_wp2_with fail
  exact leaves_marks15 (w0:=w) (rb:=rb) (fun w hb=>results_cell1_15 rfl _ _ hb rfl rfl rfl) (fun w' hk=>⟨rfl,hk⟩) [] _ hb4 (fun d hd=>nomatch hd) List.nodup_nil hk4
 refine wp_region_lit ?_;refine @wQ _ _ _ _ _ _ _ ?_ ?_;kernel_rfl;intro K hK;go_simp;go_at_call 5
 refine(HAW.out _).mono ?_;rintro e w2 ⟨rfl,kx⟩;have K2:=hid (K1.out.onto kx);have B2:=hid (show Boxed w2 rb 4 (.bool false) from row_kept B1.out kx)
 clear kx;refine hK _ _ ?_;clear hK K;iterate 11 (refine @wQ _ _ _ _ _ _ _ ?_ ?_;kernel_rfl;intro K hK;go_simp;refine hK _ _ ?_;clear hK K)
 go_upto_region 3 with fail
 refine wp_region_lit ?_;iterate 5 (refine @wQ _ _ _ _ _ _ _ ?_ ?_;kernel_rfl;intro K hK;go_simp;refine hK _ _ ?_;clear hK K)
 rw [HKP.out]
 go_upto_region 4 with fail
 refine wp_region_lit ?_;refine @wQ _ _ _ _ _ _ _ ?_ ?_;kernel_rfl;intro K hK;go_simp;refine hK _ _ ?_;clear hK K;refine @wQ _ _ _ _ _ _ _ ?_ ?_;kernel_rfl;intro K hK;go_simp;go_at_call 6
 refine(HNEW.out _).mono ?_;rintro e w3 ⟨rfl,kx,hsz3,hd3⟩;have K3:=hid (K2.out.onto kx);have B3:=hid (show Boxed w3 rb 4 (.bool false) from row_kept B2.out kx)
 have Da:=hid hd3;have Z3:=hid hsz3;obtain⟨sa,hs⟩:∃ x,x = w2.heap.size + 2:=⟨_,rfl⟩;rw [← hs] at Da ⊢;clear kx hd3 hsz3 hs;refine hK _ _ ?_;clear hK K;iterate 5 (refine @wQ _ _ _ _ _ _ _ ?_ ?_;kernel_rfl;intro K hK;go_simp;refine hK _ _ ?_;clear hK K)
 go_upto_region 5 with fail
 refine wp_region_lit ?_;refine @wQ _ _ _ _ _ _ _ ?_ ?_;kernel_rfl;intro K hK;go_simp;refine hK _ _ ?_;clear hK K;refine @wQ _ _ _ _ _ _ _ ?_ ?_;kernel_rfl;intro K hK;go_simp;go_at_call 6
 refine(HNEW.out _).mono ?_;rintro e w4 ⟨rfl,kx,hsz4,hd4⟩;have K4:=hid (K3.out.onto kx);have B4:=hid (show Boxed w4 rb 4 (.bool false) from row_kept B3.out kx)
 have Db:=hid hd4;have Z4:=hid hsz4;have Da2:=hid (Da.out.kept kx);obtain⟨sb,hs⟩:∃ x,x = w3.heap.size + 2:=⟨_,rfl⟩;rw [← hs] at Db ⊢;clear kx hd4 hsz4 hs;refine hK _ _ ?_;clear hK K;iterate 6 (refine @wQ _ _ _ _ _ _ _ ?_ ?_;kernel_rfl;intro K hK;go_simp;refine hK _ _ ?_;clear hK K)
 have b5:Boxed (w4.alloc (.cells #[.pointer (some ⟨sb,0,none⟩)] 25)) w4.heap.size 25 (.pointer (some ⟨sb,0,none⟩)):=heap_new w4 _
 have k5:Kept w4.heap.size w4.heap.size w4 (w4.alloc (.cells #[.pointer (some ⟨sb,0,none⟩)] 25)):=(Kept.refl _ _ _).alloc (Nat.le_refl _) _
 have z5:(w4.alloc (.cells #[.pointer (some ⟨sb,0,none⟩)] 25)).heap.size = w4.heap.size + 1:=by simp
 have K5:=hid (K4.out.onto k5);have B5:=hid (show Boxed _ rb 4 (.bool false) from row_kept B4.out k5)
 have Da5:=hid (Da2.out.kept k5);have Db5:=hid (Db.out.kept k5);have HCY:=hid (copy15 _ _ M (HVA.out.kept (K4.out.onto k5)) (by rw [← HLN.out]; omega))
 rw [← HLN.out] at HCY;generalize w4.alloc (.cells #[.pointer (some ⟨sb,0,none⟩)] 25) = w5 at b5 k5 z5 K5 B5 Da5 Db5 HCY ⊢
 obtain⟨cb,hcb⟩:∃ x,x = w4.heap.size:=⟨_,rfl⟩;rw [← hcb] at b5 ⊢;have C5:=hid b5;have Z5:=hid (show w5.heap.size = cb + 1 by rw [hcb]; exact z5)
 have Z4b:=hid (show cb = w3.heap.size + 3 by rw [hcb]; exact Z4.out)
 clear b5 k5 z5 hcb;obtain⟨mg,mc,rest,w6,hrun,hmv,hmg,kx6⟩:=HCY.out;have HRUN:=hid hrun
 have H6:=hid (show OrI w w6 rb cb sa sb mg kp 0 0 M rest 0 0 _ _ [] [] none none [] [] from
  ⟨row_kept B5.out kx6,row_kept C5.out kx6,hmv,Da5.out.kept kx6,Db5.out.kept kx6,Dg.St.empty kp,Dg.St.empty kp,Nat.le_refl _,Nat.le_refl _,
   (fun k hk=>by
    have h1:w2.heap.size≤k∧k < w2.heap.size + 3:=hk;have h2:=B2.out.lt;have h3:=K2.out.size;have h4:=Z3.out;have h5:=Z4b.out;have h6:=Z5.out;refine⟨by omega,by omega,by omega,by omega,fun hb=>?_⟩
    have h7:w3.heap.size≤k∧k < w3.heap.size + 3:=hb
    omega),
   (fun k hk=>by
    have h1:w3.heap.size≤k∧k < w3.heap.size + 3:=hk;have h2:=B3.out.lt;have h3:=K3.out.size;have h5:=Z4b.out;have h6:=Z5.out
    exact⟨by omega,by omega,by omega,by omega⟩),HRB.out,(by have:=K5.out.size; omega),K5.out.onto kx6⟩)
 clear hrun hmv hmg kx6 HCY;generalize (fun k=>w2.heap.size≤k∧k < w2.heap.size + 3) = Fa0 at H6
 generalize (fun k=>w3.heap.size≤k∧k < w3.heap.size + 3) = Fb0 at H6
 clear K1 K2 K3 K4 K5 B1 B2 B3 B4 B5 C5 Da Da2 Db Da5 Db5 Z3 Z4 Z4b Z5 HNEW
 go_upto_region 6 with fail
 refine wp_region_lit ?_;refine wpList_build_run15 rfl 22 0 rfl (build_none15 _) ?_
 simp only [Act.put,sA,sB,sC];refine @wQ _ _ _ _ _ _ _ ?_ ?_;kernel_rfl;intro K hK;go_simp;refine hK _ _ ?_;clear hK K;refine wpList_append_known rfl _ _ 22 22 22 rfl rfl _ _ rfl rfl HRUN.out ?_
 simp only [Act.put,sA,sB,sC];refine @wQ _ _ _ _ _ _ _ ?_ ?_;kernel_rfl;intro K hK;go_simp;refine hK _ _ ?_;clear hK K;clear HRUN
 go_wp2_with fail
 refine wp_mono (Q:=fun e a' wr=>e = .exit 0∧∃ (R:List Vx),(Hid (R.Perm M)∧Hid (OrI w wr rb cb sa sb mg kp 0 0 R rest 0 0 Fa0 Fb0 [] [] none none [] []))∧∃ u0 u2 u3 u4 u5 u7 u9 u11 u13 u14 u15 u16 u17 u18 u19 u20 u21 u22 u23 u24 u25 u26 u27 u28 u29 u30 u31 u32 u33 u34 u35 u36 u37 u38 u39 u40 u41 u42 u43 u44 u45 u46 u47 u48 u49 u50 u51 u52 u53 u54 u55 u56 u57 u58 u59 u60 u61 u62 u63 u64 u65 u66 u67 u68 u69 u70 u71 u72 u73 u74 u75 u76 u77 u78 u79 u80 u81 u82 u83 u84 u85 u86 u87 u88 u89 u90 u91 u92 u93 u94 u95 u96 u97 u98 u99 u100 u101 u102 u103 u104 u105 u106 u107 u108 u109 u110 u111 u112 u113 u114 u115 u116 u117 u118 u119 u120 u121 u122 u123 u124 u125 u126 u127 u128 u129 u130 u131 u132 u133 u134 u135 u136 u137 u138 u139 u140 u141 u142 u143 u144 u145 u146 u147 u148 u149 u150 u151 u152 u153 u154 u155 u156 u157 u158 u159 u160 u161 u162 u163 u164 u165 u166 u167 u168 u169 u170 u171 u172 u173 u174 u175 u176 u177 u178 u179 u180 u181 u182 u183 u184 u185 u186 u187 u188 u189 u190 u191 u192 u193 u194 u195 u196 u197 u198 u199 u200 u201 u202:Value,a' = { tmps:=#[u0,.slice ad ln c,u2,u3,u4,u5,.pointer (some ⟨rb,0,none⟩),u7,.pointer (some ⟨sa,0,none⟩),u9,.pointer (some ⟨cb,0,none⟩),u11,.slice (some ⟨mg,0,none⟩) ln mc,u13,u14,u15,u16,u17,u18,u19,u20,u21,u22,u23,u24,u25,u26,u27,u28,u29,u30,u31,u32,u33,u34,u35,u36,u37,u38,u39,u40,u41,u42,u43,u44,u45,u46,u47,u48,u49,u50,u51,u52,u53,u54,u55,u56,u57,u58,u59,u60,u61,u62,u63,u64,u65,u66,u67,u68,u69,u70,u71,u72,u73,u74,u75,u76,u77,u78,u79,u80,u81,u82,u83,u84,u85,u86,u87,u88,u89,u90,u91,u92,u93,u94,u95,u96,u97,u98,u99,u100,u101,u102,u103,u104,u105,u106,u107,u108,u109,u110,u111,u112,u113,u114,u115,u116,u117,u118,u119,u120,u121,u122,u123,u124,u125,u126,u127,u128,u129,u130,u131,u132,u133,u134,u135,u136,u137,u138,u139,u140,u141,u142,u143,u144,u145,u146,u147,u148,u149,u150,u151,u152,u153,u154,u155,u156,u157,u158,u159,u160,u161,u162,u163,u164,u165,u166,u167,u168,u169,u170,u171,u172,u173,u174,u175,u176,u177,u178,u179,u180,u181,u182,u183,u184,u185,u186,u187,u188,u189,u190,u191,u192,u193,u194,u195,u196,u197,u198,u199,u200,u201,u202],defers:=[] }) ?first ?rest
 case' first=>
  go_loopw [13] (fun s13 wr=>∃ (i:Nat) (R:List Vx),s13 = .int .i64 (i:Int)∧i≤tn∧Hid (R.Perm M)∧Hid (OrI w wr rb cb sa sb mg kp 0 0 R rest 0 0 Fa0 Fb0 [] [] none none [] [])) (fun s13 _=>tn - (RowKit.intOf s13).toNat)
  case atStart=>exact⟨0,M,rfl,Nat.zero_le _,hid (List.Perm.refl _),H6⟩
  case round=>
   obtain⟨i,R,rfl,hit,HPM,HO⟩:=hrel;clear H6;have HRO:=hid (show ∀ x∈R,x.Ok from fun x hx=>HOK.out x (HPM.out.mem_iff.1 hx))
   have HRL:=hid (show R.length = ln by rw [HLN.out]; exact HPM.out.length_eq)
   by_cases hgo:i < tn∧0 < ln
   ·obtain⟨hlt,hl0⟩:=hgo
    have hki:(i:Int) < (tn:Int):=by omega
    have hi0:¬ (i:Int) < 0:=by omega
    have hlp:(0:Int) < (ln:Int):=by omega
    have hlz:¬ (ln:Int) = 0:=by omega
    obtain⟨tb,htad,htg,htc,htb0,htb1⟩:=HTL.out i hlt;obtain⟨xi,hxi,hxl⟩:=tmod_at15 (a:=(i:Int)) (by omega) hl0
    obtain⟨yi,hyi,hyl⟩:=tmod_at15 (a:=IntKind.i64.wrap tb) (by rw [i64_in15 tb (by omega)]; exact htb0) hl0
    have HXI:=hid hxi;have HYI:=hid hyi;have HLT:=hid hlt
    have HL8:=hid (fun(u:World) (k:Kept wr.heap.size wr.heap.size wr u)=>load_u8_15 (show u.cell? ⟨tg,to + i,none⟩ = some (.int .u8 tb) from by
     have k2:=HO.out.kp.onto k;rw [World.cell?_of_block (a:=⟨tg,to + i,none⟩) (w:=w) (k2.block tg htg (Nat.ne_of_lt htg))]
     exact htc))
    have hln0:¬ ln = 0:=by omega
    subst htad;clear htg htc hxi hyi htb0 htb1 hlt hl0
    go_upto_region 10 with fail
    refine wp_region_noPanic ?_;refine wp_region_held_drew (S:=fun x=>Kept wr.heap.size wr.heap.size wr x) (by kernel_rfl) ((Kept.refl _ _ _).drew) (fun hH=>?_)
    refine wpAnyH_take_ex (i:=0) 70 rfl rfl (by kernel_rfl) (by kernel_rfl) (by kernel_rfl) (fun _ _ _ _ h=>h) (by kernel_rfl) hH ?_
    apply Exists.intro;apply And.intro
    ·intro w9 _
     go_simp
     first | done | rfl
    simp only [sA,sB,sC];refine wpAnyH_take_ex (i:=1) 71 rfl rfl (by kernel_rfl) (by kernel_rfl) (by kernel_rfl) (fun _ _ _ _ h=>h) (by kernel_rfl) hH ?_
    apply Exists.intro;apply And.intro
    ·intro w9 _
     go_simp
     first | done | rfl
    simp only [sA,sB,sC];refine wpAnyH_take_ex (i:=2) 72 rfl rfl (by kernel_rfl) (by kernel_rfl) (by kernel_rfl) (fun _ _ _ _ h=>h) (by kernel_rfl) hH ?_
    apply Exists.intro;apply And.intro
    ·intro w9 _
     go_simp
     first | done | rfl
    simp only [sA,sB,sC]
    refine wpAnyH_take_at (i:=3) 73 (.int .i64 (xi:Int)) rfl rfl (by kernel_rfl) (by kernel_rfl) (by kernel_rfl) (fun _ _ _ h=>h) (.inl ⟨by kernel_rfl,fun w9 h9=>by
     rw [HXI.out];go_simp
     all_goals first | done | assumption⟩) hH ?_
    simp only [sA,sB,sC];refine wpAnyH_take_ex (i:=9) 79 rfl rfl (by kernel_rfl) (by kernel_rfl) (by kernel_rfl) (fun _ _ _ _ h=>h) (by kernel_rfl) hH ?_
    apply Exists.intro;apply And.intro
    ·intro w9 _
     go_simp
     first | done | rfl
    simp only [sA,sB,sC];refine wpAnyH_take_ex (i:=10) 80 rfl rfl (by kernel_rfl) (by kernel_rfl) (by kernel_rfl) (fun _ _ _ _ h=>h) (by kernel_rfl) hH ?_
    apply Exists.intro;apply And.intro
    ·intro w9 _
     go_simp
     first | done | rfl
    simp only [sA,sB,sC];refine wpAnyH_take_ex (i:=12) 14 rfl rfl (by kernel_rfl) (by kernel_rfl) (by kernel_rfl) (fun _ _ _ _ h=>h) (by kernel_rfl) hH ?_
    apply Exists.intro;apply And.intro
    ·intro w9 _
     go_simp
     first | done | rfl
    simp only [sA,sB,sC];refine wpAnyH_take_ex (i:=4) 74 rfl rfl (by kernel_rfl) (by kernel_rfl) (by kernel_rfl) (fun _ _ _ _ h=>h) (by kernel_rfl) hH ?_
    apply Exists.intro;apply And.intro
    ·intro w9 _
     go_simp
     first | done | rfl
    simp only [sA,sB,sC];refine wpAnyH_take_ex (i:=5) 75 rfl rfl (by kernel_rfl) (by kernel_rfl) (by kernel_rfl) (fun _ _ _ _ h=>h) (by kernel_rfl) hH ?_
    apply Exists.intro;apply And.intro
    ·intro w9 _
     go_simp
     first | done | rfl
    simp only [sA,sB,sC];refine wpAnyH_take_ex (i:=6) 76 rfl rfl (by kernel_rfl) (by kernel_rfl) (by kernel_rfl) (fun _ _ _ _ h=>h) (by kernel_rfl) hH ?_
    apply Exists.intro;apply And.intro
    ·intro w9 _
     go_simp
     first | done | rfl
    simp only [sA,sB,sC];refine wpAnyH_take_at (i:=7) 77 (.int .u8 tb) rfl rfl (by kernel_rfl) (by kernel_rfl) (by kernel_rfl) (fun _ _ _ h=>h) (yieldsIf_load_known (by kernel_rfl) 5 _ rfl (tg) (to + i) rfl (.int .u8 tb) (fun u k=>HL8.out u k)) hH ?_
    simp only [sA,sB,sC];refine wpAnyH_take_ex (i:=8) 78 rfl rfl (by kernel_rfl) (by kernel_rfl) (by kernel_rfl) (fun _ _ _ _ h=>h) (by kernel_rfl) hH ?_
    apply Exists.intro;apply And.intro
    ·intro w9 _
     go_simp
     first | done | rfl
    simp only [sA,sB,sC]
    refine wpAnyH_take_at (i:=11) 81 (.int .i64 (yi:Int)) rfl rfl (by kernel_rfl) (by kernel_rfl) (by kernel_rfl) (fun _ _ _ h=>h) (.inl ⟨by kernel_rfl,fun w9 h9=>by
     rw [HYI.out];go_simp
     all_goals first | done | assumption⟩) hH ?_
    simp only [sA,sB,sC];refine wpAnyH_take_ex (i:=13) 15 rfl rfl (by kernel_rfl) (by kernel_rfl) (by kernel_rfl) (fun _ _ _ _ h=>h) (by kernel_rfl) hH ?_
    apply Exists.intro;apply And.intro
    ·intro w9 _
     go_simp
     first | done | rfl
    simp only [sA,sB,sC];refine wpAnyH_done (by kernel_rfl) ?_ _
    refine NoPanic.normal ?_;have hx1:(xi:Int) < (ln:Int):=by omega
    have hx0:¬ (xi:Int) < 0:=by omega
    have hy1:(yi:Int) < (ln:Int):=by omega
    have hy0:¬ (yi:Int) < 0:=by omega
    have hxR:xi < R.length:=by rw [HRL.out]; exact hxl
    have hyR:yi < R.length:=by rw [HRL.out]; exact hyl
    obtain⟨X,hX⟩:∃ x,x = R[xi]:=⟨_,rfl⟩;obtain⟨Y,hY⟩:∃ x,x = R[yi]:=⟨_,rfl⟩;have hXO:X.Ok:=by rw [hX]; exact HRO.out _ (List.getElem_mem hxR)
    have hYO:Y.Ok:=by rw [hY]; exact HRO.out _ (List.getElem_mem hyR)
    have HOd:=hid (HO.out.kept (Kept.refl wr.heap.size wr.heap.size wr).drew);have HLX:=hid (HOd.out.row.load HRO.out xi hxR);rw [← hX] at HLX;have ka:Kept wr.drew.heap.size wr.drew.heap.size wr.drew (wr.drew.alloc (.cells X.cells.toArray 32)):=(Kept.refl _ _ _).alloc (Nat.le_refl _) _
    have HOa:=hid (HOd.out.kept ka);have hob:=heap_new wr.drew (.cells X.cells.toArray 32)
    have HLY:=hid (HOa.out.row.load HRO.out yi hyR);rw [← hY] at HLY;have HTX:=hid (HOa.out.row.there HRO.out xi hxR);have HOb:=hid (HOa.out.turn HRO.out xi hxR Y hYO)
    have hR1:∀ x∈R.set xi Y,x.Ok:=fun x hx=>by
     rcases List.mem_or_eq_of_mem_set hx with h | h
     ·exact HRO.out x h
     ·rw [h]; exact hYO
    have hy2:yi < (R.set xi Y).length:=by rw [List.length_set]; exact hyR
    have HTY:=hid (HOb.out.row.there hR1 yi hy2);have HOc:=hid (HOb.out.turn hR1 yi hy2 X hXO);have HP2:=hid (show((R.set xi Y).set yi X).Perm M by rw [hX,hY]; exact(List.set_set_perm hxR hyR).trans HPM.out)
    have hcXI:(Try.prog.info? 32).map (·.size) = some X.cells.toArray.size:=by rw [rvInfo15,List.size_toArray,Vx.cells_length hXO]
    have hcYI:(Try.prog.info? 32).map (·.size) = some Y.cells.toArray.size:=by rw [rvInfo15,List.size_toArray,Vx.cells_length hYO]
    have hobm:mg < wr.drew.heap.size:=HOd.out.row |> lt_of_block
    have HLO:=hid (show(loadVar 32 ⟨wr.drew.heap.size,0,none⟩).run Try.prog ((wr.drew.alloc (.cells X.cells.toArray 32)).setCells mg (xi * 66) Y.cells) = .ok (.agg X.cells.toArray) ((wr.drew.alloc (.cells X.cells.toArray 32)).setCells mg (xi * 66) Y.cells) from
     run_loadVar_row _ _ 32 32 _ (0,0) _ ((((HOa.out.row.set HRO.out xi hxR Y hYO).2.1 _ (by omega))).trans hob) Try.underlying32 rfl hcXI)
    have HXZ:=hid (show Vx.zero.cells.toArray.size = X.cells.toArray.size by rw [List.size_toArray,List.size_toArray,Vx.cells_length hXO,Vx.cells_length Vx.zero_ok])
    have HXA:=hid (Vx.cells_all X);have HYA:=hid (Vx.cells_all Y);have HXC:=hid hcXI;have HYC:=hid hcYI;have HX6:=hid (show X.cells.toArray.size = 66 by rw [List.size_toArray,Vx.cells_length hXO])
    have HY6:=hid (show Y.cells.toArray.size = 66 by rw [List.size_toArray,Vx.cells_length hYO])
    clear ka hob hX hY hXO hYO hR1 hy2 hcXI hcYI hobm hxR hyR hxl hyl HOd HOa HOb HO
    go_upto_region 11 with fail
    refine wp_region_lit ?_;iterate 3 (refine @wQ _ _ _ _ _ _ _ ?_ ?_;kernel_rfl;intro K hK;go_simp;refine hK _ _ ?_;clear hK K)
    refine @wpList_load_known _ _ _ _ _ _ _ ?_ 32 (.tmp 84) rfl (mg) (xi * 66) rfl (.agg X.cells.toArray) (HLX.out) ?_;kernel_rfl
    simp only [Act.put,sA,sB,sC];refine @wpL_alloc _ _ _ _ _ _ _ _ ?_ 32 rfl _ (alloc_rv15 _) ?_;kernel_rfl
    simp only [Act.put,sA,sB,sC];refine wpList_store_row rfl 32 _ _ rfl (wr.drew.heap.size) X.cells.toArray rfl rfl 32 Vx.zero.cells.toArray (heap_new _ _) (HXC.out) (HXZ.out) (HXA.out) ?_
    simp only [Act.put];rw [World.setRow_alloc_new]
    go_upto_region 12 with fail
    refine wp_region_lit ?_;iterate 5 (refine @wQ _ _ _ _ _ _ _ ?_ ?_;kernel_rfl;intro K hK;go_simp;refine hK _ _ ?_;clear hK K)
    refine @wpList_load_known _ _ _ _ _ _ _ ?_ 32 (.tmp 90) rfl (mg) (yi * 66) rfl (.agg Y.cells.toArray) (HLY.out) ?_;kernel_rfl
    simp only [Act.put,sA,sB,sC];refine @wQ _ _ _ _ _ _ _ ?_ ?_;kernel_rfl;intro K hK;go_simp;refine hK _ _ ?_;clear hK K;refine @wQ _ _ _ _ _ _ _ ?_ ?_;kernel_rfl;intro K hK;refine wp_store_mid_none11 32 _ _ rfl rfl mg (xi * 66) Y.cells.toArray rfl rfl (by rw [HY6.out]; exact HTX.out) HYC.out HYA.out ?_
    refine hK _ _ ?_;clear hK K
    go_upto_region 13 with fail
    refine wp_region_lit ?_;iterate 2 (refine @wQ _ _ _ _ _ _ _ ?_ ?_;kernel_rfl;intro K hK;go_simp;refine hK _ _ ?_;clear hK K)
    refine @wpList_load_known _ _ _ _ _ _ _ ?_ 32 (.tmp 16) rfl (wr.drew.heap.size) (0) rfl (.agg X.cells.toArray) (HLO.out) ?_;kernel_rfl
    simp only [Act.put,sA,sB,sC];refine @wQ _ _ _ _ _ _ _ ?_ ?_;kernel_rfl;intro K hK;go_simp;refine hK _ _ ?_;clear hK K;refine @wQ _ _ _ _ _ _ _ ?_ ?_;kernel_rfl;intro K hK;refine wp_store_mid_none11 32 _ _ rfl rfl mg (yi * 66) X.cells.toArray rfl rfl (by rw [HX6.out]; exact HTY.out) HXC.out HXA.out ?_
    refine hK _ _ ?_;clear hK K
    go_wp2_with fail
    go_roundw
    case rel=>exact⟨i + 1,_,rfl,HLT.out,HP2,HOc⟩
    case measure=>
     have:=HLT.out;simp [RowKit.intOf]
     omega
   ·have hcase:¬ (i:Int) < (tn:Int)∨((i:Int) < (tn:Int)∧¬ (0:Int) < (ln:Int)):=by omega
    clear hgo
    rcases hcase with hki | ⟨hki,hkl⟩
    all_goals
     go_wp2_with fail
     refine⟨by first | trivial | rfl,R,⟨HPM,HO⟩,?_⟩
     repeat apply Exists.intro
     rfl
 case' rest=>
  rintro e a' wr ⟨rfl,R,⟨HPM,H6b⟩,hinv⟩;obtain⟨u0,hinv⟩:=hinv;obtain⟨u2,hinv⟩:=hinv;obtain⟨u3,hinv⟩:=hinv;obtain⟨u4,hinv⟩:=hinv;obtain⟨u5,hinv⟩:=hinv;obtain⟨u7,hinv⟩:=hinv;obtain⟨u9,hinv⟩:=hinv;obtain⟨u11,hinv⟩:=hinv;obtain⟨u13,hinv⟩:=hinv;obtain⟨u14,hinv⟩:=hinv;obtain⟨u15,hinv⟩:=hinv;obtain⟨u16,hinv⟩:=hinv;obtain⟨u17,hinv⟩:=hinv;obtain⟨u18,hinv⟩:=hinv;obtain⟨u19,hinv⟩:=hinv;obtain⟨u20,hinv⟩:=hinv;obtain⟨u21,hinv⟩:=hinv;obtain⟨u22,hinv⟩:=hinv;obtain⟨u23,hinv⟩:=hinv;obtain⟨u24,hinv⟩:=hinv;obtain⟨u25,hinv⟩:=hinv;obtain⟨u26,hinv⟩:=hinv;obtain⟨u27,hinv⟩:=hinv;obtain⟨u28,hinv⟩:=hinv;obtain⟨u29,hinv⟩:=hinv;obtain⟨u30,hinv⟩:=hinv;obtain⟨u31,hinv⟩:=hinv;obtain⟨u32,hinv⟩:=hinv;obtain⟨u33,hinv⟩:=hinv;obtain⟨u34,hinv⟩:=hinv;obtain⟨u35,hinv⟩:=hinv;obtain⟨u36,hinv⟩:=hinv;obtain⟨u37,hinv⟩:=hinv;obtain⟨u38,hinv⟩:=hinv;obtain⟨u39,hinv⟩:=hinv;obtain⟨u40,hinv⟩:=hinv;obtain⟨u41,hinv⟩:=hinv;obtain⟨u42,hinv⟩:=hinv;obtain⟨u43,hinv⟩:=hinv;obtain⟨u44,hinv⟩:=hinv;obtain⟨u45,hinv⟩:=hinv;obtain⟨u46,hinv⟩:=hinv;obtain⟨u47,hinv⟩:=hinv;obtain⟨u48,hinv⟩:=hinv;obtain⟨u49,hinv⟩:=hinv;obtain⟨u50,hinv⟩:=hinv;obtain⟨u51,hinv⟩:=hinv;obtain⟨u52,hinv⟩:=hinv;obtain⟨u53,hinv⟩:=hinv;obtain⟨u54,hinv⟩:=hinv;obtain⟨u55,hinv⟩:=hinv;obtain⟨u56,hinv⟩:=hinv;obtain⟨u57,hinv⟩:=hinv;obtain⟨u58,hinv⟩:=hinv;obtain⟨u59,hinv⟩:=hinv;obtain⟨u60,hinv⟩:=hinv;obtain⟨u61,hinv⟩:=hinv;obtain⟨u62,hinv⟩:=hinv;obtain⟨u63,hinv⟩:=hinv;obtain⟨u64,hinv⟩:=hinv;obtain⟨u65,hinv⟩:=hinv;obtain⟨u66,hinv⟩:=hinv;obtain⟨u67,hinv⟩:=hinv;obtain⟨u68,hinv⟩:=hinv;obtain⟨u69,hinv⟩:=hinv;obtain⟨u70,hinv⟩:=hinv;obtain⟨u71,hinv⟩:=hinv;obtain⟨u72,hinv⟩:=hinv;obtain⟨u73,hinv⟩:=hinv;obtain⟨u74,hinv⟩:=hinv;obtain⟨u75,hinv⟩:=hinv;obtain⟨u76,hinv⟩:=hinv;obtain⟨u77,hinv⟩:=hinv;obtain⟨u78,hinv⟩:=hinv;obtain⟨u79,hinv⟩:=hinv;obtain⟨u80,hinv⟩:=hinv;obtain⟨u81,hinv⟩:=hinv;obtain⟨u82,hinv⟩:=hinv;obtain⟨u83,hinv⟩:=hinv;obtain⟨u84,hinv⟩:=hinv;obtain⟨u85,hinv⟩:=hinv;obtain⟨u86,hinv⟩:=hinv;obtain⟨u87,hinv⟩:=hinv;obtain⟨u88,hinv⟩:=hinv;obtain⟨u89,hinv⟩:=hinv;obtain⟨u90,hinv⟩:=hinv;obtain⟨u91,hinv⟩:=hinv;obtain⟨u92,hinv⟩:=hinv;obtain⟨u93,hinv⟩:=hinv;obtain⟨u94,hinv⟩:=hinv;obtain⟨u95,hinv⟩:=hinv;obtain⟨u96,hinv⟩:=hinv;obtain⟨u97,hinv⟩:=hinv;obtain⟨u98,hinv⟩:=hinv;obtain⟨u99,hinv⟩:=hinv;obtain⟨u100,hinv⟩:=hinv;obtain⟨u101,hinv⟩:=hinv;obtain⟨u102,hinv⟩:=hinv;obtain⟨u103,hinv⟩:=hinv;obtain⟨u104,hinv⟩:=hinv;obtain⟨u105,hinv⟩:=hinv;obtain⟨u106,hinv⟩:=hinv;obtain⟨u107,hinv⟩:=hinv;obtain⟨u108,hinv⟩:=hinv;obtain⟨u109,hinv⟩:=hinv;obtain⟨u110,hinv⟩:=hinv;obtain⟨u111,hinv⟩:=hinv;obtain⟨u112,hinv⟩:=hinv;obtain⟨u113,hinv⟩:=hinv;obtain⟨u114,hinv⟩:=hinv;obtain⟨u115,hinv⟩:=hinv;obtain⟨u116,hinv⟩:=hinv;obtain⟨u117,hinv⟩:=hinv;obtain⟨u118,hinv⟩:=hinv;obtain⟨u119,hinv⟩:=hinv;obtain⟨u120,hinv⟩:=hinv;obtain⟨u121,hinv⟩:=hinv;obtain⟨u122,hinv⟩:=hinv;obtain⟨u123,hinv⟩:=hinv;obtain⟨u124,hinv⟩:=hinv;obtain⟨u125,hinv⟩:=hinv;obtain⟨u126,hinv⟩:=hinv;obtain⟨u127,hinv⟩:=hinv;obtain⟨u128,hinv⟩:=hinv;obtain⟨u129,hinv⟩:=hinv;obtain⟨u130,hinv⟩:=hinv;obtain⟨u131,hinv⟩:=hinv;obtain⟨u132,hinv⟩:=hinv;obtain⟨u133,hinv⟩:=hinv;obtain⟨u134,hinv⟩:=hinv;obtain⟨u135,hinv⟩:=hinv;obtain⟨u136,hinv⟩:=hinv;obtain⟨u137,hinv⟩:=hinv;obtain⟨u138,hinv⟩:=hinv;obtain⟨u139,hinv⟩:=hinv;obtain⟨u140,hinv⟩:=hinv;obtain⟨u141,hinv⟩:=hinv;obtain⟨u142,hinv⟩:=hinv;obtain⟨u143,hinv⟩:=hinv;obtain⟨u144,hinv⟩:=hinv;obtain⟨u145,hinv⟩:=hinv;obtain⟨u146,hinv⟩:=hinv;obtain⟨u147,hinv⟩:=hinv;obtain⟨u148,hinv⟩:=hinv;obtain⟨u149,hinv⟩:=hinv;obtain⟨u150,hinv⟩:=hinv;obtain⟨u151,hinv⟩:=hinv;obtain⟨u152,hinv⟩:=hinv;obtain⟨u153,hinv⟩:=hinv;obtain⟨u154,hinv⟩:=hinv;obtain⟨u155,hinv⟩:=hinv;obtain⟨u156,hinv⟩:=hinv;obtain⟨u157,hinv⟩:=hinv;obtain⟨u158,hinv⟩:=hinv;obtain⟨u159,hinv⟩:=hinv;obtain⟨u160,hinv⟩:=hinv;obtain⟨u161,hinv⟩:=hinv;obtain⟨u162,hinv⟩:=hinv;obtain⟨u163,hinv⟩:=hinv;obtain⟨u164,hinv⟩:=hinv;obtain⟨u165,hinv⟩:=hinv;obtain⟨u166,hinv⟩:=hinv;obtain⟨u167,hinv⟩:=hinv;obtain⟨u168,hinv⟩:=hinv;obtain⟨u169,hinv⟩:=hinv;obtain⟨u170,hinv⟩:=hinv;obtain⟨u171,hinv⟩:=hinv;obtain⟨u172,hinv⟩:=hinv;obtain⟨u173,hinv⟩:=hinv;obtain⟨u174,hinv⟩:=hinv;obtain⟨u175,hinv⟩:=hinv;obtain⟨u176,hinv⟩:=hinv;obtain⟨u177,hinv⟩:=hinv;obtain⟨u178,hinv⟩:=hinv;obtain⟨u179,hinv⟩:=hinv;obtain⟨u180,hinv⟩:=hinv;obtain⟨u181,hinv⟩:=hinv;obtain⟨u182,hinv⟩:=hinv;obtain⟨u183,hinv⟩:=hinv;obtain⟨u184,hinv⟩:=hinv;obtain⟨u185,hinv⟩:=hinv;obtain⟨u186,hinv⟩:=hinv;obtain⟨u187,hinv⟩:=hinv;obtain⟨u188,hinv⟩:=hinv;obtain⟨u189,hinv⟩:=hinv;obtain⟨u190,hinv⟩:=hinv;obtain⟨u191,hinv⟩:=hinv;obtain⟨u192,hinv⟩:=hinv;obtain⟨u193,hinv⟩:=hinv;obtain⟨u194,hinv⟩:=hinv;obtain⟨u195,hinv⟩:=hinv;obtain⟨u196,hinv⟩:=hinv;obtain⟨u197,hinv⟩:=hinv;obtain⟨u198,hinv⟩:=hinv;obtain⟨u199,hinv⟩:=hinv;obtain⟨u200,hinv⟩:=hinv;obtain⟨u201,hinv⟩:=hinv;obtain⟨u202,hinv⟩:=hinv;subst hinv;clear H6;have HRO:=hid (show ∀ x∈R,x.Ok from fun x hx=>HOK.out x (HPM.out.mem_iff.1 hx))
  have HRL:=hid (show R.length = ln by rw [HLN.out]; exact HPM.out.length_eq)
  have HLE:=hid (show ln≤60 by omega)
  show Exit.inBlock 0 _ _ _ _;simp only [Exit.inBlock,if_true]
  go_upto_region 14 with fail
  refine wp_region_lit ?_;refine @wQ _ _ _ _ _ _ _ ?_ ?_;kernel_rfl;intro K hK;go_simp;refine hK _ _ ?_;clear hK K
  go_wp2_with fail
  go_loopw [17] (fun s17 wr=>∃ (i na nb:Nat) (Fa Fb:Nat→Prop) (A B:List Vx) (x y:Option Vx) (Pa Pb:List (List UInt8)),s17 = .int .i64 (i:Int)∧i≤ln∧Hid (OrI w wr rb cb sa sb mg kp i i R rest na nb Fa Fb A B x y Pa Pb)∧Hid (Dg.Reach kp (M.take i) A x)∧Hid (Dg.Reach kp (R.take i) B y)) (fun s17 _=>ln - (RowKit.intOf s17).toNat)
  case atStart=>exact⟨0,0,0,Fa0,Fb0,[],[],none,none,[],[],rfl,Nat.zero_le _,H6b,hid (Dg.Reach.empty kp),hid (Dg.Reach.empty kp)⟩
  case round=>
   obtain⟨i,na,nb,Fa,Fb,A,B,x,y,Pa,Pb,rfl,hil,HO,HRA,HRB⟩:=hrel;clear H6b
   by_cases hlt:i < ln
   ·have hki:(i:Int) < (ln:Int):=by omega
    have hi0:¬ (i:Int) < 0:=by omega
    have hiM:i < M.length:=by rw [← HLN.out]; exact hlt
    have hiR:i < R.length:=by rw [HRL.out]; exact hlt
    obtain⟨had,hg,har⟩:=HEL.out i hiM;obtain⟨X,hX⟩:∃ x,x = M[i]:=⟨_,rfl⟩;obtain⟨Y,hY⟩:∃ x,x = R[i]:=⟨_,rfl⟩;rw [← hX] at har;have hXO:X.Ok:=by rw [hX]; exact HOK.out _ (List.getElem_mem hiM)
    have hYO:Y.Ok:=by rw [hY]; exact HRO.out _ (List.getElem_mem hiR)
    have HLT:=hid hlt;have HXO:=hid hXO;have HYO:=hid hYO;have HTX:=hid (show M.take (i + 1) = M.take i ++ [X] by rw [hX,List.take_succ_eq_append_getElem hiM])
    have HTY:=hid (show R.take (i + 1) = R.take i ++ [Y] by rw [hY,List.take_succ_eq_append_getElem hiR])
    have HYR:=hid (fun(u:World) (h:Mv u mg R rest)=>(show u.rangeAt mg (i * 66) Y.cells by rw [hY]; exact h.range HRO.out i hiR))
    have har2:=fun(u:World) (k:Dfr Fa wr u)=>range_dfr15 (rangeAt_kept HO.out.kp har hg (Nat.ne_of_lt hg)) (Nat.lt_of_lt_of_le hg HO.out.kp.size) k (fun hf=>by have:=(HO.out.olda g hf).1; omega)
    have HL1:=hid (fun(u:World) (k:Dfr Fa wr u)=>load_hash15 hXO.1 (range_id15 (har2 u k)))
    have HL2:=hid (fun(u:World) (k:Dfr Fa wr u)=>load_hash15 hXO.2 (range_par15 hXO (har2 u k)))
    have HL3:=hid (fun(u:World) (k:Dfr Fa wr u)=>load_int15 (range_dep15 hXO (har2 u k)))
    have HL4:=hid (fun(u:World) (k:Dfr Fa wr u)=>load_int15 (range_dat15 hXO (har2 u k)))
    have HBV:=hid (fun u=>build_vx4 X.id X.par hXO.1 hXO.2 X.dep X.dat u)
    have HIN:=hid (fun(u:World) (k:Kept wr.heap.size wr.heap.size wr u)=>insert15 u (HO.out.da.kept k) HO.out.sta X HXO.out (by have h1:=HO.out.nla; have h2:=HLE.out; have h3:=HLT.out; omega))
    subst had;have hXE:(⟨X.id,X.par,X.dep,X.dat⟩:Vx) = X:=rfl;rw [hXE] at HBV;clear hXE;obtain⟨xd,hxd⟩:∃ y,y = X.dep:=⟨_,rfl⟩;obtain⟨xt,hxt⟩:∃ y,y = X.dat:=⟨_,rfl⟩;rw [← hxd] at HL3 HBV;rw [← hxt] at HL4 HBV;unfold Vx.val at HBV HIN;generalize (bcells X.id).toArray = ic at HL1 HBV;generalize (bcells X.par).toArray = pc at HL2 HBV;generalize X.cells.toArray = VC at HBV HIN;clear har har2 hg hXO hYO hX hY hxd hxt hiM hiR hlt
    go_upto_region 17 with fail
    refine wp_region_noPanic ?_;refine wp_region_held_drew (S:=fun x=>Dfr Fa wr x) (by kernel_rfl) (Dfr.of_kept (Kept.refl _ _ _).drew) (fun hH=>?_)
    have KD:=hid (show Kept wr.heap.size wr.heap.size wr wr.drew from(Kept.refl _ _ _).drew);obtain⟨wd,hwd⟩:∃ x,x = wr.drew:=⟨_,rfl⟩;rw [← hwd] at hH KD ⊢;clear hwd;refine wpAnyH_take_ex (i:=0) 104 rfl rfl (by kernel_rfl) (by kernel_rfl) (by kernel_rfl) (fun _ _ _ _ h=>h) (by kernel_rfl) hH ?_
    apply Exists.intro;apply And.intro
    ·intro w9 _
     go_simp
     first | done | rfl
    simp only [sA,sB,sC];refine wpAnyH_take_ex (i:=1) 105 rfl rfl (by kernel_rfl) (by kernel_rfl) (by kernel_rfl) (fun _ _ _ _ h=>h) (by kernel_rfl) hH ?_
    apply Exists.intro;apply And.intro
    ·intro w9 _
     go_simp
     first | done | rfl
    simp only [sA,sB,sC];refine wpAnyH_take_ex (i:=2) 106 rfl rfl (by kernel_rfl) (by kernel_rfl) (by kernel_rfl) (fun _ _ _ _ h=>h) (by kernel_rfl) hH ?_
    apply Exists.intro;apply And.intro
    ·intro w9 _
     go_simp
     first | done | rfl
    simp only [sA,sB,sC];refine wpAnyH_take_ex (i:=3) 107 rfl rfl (by kernel_rfl) (by kernel_rfl) (by kernel_rfl) (fun _ _ _ _ h=>h) (by kernel_rfl) hH ?_
    apply Exists.intro;apply And.intro
    ·intro w9 _
     go_simp
     first | done | rfl
    simp only [sA,sB,sC];refine wpAnyH_take_ex (i:=4) 108 rfl rfl (by kernel_rfl) (by kernel_rfl) (by kernel_rfl) (fun _ _ _ _ h=>h) (by kernel_rfl) hH ?_
    apply Exists.intro;apply And.intro
    ·intro w9 _
     go_simp
     first | done | rfl
    simp only [sA,sB,sC];refine wpAnyH_take_at (i:=5) 109 (.agg ic) rfl rfl (by kernel_rfl) (by kernel_rfl) (by kernel_rfl) (fun _ _ _ h=>h) (yieldsIf_load_known (by kernel_rfl) 30 _ rfl (g) (o + i * 66) rfl (.agg ic) (fun x k=>HL1.out x k)) hH ?_
    simp only [sA,sB,sC];refine wpAnyH_take_ex (i:=6) 110 rfl rfl (by kernel_rfl) (by kernel_rfl) (by kernel_rfl) (fun _ _ _ _ h=>h) (by kernel_rfl) hH ?_
    apply Exists.intro;apply And.intro
    ·intro w9 _
     go_simp
     first | done | rfl
    simp only [sA,sB,sC];refine wpAnyH_take_ex (i:=7) 111 rfl rfl (by kernel_rfl) (by kernel_rfl) (by kernel_rfl) (fun _ _ _ _ h=>h) (by kernel_rfl) hH ?_
    apply Exists.intro;apply And.intro
    ·intro w9 _
     go_simp
     first | done | rfl
    simp only [sA,sB,sC];refine wpAnyH_take_ex (i:=8) 112 rfl rfl (by kernel_rfl) (by kernel_rfl) (by kernel_rfl) (fun _ _ _ _ h=>h) (by kernel_rfl) hH ?_
    apply Exists.intro;apply And.intro
    ·intro w9 _
     go_simp
     first | done | rfl
    simp only [sA,sB,sC];refine wpAnyH_take_ex (i:=9) 113 rfl rfl (by kernel_rfl) (by kernel_rfl) (by kernel_rfl) (fun _ _ _ _ h=>h) (by kernel_rfl) hH ?_
    apply Exists.intro;apply And.intro
    ·intro w9 _
     go_simp
     first | done | rfl
    simp only [sA,sB,sC];refine wpAnyH_take_at (i:=10) 114 (.agg pc) rfl rfl (by kernel_rfl) (by kernel_rfl) (by kernel_rfl) (fun _ _ _ h=>h) (yieldsIf_load_known (by kernel_rfl) 30 _ rfl (g) (o + i * 66 + 32) rfl (.agg pc) (fun x k=>HL2.out x k)) hH ?_
    simp only [sA,sB,sC];refine wpAnyH_take_ex (i:=11) 115 rfl rfl (by kernel_rfl) (by kernel_rfl) (by kernel_rfl) (fun _ _ _ _ h=>h) (by kernel_rfl) hH ?_
    apply Exists.intro;apply And.intro
    ·intro w9 _
     go_simp
     first | done | rfl
    simp only [sA,sB,sC];refine wpAnyH_take_ex (i:=12) 116 rfl rfl (by kernel_rfl) (by kernel_rfl) (by kernel_rfl) (fun _ _ _ _ h=>h) (by kernel_rfl) hH ?_
    apply Exists.intro;apply And.intro
    ·intro w9 _
     go_simp
     first | done | rfl
    simp only [sA,sB,sC];refine wpAnyH_take_ex (i:=13) 117 rfl rfl (by kernel_rfl) (by kernel_rfl) (by kernel_rfl) (fun _ _ _ _ h=>h) (by kernel_rfl) hH ?_
    apply Exists.intro;apply And.intro
    ·intro w9 _
     go_simp
     first | done | rfl
    simp only [sA,sB,sC];refine wpAnyH_take_ex (i:=14) 118 rfl rfl (by kernel_rfl) (by kernel_rfl) (by kernel_rfl) (fun _ _ _ _ h=>h) (by kernel_rfl) hH ?_
    apply Exists.intro;apply And.intro
    ·intro w9 _
     go_simp
     first | done | rfl
    simp only [sA,sB,sC];refine wpAnyH_take_at (i:=15) 119 (.int .i64 xd) rfl rfl (by kernel_rfl) (by kernel_rfl) (by kernel_rfl) (fun _ _ _ h=>h) (yieldsIf_load_known (by kernel_rfl) 3 _ rfl (g) (o + i * 66 + 64) rfl (.int .i64 xd) (fun x k=>HL3.out x k)) hH ?_
    simp only [sA,sB,sC];refine wpAnyH_take_ex (i:=16) 120 rfl rfl (by kernel_rfl) (by kernel_rfl) (by kernel_rfl) (fun _ _ _ _ h=>h) (by kernel_rfl) hH ?_
    apply Exists.intro;apply And.intro
    ·intro w9 _
     go_simp
     first | done | rfl
    simp only [sA,sB,sC];refine wpAnyH_take_ex (i:=17) 121 rfl rfl (by kernel_rfl) (by kernel_rfl) (by kernel_rfl) (fun _ _ _ _ h=>h) (by kernel_rfl) hH ?_
    apply Exists.intro;apply And.intro
    ·intro w9 _
     go_simp
     first | done | rfl
    simp only [sA,sB,sC];refine wpAnyH_take_ex (i:=18) 122 rfl rfl (by kernel_rfl) (by kernel_rfl) (by kernel_rfl) (fun _ _ _ _ h=>h) (by kernel_rfl) hH ?_
    apply Exists.intro;apply And.intro
    ·intro w9 _
     go_simp
     first | done | rfl
    simp only [sA,sB,sC];refine wpAnyH_take_ex (i:=19) 123 rfl rfl (by kernel_rfl) (by kernel_rfl) (by kernel_rfl) (fun _ _ _ _ h=>h) (by kernel_rfl) hH ?_
    apply Exists.intro;apply And.intro
    ·intro w9 _
     go_simp
     first | done | rfl
    simp only [sA,sB,sC];refine wpAnyH_take_at (i:=20) 124 (.int .i64 xt) rfl rfl (by kernel_rfl) (by kernel_rfl) (by kernel_rfl) (fun _ _ _ h=>h) (yieldsIf_load_known (by kernel_rfl) 3 _ rfl (g) (o + i * 66 + 65) rfl (.int .i64 xt) (fun x k=>HL4.out x k)) hH ?_
    simp only [sA,sB,sC];refine wpAnyH_take_at (i:=21) 125 (.agg VC) rfl rfl (by kernel_rfl) (by kernel_rfl) (by kernel_rfl) (fun _ _ _ h=>h) (yieldsIf_buildN15 (by kernel_rfl) 36 _ rfl #[(0,.agg ic),(1,.agg pc),(2,.int .i64 xd),(3,.int .i64 xt)] (by kernel_rfl) _ (fun w=>HBV.out w)) hH ?_
    simp only [sA,sB,sC];refine wpAnyH_ready (rs:=[22]) (by kernel_rfl) (by simp) ?_
    refine AllReadyH.cons rfl (fun K hK=>?_) AllReadyH.nil
    rw [if_pos (by rfl)]
    go_simp
    go_wp2_with (go_at_call 7; refine(HIN.out _ KD.out).mono ?_; rintro e w2 hI; have hdf:=hI.dfr15; obtain⟨sl,ea,na2,Fa2,A2,x2,Pa2,rfl,hI2,hS2⟩:=HO.out.insA KD.out HXO.out hI)
    have HA:=hid hI2;have HSA:=hid hS2;clear hI hI2 hS2;refine hK.out _ _ (Dfr.trans hH hdf (fun _ h=>.inl h)) (fun hH=>?_)
    clear hK K;refine wpAnyH_take_ex (i:=23) 103 rfl rfl (by kernel_rfl) (by kernel_rfl) (by kernel_rfl) (fun _ _ _ _ h=>h) (by kernel_rfl) hH ?_
    apply Exists.intro;apply And.intro
    ·intro w9 _
     go_simp
     first | done | rfl
    simp only [sA,sB,sC];refine wpAnyH_take_ex (i:=24) 127 rfl rfl (by kernel_rfl) (by kernel_rfl) (by kernel_rfl) (fun _ _ _ _ h=>h) (by kernel_rfl) hH ?_
    apply Exists.intro;apply And.intro
    ·intro w9 _
     go_simp
     first | done | rfl
    simp only [sA,sB,sC];refine wpAnyH_take_ex (i:=26) 18 rfl rfl (by kernel_rfl) (by kernel_rfl) (by kernel_rfl) (fun _ _ _ _ h=>h) (by kernel_rfl) hH ?_
    apply Exists.intro;apply And.intro
    ·intro w9 _
     go_simp
     first | done | rfl
    simp only [sA,sB,sC];refine wpAnyH_take_ex (i:=25) 128 rfl rfl (by kernel_rfl) (by kernel_rfl) (by kernel_rfl) (fun _ _ _ _ h=>h) (by kernel_rfl) hH ?_
    apply Exists.intro;apply And.intro
    ·intro w9 _
     go_simp
     first | done | rfl
    simp only [sA,sB,sC];refine wpAnyH_take_ex (i:=27) 19 rfl rfl (by kernel_rfl) (by kernel_rfl) (by kernel_rfl) (fun _ _ _ _ h=>h) (by kernel_rfl) hH ?_
    apply Exists.intro;apply And.intro
    ·intro w9 _
     go_simp
     first | done | rfl
    simp only [sA,sB,sC];refine wpAnyH_done (by kernel_rfl) ?_ _
    refine NoPanic.normal ?_;clear hH hdf;have hL1:∀ (u:World) (k:Dfr Fb w2 u),u.rangeAt mg (i * 66) Y.cells:=fun u k=>range_dfr15 (HYR.out _ HA.out.row) (lt_of_block HA.out.row) k (fun hf=>(HA.out.oldb mg hf).2.2.2 rfl)
    have HM1:=hid (fun(u:World) (k:Dfr Fb w2 u)=>load_hash15 HYO.out.1 (range_id15 (hL1 u k)))
    have HM2:=hid (fun(u:World) (k:Dfr Fb w2 u)=>load_hash15 HYO.out.2 (range_par15 HYO.out (hL1 u k)))
    have HM3:=hid (fun(u:World) (k:Dfr Fb w2 u)=>load_int15 (range_dep15 HYO.out (hL1 u k)))
    have HM4:=hid (fun(u:World) (k:Dfr Fb w2 u)=>load_int15 (range_dat15 HYO.out (hL1 u k)))
    have HCB:=hid (fun(u:World) (k:Dfr Fb w2 u)=>load_ptr15b (show Boxed u cb _ _ from(k.block cb HA.out.box.lt (fun hf=>(HA.out.oldb cb hf).2.2.1 rfl)).trans HA.out.box).cell)
    have HBW:=hid (fun u=>build_vx4 Y.id Y.par HYO.out.1 HYO.out.2 Y.dep Y.dat u)
    have HIM:=hid (fun(u:World) (k:Kept w2.heap.size w2.heap.size w2 u)=>insert15 u (HA.out.db.kept k) HA.out.stb Y HYO.out (by have h1:=HA.out.nlb; have h2:=HLE.out; have h3:=HLT.out; omega))
    have hYE:(⟨Y.id,Y.par,Y.dep,Y.dat⟩:Vx) = Y:=rfl;rw [hYE] at HBW;obtain⟨yd,hyd⟩:∃ z,z = Y.dep:=⟨_,rfl⟩;obtain⟨yt,hyt⟩:∃ z,z = Y.dat:=⟨_,rfl⟩;rw [← hyd] at HM3 HBW;rw [← hyt] at HM4 HBW;unfold Vx.val at HBW HIM;generalize (bcells Y.id).toArray = jc at HM1 HBW;generalize (bcells Y.par).toArray = qc at HM2 HBW;generalize Y.cells.toArray = WC at HBW HIM;clear hL1 hYE hyd hyt HO HL1 HL2 HL3 HL4 HBV HIN KD
    go_upto_region 18 with fail
    refine wp_region_noPanic ?_;refine wp_region_held_drew (S:=fun x=>Dfr Fb w2 x) (by kernel_rfl) (Dfr.of_kept (Kept.refl _ _ _).drew) (fun hH=>?_)
    have KD:=hid (show Kept w2.heap.size w2.heap.size w2 w2.drew from(Kept.refl _ _ _).drew);obtain⟨wd,hwd⟩:∃ x,x = w2.drew:=⟨_,rfl⟩;rw [← hwd] at hH KD ⊢;clear hwd;refine wpAnyH_take_at (i:=0) 130 (.pointer (some ⟨sb,0,none⟩)) rfl rfl (by kernel_rfl) (by kernel_rfl) (by kernel_rfl) (fun _ _ _ h=>h) (yieldsIf_load_known (by kernel_rfl) 25 _ rfl (cb) (0) rfl (.pointer (some ⟨sb,0,none⟩)) (fun x k=>HCB.out x k)) hH ?_
    simp only [sA,sB,sC];refine wpAnyH_take_ex (i:=1) 131 rfl rfl (by kernel_rfl) (by kernel_rfl) (by kernel_rfl) (fun _ _ _ _ h=>h) (by kernel_rfl) hH ?_
    apply Exists.intro;apply And.intro
    ·intro w9 _
     go_simp
     first | done | rfl
    simp only [sA,sB,sC];refine wpAnyH_take_ex (i:=2) 132 rfl rfl (by kernel_rfl) (by kernel_rfl) (by kernel_rfl) (fun _ _ _ _ h=>h) (by kernel_rfl) hH ?_
    apply Exists.intro;apply And.intro
    ·intro w9 _
     go_simp
     first | done | rfl
    simp only [sA,sB,sC];refine wpAnyH_take_ex (i:=3) 133 rfl rfl (by kernel_rfl) (by kernel_rfl) (by kernel_rfl) (fun _ _ _ _ h=>h) (by kernel_rfl) hH ?_
    apply Exists.intro;apply And.intro
    ·intro w9 _
     go_simp
     first | done | rfl
    simp only [sA,sB,sC];refine wpAnyH_take_ex (i:=4) 134 rfl rfl (by kernel_rfl) (by kernel_rfl) (by kernel_rfl) (fun _ _ _ _ h=>h) (by kernel_rfl) hH ?_
    apply Exists.intro;apply And.intro
    ·intro w9 _
     go_simp
     first | done | rfl
    simp only [sA,sB,sC];refine wpAnyH_take_at (i:=5) 135 (.agg jc) rfl rfl (by kernel_rfl) (by kernel_rfl) (by kernel_rfl) (fun _ _ _ h=>h) (yieldsIf_load_known (by kernel_rfl) 30 _ rfl (mg) (i * 66) rfl (.agg jc) (fun x k=>HM1.out x k)) hH ?_
    simp only [sA,sB,sC];refine wpAnyH_take_ex (i:=6) 136 rfl rfl (by kernel_rfl) (by kernel_rfl) (by kernel_rfl) (fun _ _ _ _ h=>h) (by kernel_rfl) hH ?_
    apply Exists.intro;apply And.intro
    ·intro w9 _
     go_simp
     first | done | rfl
    simp only [sA,sB,sC];refine wpAnyH_take_ex (i:=7) 137 rfl rfl (by kernel_rfl) (by kernel_rfl) (by kernel_rfl) (fun _ _ _ _ h=>h) (by kernel_rfl) hH ?_
    apply Exists.intro;apply And.intro
    ·intro w9 _
     go_simp
     first | done | rfl
    simp only [sA,sB,sC];refine wpAnyH_take_ex (i:=8) 138 rfl rfl (by kernel_rfl) (by kernel_rfl) (by kernel_rfl) (fun _ _ _ _ h=>h) (by kernel_rfl) hH ?_
    apply Exists.intro;apply And.intro
    ·intro w9 _
     go_simp
     first | done | rfl
    simp only [sA,sB,sC];refine wpAnyH_take_ex (i:=9) 139 rfl rfl (by kernel_rfl) (by kernel_rfl) (by kernel_rfl) (fun _ _ _ _ h=>h) (by kernel_rfl) hH ?_
    apply Exists.intro;apply And.intro
    ·intro w9 _
     go_simp
     first | done | rfl
    simp only [sA,sB,sC];refine wpAnyH_take_at (i:=10) 140 (.agg qc) rfl rfl (by kernel_rfl) (by kernel_rfl) (by kernel_rfl) (fun _ _ _ h=>h) (yieldsIf_load_known (by kernel_rfl) 30 _ rfl (mg) (i * 66 + 32) rfl (.agg qc) (fun x k=>HM2.out x k)) hH ?_
    simp only [sA,sB,sC];refine wpAnyH_take_ex (i:=11) 141 rfl rfl (by kernel_rfl) (by kernel_rfl) (by kernel_rfl) (fun _ _ _ _ h=>h) (by kernel_rfl) hH ?_
    apply Exists.intro;apply And.intro
    ·intro w9 _
     go_simp
     first | done | rfl
    simp only [sA,sB,sC];refine wpAnyH_take_ex (i:=12) 142 rfl rfl (by kernel_rfl) (by kernel_rfl) (by kernel_rfl) (fun _ _ _ _ h=>h) (by kernel_rfl) hH ?_
    apply Exists.intro;apply And.intro
    ·intro w9 _
     go_simp
     first | done | rfl
    simp only [sA,sB,sC];refine wpAnyH_take_ex (i:=13) 143 rfl rfl (by kernel_rfl) (by kernel_rfl) (by kernel_rfl) (fun _ _ _ _ h=>h) (by kernel_rfl) hH ?_
    apply Exists.intro;apply And.intro
    ·intro w9 _
     go_simp
     first | done | rfl
    simp only [sA,sB,sC];refine wpAnyH_take_ex (i:=14) 144 rfl rfl (by kernel_rfl) (by kernel_rfl) (by kernel_rfl) (fun _ _ _ _ h=>h) (by kernel_rfl) hH ?_
    apply Exists.intro;apply And.intro
    ·intro w9 _
     go_simp
     first | done | rfl
    simp only [sA,sB,sC];refine wpAnyH_take_at (i:=15) 145 (.int .i64 yd) rfl rfl (by kernel_rfl) (by kernel_rfl) (by kernel_rfl) (fun _ _ _ h=>h) (yieldsIf_load_known (by kernel_rfl) 3 _ rfl (mg) (i * 66 + 64) rfl (.int .i64 yd) (fun x k=>HM3.out x k)) hH ?_
    simp only [sA,sB,sC];refine wpAnyH_take_ex (i:=16) 146 rfl rfl (by kernel_rfl) (by kernel_rfl) (by kernel_rfl) (fun _ _ _ _ h=>h) (by kernel_rfl) hH ?_
    apply Exists.intro;apply And.intro
    ·intro w9 _
     go_simp
     first | done | rfl
    simp only [sA,sB,sC];refine wpAnyH_take_ex (i:=17) 147 rfl rfl (by kernel_rfl) (by kernel_rfl) (by kernel_rfl) (fun _ _ _ _ h=>h) (by kernel_rfl) hH ?_
    apply Exists.intro;apply And.intro
    ·intro w9 _
     go_simp
     first | done | rfl
    simp only [sA,sB,sC];refine wpAnyH_take_ex (i:=18) 148 rfl rfl (by kernel_rfl) (by kernel_rfl) (by kernel_rfl) (fun _ _ _ _ h=>h) (by kernel_rfl) hH ?_
    apply Exists.intro;apply And.intro
    ·intro w9 _
     go_simp
     first | done | rfl
    simp only [sA,sB,sC];refine wpAnyH_take_ex (i:=19) 149 rfl rfl (by kernel_rfl) (by kernel_rfl) (by kernel_rfl) (fun _ _ _ _ h=>h) (by kernel_rfl) hH ?_
    apply Exists.intro;apply And.intro
    ·intro w9 _
     go_simp
     first | done | rfl
    simp only [sA,sB,sC];refine wpAnyH_take_at (i:=20) 150 (.int .i64 yt) rfl rfl (by kernel_rfl) (by kernel_rfl) (by kernel_rfl) (fun _ _ _ h=>h) (yieldsIf_load_known (by kernel_rfl) 3 _ rfl (mg) (i * 66 + 65) rfl (.int .i64 yt) (fun x k=>HM4.out x k)) hH ?_
    simp only [sA,sB,sC];refine wpAnyH_take_at (i:=21) 151 (.agg WC) rfl rfl (by kernel_rfl) (by kernel_rfl) (by kernel_rfl) (fun _ _ _ h=>h) (yieldsIf_buildN15 (by kernel_rfl) 36 _ rfl #[(0,.agg jc),(1,.agg qc),(2,.int .i64 yd),(3,.int .i64 yt)] (by kernel_rfl) _ (fun w=>HBW.out w)) hH ?_
    simp only [sA,sB,sC];refine wpAnyH_ready (rs:=[22]) (by kernel_rfl) (by simp) ?_
    refine AllReadyH.cons rfl (fun K hK=>?_) AllReadyH.nil
    rw [if_pos (by rfl)]
    go_simp
    go_wp2_with (go_at_call 7; refine(HIM.out _ KD.out).mono ?_; rintro e w3 hI; have hdf:=hI.dfr15; obtain⟨sl,eb,nb2,Fb2,B2,y2,Pb2,rfl,hI2,hS2⟩:=HA.out.insB KD.out HYO.out hI)
    have HB:=hid hI2;have HSB:=hid hS2;clear hI hI2 hS2;refine hK.out _ _ (Dfr.trans hH hdf (fun _ h=>.inl h)) (fun hH=>?_)
    clear hK K;refine wpAnyH_take_ex (i:=23) 129 rfl rfl (by kernel_rfl) (by kernel_rfl) (by kernel_rfl) (fun _ _ _ _ h=>h) (by kernel_rfl) hH ?_
    apply Exists.intro;apply And.intro
    ·intro w9 _
     go_simp
     first | done | rfl
    simp only [sA,sB,sC];refine wpAnyH_take_ex (i:=24) 153 rfl rfl (by kernel_rfl) (by kernel_rfl) (by kernel_rfl) (fun _ _ _ _ h=>h) (by kernel_rfl) hH ?_
    apply Exists.intro;apply And.intro
    ·intro w9 _
     go_simp
     first | done | rfl
    simp only [sA,sB,sC];refine wpAnyH_take_ex (i:=26) 20 rfl rfl (by kernel_rfl) (by kernel_rfl) (by kernel_rfl) (fun _ _ _ _ h=>h) (by kernel_rfl) hH ?_
    apply Exists.intro;apply And.intro
    ·intro w9 _
     go_simp
     first | done | rfl
    simp only [sA,sB,sC];refine wpAnyH_take_ex (i:=25) 154 rfl rfl (by kernel_rfl) (by kernel_rfl) (by kernel_rfl) (fun _ _ _ _ h=>h) (by kernel_rfl) hH ?_
    apply Exists.intro;apply And.intro
    ·intro w9 _
     go_simp
     first | done | rfl
    simp only [sA,sB,sC];refine wpAnyH_take_ex (i:=27) 21 rfl rfl (by kernel_rfl) (by kernel_rfl) (by kernel_rfl) (fun _ _ _ _ h=>h) (by kernel_rfl) hH ?_
    apply Exists.intro;apply And.intro
    ·intro w9 _
     go_simp
     first | done | rfl
    simp only [sA,sB,sC];refine wpAnyH_done (by kernel_rfl) ?_ _
    refine NoPanic.normal ?_;clear hH hdf;have HRA2:=hid (fun(h:ea = 0)=>(by rw [HTX.out]; exact HSA.out h _ HRA.out:Dg.Reach kp (M.take (i + 1)) A2 x2))
    have HRB2:=hid (fun(h:eb = 0)=>(by rw [HTY.out]; exact HSB.out h _ HRB.out:Dg.Reach kp (R.take (i + 1)) B2 y2))
    clear HA HM1 HM2 HM3 HM4 HCB HBW HIM HSA HSB HRA HRB HYR HTX HTY HXO HYO KD
    go_upto_region 19 with fail
    by_cases hea:ea = 0
    ·by_cases heb:eb = 0
     ·have HR1:=hid (HRA2.out hea)
      have HR2:=hid (HRB2.out heb);subst hea heb;clear HRA2 HRB2;refine wp_region_lit ?_;iterate 6 (refine @wQ _ _ _ _ _ _ _ ?_ ?_;kernel_rfl;intro K hK;go_simp;refine hK _ _ ?_;clear hK K)
      go_wp2_with fail
      go_roundw
      case rel=>exact⟨i + 1,na2,nb2,Fa2,Fb2,A2,B2,x2,y2,Pa2,Pb2,rfl,HLT.out,HB,HR1,HR2⟩
      case measure=>
       have:=HLT.out;simp [RowKit.intOf]
       omega
     ·subst hea
      have HE2:=hid (show(eb != 0) = true by simpa using heb)
      clear HRA2 HRB2;refine wp_region_lit ?_;iterate 4 (refine @wQ _ _ _ _ _ _ _ ?_ ?_;kernel_rfl;intro K hK;go_simp;refine hK _ _ ?_;clear hK K)
      refine @wQ _ _ _ _ _ _ _ ?_ ?_;kernel_rfl;intro K hK;go_simp;rw [HE2.out];refine hK _ _ ?_;clear hK K;refine @wQ _ _ _ _ _ _ _ ?_ ?_;kernel_rfl;intro K hK;go_simp;refine hK _ _ ?_;clear hK K;have hbc:=HB.out.res.cell;have hbf:=HB.out.res.frozen;have hk4:=HB.out.kp.setCell15 (a:=⟨rb,0,none⟩) HB.out.new (.bool true);have hb4:=HB.out.res.set (.bool true)
      go_wp2_with fail
      exact leaves_marks15 (w0:=w) (rb:=rb) (fun w hb=>results_cell1_15 rfl _ _ hb rfl rfl rfl) (fun w' hk=>⟨rfl,hk⟩) [] _ hb4 (fun d hd=>nomatch hd) List.nodup_nil hk4
    ·have HE1:=hid (show(ea != 0) = true by simpa using hea)
     clear HRA2 HRB2;refine wp_region_lit ?_;refine @wQ _ _ _ _ _ _ _ ?_ ?_;kernel_rfl;intro K hK;go_simp;refine hK _ _ ?_;clear hK K;refine @wQ _ _ _ _ _ _ _ ?_ ?_;kernel_rfl;intro K hK;go_simp;rw [HE1.out];refine hK _ _ ?_;clear hK K;refine @wQ _ _ _ _ _ _ _ ?_ ?_;kernel_rfl;intro K hK;go_simp;refine hK _ _ ?_;clear hK K;refine @wpList_skip _ _ _ _ _ _ _ ?_ ?_;kernel_rfl;simp only [Act.put,sA,sB,sC];refine @wpList_skip _ _ _ _ _ _ _ ?_ ?_;kernel_rfl;simp only [Act.put,sA,sB,sC];refine @wQ _ _ _ _ _ _ _ ?_ ?_;kernel_rfl;intro K hK;go_simp;refine hK _ _ ?_;clear hK K;have hbc:=HB.out.res.cell;have hbf:=HB.out.res.frozen;have hk4:=HB.out.kp.setCell15 (a:=⟨rb,0,none⟩) HB.out.new (.bool true);have hb4:=HB.out.res.set (.bool true)
     go_wp2_with fail
     exact leaves_marks15 (w0:=w) (rb:=rb) (fun w hb=>results_cell1_15 rfl _ _ hb rfl rfl rfl) (fun w' hk=>⟨rfl,hk⟩) [] _ hb4 (fun d hd=>nomatch hd) List.nodup_nil hk4
   ·have hki:¬ (i:Int) < (ln:Int):=by omega
    have hin:i = ln:=by omega
    have hM1:M.take i = M:=by rw [hin,HLN.out,List.take_length]
    have hR1:R.take i = R:=by rw [hin,← HRL.out,List.take_length]
    have hra:=HRA.out;have hrb:=HRB.out;rw [hM1] at hra;rw [hR1] at hrb;obtain⟨hxy,hmem,hlen⟩:=hra.same hrb (fun u=>HPM.out.mem_iff.symm)
    subst hxy;have HST:=hid hra.st;have HMM:=hid hmem;have HLL:=hid hlen;clear hra hrb hM1 hR1 hin HRA HRB hmem hlen HEL HOK HVA HRO HRL HPM HLN HLE hil;have HHA:=hid (fun(u:World) (k:Kept wr.heap.size wr.heap.size wr u)=>head15 u (HO.out.da.kept k))
    have HHB:=hid (fun(u:World) (k:Kept wr.heap.size wr.heap.size wr u)=>head15 u (HO.out.db.kept k))
    have HNA:=hid (fun(u:World) (k:Kept wr.heap.size wr.heap.size wr u)=>len15 u (HO.out.da.kept k))
    have HNB:=hid (fun(u:World) (k:Kept wr.heap.size wr.heap.size wr u)=>len15 u (HO.out.db.kept k))
    have HCP:=hid (fun(u:World) (k:Kept wr.heap.size wr.heap.size wr u)=>load_ptr15b (show Boxed u cb _ _ from row_kept HO.out.box k).cell)
    rw [← HLL.out] at HNB;obtain⟨nl,hnl⟩:∃ z:Int,z = (A.length:Nat):=⟨_,rfl⟩;rw [← hnl] at HNA HNB;have htok:(x.getD Vx.zero).Ok:=head_ok15 HO.out.da.st0;obtain⟨tv,htv⟩:∃ z,z = x.getD Vx.zero:=⟨_,rfl⟩;obtain⟨ob,hob⟩:∃ z,z = x.isSome:=⟨_,rfl⟩;unfold head2 at HHA HHB;rw [← htv,← hob] at HHA HHB;rw [← htv] at htok;unfold Vx.val at HHA HHB;have HCI:=hid (vxSize15 htok);have HCS:=hid (show tv.cells.toArray.size = 66 by rw [List.size_toArray,Vx.cells_length htok])
    have HCA:=hid (Vx.cells_all tv);have HEQ:=hid (fun u=>vx_equalIn15 u tv htok)
    have HLV:=hid (show ∀ (u:World) (b:Nat),u.heap[b]? = some (.cells tv.cells.toArray 36 (0,0))→(loadVar 36 ⟨b,0,none⟩).run Try.prog u = .ok (.agg tv.cells.toArray) u from fun u b h=>(show Vb u b tv from h).all htok)
    generalize tv.cells.toArray = CC at HHA HHB HCI HCS HCA HEQ HLV;obtain⟨ZC,hZC⟩:∃ x,x = Vx.zero.cells.toArray:=⟨_,rfl⟩;have HZE:=hid hZC.symm;have HZS:=hid (show ZC.size = 66 by rw [hZC,List.size_toArray,Vx.cells_length Vx.zero_ok])
    clear hZC htok htv hob hnl
    go_upto_region 21 with fail
    refine wp_region_lit ?_;refine @wQ _ _ _ _ _ _ _ ?_ ?_;kernel_rfl;intro K hK;go_simp;refine hK _ _ ?_;clear hK K;refine @wQ _ _ _ _ _ _ _ ?_ ?_;kernel_rfl;intro K hK;go_simp;go_at_call 8
    refine(HHA.out _ (Kept.refl _ _ _)).mono ?_;rintro e w3 ⟨rfl,kx⟩;have K3:=hid kx;clear kx;refine hK _ _ ?_;clear hK K;iterate 3 (refine @wQ _ _ _ _ _ _ _ ?_ ?_;kernel_rfl;intro K hK;go_simp;refine hK _ _ ?_;clear hK K)
    refine @wpL_alloc _ _ _ _ _ _ _ _ ?_ 36 rfl _ (alloc_vx15 _) ?_;kernel_rfl
    simp only [Act.put,sA,sB,sC];rw [HZE.out];refine wpList_store_row rfl 36 _ _ rfl (w3.heap.size) CC rfl rfl 36 ZC (heap_new _ _) (HCI.out) (by rw [HCS.out,HZS.out]) (HCA.out) ?_
    simp only [Act.put];rw [World.setRow_alloc_new];refine @wQ _ _ _ _ _ _ _ ?_ ?_;kernel_rfl;intro K hK;go_simp;refine hK _ _ ?_;clear hK K;have k4:Kept w3.heap.size w3.heap.size w3 (w3.alloc (.cells CC 36)):=(Kept.refl _ _ _).alloc (Nat.le_refl _) _
    have t4:=heap_new w3 (.cells CC 36)
    have K4:=hid (K3.out.onto k4);generalize w3.alloc (.cells CC 36) = w4 at K4 t4 ⊢
    generalize w3.heap.size = ha at t4 ⊢;have T4:=hid t4;clear k4 t4 K3
    go_upto_region 22 with fail
    refine wp_region_lit ?_;refine @wpList_load_known _ _ _ _ _ _ _ ?_ 25 (.tmp 10) rfl (cb) (0) rfl (.pointer (some ⟨sb,0,none⟩)) (HCP.out _ K4.out) ?_;kernel_rfl
    simp only [Act.put,sA,sB,sC];refine @wQ _ _ _ _ _ _ _ ?_ ?_;kernel_rfl;intro K hK;go_simp;go_at_call 8
    refine(HHB.out _ K4.out).mono ?_;rintro e w5 ⟨rfl,kx⟩;have K5:=hid (K4.out.onto kx);have T5:=hid (row_kept T4.out kx);clear kx;refine hK _ _ ?_;clear hK K;iterate 3 (refine @wQ _ _ _ _ _ _ _ ?_ ?_;kernel_rfl;intro K hK;go_simp;refine hK _ _ ?_;clear hK K)
    refine @wpL_alloc _ _ _ _ _ _ _ _ ?_ 36 rfl _ (alloc_vx15 _) ?_;kernel_rfl
    simp only [Act.put,sA,sB,sC];rw [HZE.out];refine wpList_store_row rfl 36 _ _ rfl (w5.heap.size) CC rfl rfl 36 ZC (heap_new _ _) (HCI.out) (by rw [HCS.out,HZS.out]) (HCA.out) ?_
    simp only [Act.put];rw [World.setRow_alloc_new];refine @wQ _ _ _ _ _ _ _ ?_ ?_;kernel_rfl;intro K hK;go_simp;refine hK _ _ ?_;clear hK K;have k6:Kept w5.heap.size w5.heap.size w5 (w5.alloc (.cells CC 36)):=(Kept.refl _ _ _).alloc (Nat.le_refl _) _
    have t6:=heap_new w5 (.cells CC 36)
    have K6:=hid (K5.out.onto k6);have T6a:=hid (row_kept T5.out k6);generalize w5.alloc (.cells CC 36) = w6 at K6 T6a t6 ⊢
    generalize w5.heap.size = hb at t6 ⊢;have T6:=hid t6;clear k6 t6 K5 T5 T4 K4;have HC6:=hid (fun(u:World) (k:Kept w6.heap.size w6.heap.size w6 u)=>HCP.out u (K6.out.onto k))
    have HV6:=hid (fun(u:World) (k:Kept w6.heap.size w6.heap.size w6 u)=>HLV.out u ha (row_kept T6a.out k))
    have HU6:=hid (fun(u:World) (k:Kept w6.heap.size w6.heap.size w6 u)=>HLV.out u hb (row_kept T6.out k))
    have HA6:=hid (fun(u:World) (k:Kept w6.heap.size w6.heap.size w6 u)=>HNA.out u (K6.out.onto k))
    have HB6:=hid (fun(u:World) (k:Kept w6.heap.size w6.heap.size w6 u)=>HNB.out u (K6.out.onto k))
    go_upto_region 23 with fail
    refine wp_region_noPanic ?_;refine wp_region_held_drew (S:=fun w'=>Kept w6.heap.size w6.heap.size w6 w') (by kernel_rfl) ((Kept.refl _ _ _).drew) (fun hH=>?_)
    obtain⟨w7,hw7⟩:∃ x,x = w6.drew:=⟨_,rfl⟩;rw [← hw7] at hH ⊢;clear hw7;refine wpAnyH_take_at (i:=0) 171 (.agg CC) rfl rfl (by kernel_rfl) (by kernel_rfl) (by kernel_rfl) (fun _ _ _ h=>h) (yieldsIf_load_known (by kernel_rfl) 36 _ rfl (ha) (0) rfl (.agg CC) (fun x k=>HV6.out x k)) hH ?_
    simp only [sA,sB,sC];refine wpAnyH_take_at (i:=1) 172 (.agg CC) rfl rfl (by kernel_rfl) (by kernel_rfl) (by kernel_rfl) (fun _ _ _ h=>h) (yieldsIf_load_known (by kernel_rfl) 36 _ rfl (hb) (0) rfl (.agg CC) (fun x k=>HU6.out x k)) hH ?_
    simp only [sA,sB,sC];refine wpAnyH_take_at (i:=2) 173 (.bool false) rfl rfl (by kernel_rfl) (by kernel_rfl) (by kernel_rfl) (fun _ _ _ h=>h) (yieldsIf_neq15 (by kernel_rfl) 36 36 _ _ rfl CC CC rfl rfl vxGuard15 HEQ.out) hH ?_
    simp only [sA,sB,sC];refine wpAnyH_take_ex (i:=3) 174 rfl rfl (by kernel_rfl) (by kernel_rfl) (by kernel_rfl) (fun _ _ _ _ h=>h) (by kernel_rfl) hH ?_
    apply Exists.intro;apply And.intro
    ·intro w9 _
     go_simp
     first | done | rfl
    simp only [sA,sB,sC];refine wpAnyH_take_ex (i:=4) 175 rfl rfl (by kernel_rfl) (by kernel_rfl) (by kernel_rfl) (fun _ _ _ _ h=>h) (by kernel_rfl) hH ?_
    apply Exists.intro;apply And.intro
    ·intro w9 _
     go_simp
     first | done | rfl
    simp only [sA,sB,sC];refine wpAnyH_take_ex (i:=5) 176 rfl rfl (by kernel_rfl) (by kernel_rfl) (by kernel_rfl) (fun _ _ _ _ h=>h) (by kernel_rfl) hH ?_
    apply Exists.intro;apply And.intro
    ·intro w9 _
     go_simp
     first | done | rfl
    simp only [sA,sB,sC];refine wpAnyH_take_ex (i:=6) 177 rfl rfl (by kernel_rfl) (by kernel_rfl) (by kernel_rfl) (fun _ _ _ _ h=>h) (by kernel_rfl) hH ?_
    apply Exists.intro;apply And.intro
    ·intro w9 _
     go_simp
     first | done | rfl
    simp only [sA,sB,sC];refine wpAnyH_take_ex (i:=7) 178 rfl rfl (by kernel_rfl) (by kernel_rfl) (by kernel_rfl) (fun _ _ _ _ h=>h) (by kernel_rfl) hH ?_
    apply Exists.intro;apply And.intro
    ·intro w9 _
     go_simp
     first | done | rfl
    simp only [sA,sB,sC];refine wpAnyH_take_ex (i:=8) 179 rfl rfl (by kernel_rfl) (by kernel_rfl) (by kernel_rfl) (fun _ _ _ _ h=>h) (by kernel_rfl) hH ?_
    apply Exists.intro;apply And.intro
    ·intro w9 _
     go_simp
     first | done | rfl
    simp only [sA,sB,sC];refine wpAnyH_take_ex (i:=9) 180 rfl rfl (by kernel_rfl) (by kernel_rfl) (by kernel_rfl) (fun _ _ _ _ h=>h) (by kernel_rfl) hH ?_
    apply Exists.intro;apply And.intro
    ·intro w9 _
     go_simp
     first | done | rfl
    simp only [sA,sB,sC];refine wpAnyH_take_at (i:=11) 182 (.pointer (some ⟨sb,0,none⟩)) rfl rfl (by kernel_rfl) (by kernel_rfl) (by kernel_rfl) (fun _ _ _ h=>h) (yieldsIf_load_known (by kernel_rfl) 25 _ rfl (cb) (0) rfl (.pointer (some ⟨sb,0,none⟩)) (fun x k=>HC6.out x k)) hH ?_
    simp only [sA,sB,sC];refine wpAnyH_ready (rs:=[10]) (by kernel_rfl) (by simp) ?_
    refine AllReadyH.cons rfl (fun K hK=>?_) AllReadyH.nil
    rw [if_pos (by rfl)]
    go_simp
    go_wp2_with (go_at_call 9; refine(HA6.out _ hH).mono ?_; rintro e w6b ⟨rfl,hwq⟩; obtain rfl:=hwq.symm)
    refine hK.out _ _ hH (fun hH=>?_)
    clear hK K;refine wpAnyH_ready (rs:=[12]) (by kernel_rfl) (by simp) ?_
    refine AllReadyH.cons rfl (fun K hK=>?_) AllReadyH.nil
    rw [if_pos (by rfl)]
    go_simp
    go_wp2_with (go_at_call 9; refine(HB6.out _ hH).mono ?_; rintro e w6c ⟨rfl,hwq⟩; obtain rfl:=hwq.symm)
    refine hK.out _ _ hH (fun hH=>?_)
    clear hK K;refine wpAnyH_take_ex (i:=13) 184 rfl rfl (by kernel_rfl) (by kernel_rfl) (by kernel_rfl) (fun _ _ _ _ h=>h) (by kernel_rfl) hH ?_
    apply Exists.intro;apply And.intro
    ·intro w9 _
     go_simp
     first | done | rfl
    simp only [sA,sB,sC];refine wpAnyH_take_ex (i:=14) 185 rfl rfl (by kernel_rfl) (by kernel_rfl) (by kernel_rfl) (fun _ _ _ _ h=>h) (by kernel_rfl) hH ?_
    apply Exists.intro;apply And.intro
    ·intro w9 _
     go_simp
     first | done | rfl
    simp only [sA,sB,sC];refine wpAnyH_done (by kernel_rfl) ?_ _
    refine NoPanic.normal ?_
    go_upto_region 25 with fail
    refine wp_region_lit ?_;refine @wQ _ _ _ _ _ _ _ ?_ ?_;kernel_rfl;intro K hK;go_simp;refine hK _ _ ?_;clear hK K;refine @wQ _ _ _ _ _ _ _ ?_ ?_;kernel_rfl;intro K hK;go_simp;go_at_call 10
    refine(all15 sa _).mono ?_;rintro e w9 ⟨rfl,rfl⟩;refine hK _ _ ?_;clear hK K
    go_wp2_with fail
    refine wp_letters15b ?_;intro z0 z1 z2 z3 z4 z5 z7 z9 z11 z12 z13 z14 z15 z16 z17 z18 z19 z20 z21 z22 z23 z24 z25 z26 z27 z28 z29 z30 z31 z32 z33 z34 z35 z36 z37 z38 z39 z40 z41 z42 z43 z44 z45 z46 z47 z48 z49 z50 z51 z52 z53 z54 z55 z56 z57 z58 z59 z60 z61 z62 z63 z64 z65 z66 z67 z68 z69 z70 z71 z72 z73 z74 z75 z76 z77 z78 z79 z80 z81 z82 z83 z84 z85 z86 z87 z88 z89 z90 z91 z92 z93 z94 z95 z96 z97 z98 z99 z100 z101 z102 z103 z104 z105 z106 z107 z108 z109 z110 z111 z112 z113 z114 z115 z116 z117 z118 z119 z120 z121 z122 z123 z124 z125 z126 z127 z128 z129 z130 z131 z132 z133 z134 z135 z136 z137 z138 z139 z140 z141 z142 z143 z144 z145 z146 z147 z148 z149 z150 z151 z152 z153 z154 z155 z156 z157 z158 z159 z160 z161 z162 z163 z164 z165 z166 z167 z168 z169 z170 z171 z172 z173 z174 z175 z176 z177 z178 z179 z180 z181 z182 z183 z184 z185 z186 z188 z189 z190 z191 z192 z193 z194 z195 z196 z197 z198 z199 z200 z201 z202;have HO7:=hid (HO.out.kept (K6.out.onto hH));clear HC6 HV6 HU6 HA6 HB6 T6 T6a HHA HHB HNA HNB HCP HLV HEQ HCI HCS HCA HZE HZS HO;have b5:Boxed (w7.alloc (.cells #[.pointer (some ⟨sa,0,none⟩)] 25)) w7.heap.size 25 (.pointer (some ⟨sa,0,none⟩)):=heap_new w7 _
    have k5:Kept w7.heap.size w7.heap.size w7 (w7.alloc (.cells #[.pointer (some ⟨sa,0,none⟩)] 25)):=(Kept.refl _ _ _).alloc (Nat.le_refl _) _
    have HI5:=hid (HO7.out.kept k5);generalize w7.alloc (.cells #[.pointer (some ⟨sa,0,none⟩)] 25) = w8 at HI5 b5 ⊢
    generalize w7.heap.size = ab at b5 ⊢;clear k5 HO7 hH K6;refine(wpIn_wide (n:=3)).1 ?_
    refine wpIn_rangeFunc_ownH rfl (by omega) (gf:=18) (lb:=#[.pointer (some ⟨ab,0,none⟩)]) rfl trivial (enters_of Try.func18 (by kernel_rfl) rfl)
     (all_members15 2 (by omega) ab w8 b5.lt b5.cell HI5.out.da) (fun h k=>KC.t h k) KC.b (Below.refl _ _) (fun _=>rfl)
     (fun(pre:List {v:Vx // v.Ok∧v∈A}) W=>Below w8.heap.size w8 W)
     (fun _ pre _=>False)
     (ownFrom_below (Nat.le_refl _) (Nat.le_refl _))
     (fun _=>ownFrom_pure _ _)
     (Below.refl _ _)
     (fun x a' W=>∃ Bx,w8.heap.size≤Bx∧Vb W Bx x.1∧a' = { tmps:=#[z0,z1,z2,z3,z4,z5,.pointer (some ⟨rb,0,none⟩),z7,.pointer (some ⟨sa,0,none⟩),z9,.pointer (some ⟨cb,0,none⟩),z11,z12,z13,z14,z15,z16,z17,z18,z19,z20,z21,z22,z23,z24,z25,.pointer (some ⟨Bx,0,none⟩),z27,z28,z29,z30,z31,z32,z33,z34,z35,z36,z37,z38,z39,z40,z41,z42,z43,z44,z45,z46,z47,z48,z49,z50,z51,z52,z53,z54,z55,z56,z57,z58,z59,z60,z61,z62,z63,z64,z65,z66,z67,z68,z69,z70,z71,z72,z73,z74,z75,z76,z77,z78,z79,z80,z81,z82,z83,z84,z85,z86,z87,z88,z89,z90,z91,z92,z93,z94,z95,z96,z97,z98,z99,z100,z101,z102,z103,z104,z105,z106,z107,z108,z109,z110,z111,z112,z113,z114,z115,z116,z117,z118,z119,z120,z121,z122,z123,z124,z125,z126,z127,z128,z129,z130,z131,z132,z133,z134,z135,z136,z137,z138,z139,z140,z141,z142,z143,z144,z145,z146,z147,z148,z149,z150,z151,z152,z153,z154,z155,z156,z157,z158,z159,z160,z161,z162,z163,z164,z165,z166,z167,z168,z169,z170,z171,z172,z173,z174,z175,z176,z177,z178,z179,z180,z181,z182,z183,z184,z185,z186,.func (.func 18) #[] #[.pointer (some ⟨ab,0,none⟩)],.agg x.1.cells.toArray,z189,z190,z191,z192,z193,z194,z195,z196,z197,z198,z199,z200,z201,z202],defers:=[] })
     (fun x a' s A B row hs hg hr=>by obtain⟨Bx,h1,h2,h3⟩:=hs; exact⟨Bx,h1,h2.own15 hg (fun r e=>(hr r e).2),h3⟩)
     ?assign ?body ?done ?stop
    case assign=>
     rintro l pre x W K hB hK;have hst:=store_vx15 W x.1 x.2.1;have hal:=alloc_vx15 W
     have hfin:K { tmps:=#[z0,z1,z2,z3,z4,z5,.pointer (some ⟨rb,0,none⟩),z7,.pointer (some ⟨sa,0,none⟩),z9,.pointer (some ⟨cb,0,none⟩),z11,z12,z13,z14,z15,z16,z17,z18,z19,z20,z21,z22,z23,z24,z25,.pointer (some ⟨W.heap.size,0,none⟩),z27,z28,z29,z30,z31,z32,z33,z34,z35,z36,z37,z38,z39,z40,z41,z42,z43,z44,z45,z46,z47,z48,z49,z50,z51,z52,z53,z54,z55,z56,z57,z58,z59,z60,z61,z62,z63,z64,z65,z66,z67,z68,z69,z70,z71,z72,z73,z74,z75,z76,z77,z78,z79,z80,z81,z82,z83,z84,z85,z86,z87,z88,z89,z90,z91,z92,z93,z94,z95,z96,z97,z98,z99,z100,z101,z102,z103,z104,z105,z106,z107,z108,z109,z110,z111,z112,z113,z114,z115,z116,z117,z118,z119,z120,z121,z122,z123,z124,z125,z126,z127,z128,z129,z130,z131,z132,z133,z134,z135,z136,z137,z138,z139,z140,z141,z142,z143,z144,z145,z146,z147,z148,z149,z150,z151,z152,z153,z154,z155,z156,z157,z158,z159,z160,z161,z162,z163,z164,z165,z166,z167,z168,z169,z170,z171,z172,z173,z174,z175,z176,z177,z178,z179,z180,z181,z182,z183,z184,z185,z186,.func (.func 18) #[] #[.pointer (some ⟨ab,0,none⟩)],.agg x.1.cells.toArray,z189,z190,z191,z192,z193,z194,z195,z196,z197,z198,z199,z200,z201,z202],defers:=[] } (W.alloc (.cells x.1.cells.toArray 36)):=
      hK _ _ ((KeepsOthers.alloc _ _).from _) (KC.alloc _ _) (hB.trans ((Below.refl w8.heap.size W).alloc hB.size _)) ⟨W.heap.size,hB.size,Vb.new W x.1,rfl⟩
     unfold Vx.val;generalize x.1.cells.toArray = CC at hst hfin ⊢;generalize Vx.zero.cells.toArray = ZC at hst hal;clear hK hB
     gi_wp2_with (first
      | (refine inL_alloc rfl 36 rfl hal ?_; simp [Act.put])
      | (refine inL_store rfl 36 _ _ rfl rfl W.heap.size 0 rfl (.agg CC) rfl hst ?_)
      | gi_in)
     exact hfin
    case body=>
     rintro l pre x a' W hl ⟨r,hr⟩ hB ⟨Bx,hBx,bX,rfl⟩ hlen;have kW:Kept w8.heap.size w8.heap.size w8 W:=Kept.ofBelow hB (Nat.le_refl _);have HBE:=hid hB;have HIW:=hid (HI5.out.kept kW);have hcb:=load_ptr15b (show Boxed W cb _ _ from HIW.out.box).cell;have hld:=bX.lid x.2.1;have hgt:=getd15 W HIW.out.db HI5.out.stb (HMM.out x.1 |>.1 x.2.2) x.2.1
     have HBX:=hid (fun(u:World) (k:Kept W.heap.size W.heap.size W u)=>(bX.kept k).all x.2.1)
     have hal:=fun u=>alloc_vx15 u
     have hci:=vxSize15 x.2.1;have hcz:x.1.cells.toArray.size = Vx.zero.cells.toArray.size:=by rw [List.size_toArray,List.size_toArray,Vx.cells_length x.2.1,Vx.cells_length Vx.zero_ok]
     have hca:=Vx.cells_all x.1;have hnw:=fun(u:World)=>(Vb.new u x.1).all x.2.1
     have heq:=fun u=>vx_equalIn15 u x.1 x.2.1
     unfold Vx.val at hgt HBX hnw;generalize x.1.cells.toArray = CC at hgt HBX hnw hci hcz hca heq;generalize (bcells x.1.id).toArray = ic at hgt hld;generalize Vx.zero.cells.toArray = ZC at hal hcz;clear kW hB bX hlen;refine wpIn_block ?_;refine wpIn_seq ?_;refine region_round_lit15 (by kernel_rfl) ?_
     refine @wpList_load_known _ _ _ _ _ _ _ ?_ 25 (.tmp 10) rfl (cb) (0) rfl (.pointer (some ⟨sb,0,none⟩)) (hcb) ?_;kernel_rfl
     simp only [Act.put,sA,sB,sC];refine @wQ _ _ _ _ _ _ _ ?_ ?_;kernel_rfl;intro K hK;go_simp;refine hK _ _ ?_;clear hK K;refine @wpList_load_known _ _ _ _ _ _ _ ?_ 30 (.tmp 191) rfl (Bx) (0) rfl (.agg ic) (hld) ?_;kernel_rfl
     simp only [Act.put,sA,sB,sC];refine @wQ _ _ _ _ _ _ _ ?_ ?_;kernel_rfl;intro K hK;go_simp;go_at_call 11
     refine(hgt).mono ?_;rintro e W1 ⟨rfl,kx⟩;have hnw1:=hnw W1;have hbx1:=HBX.out _ (kx.alloc kx.size (.cells CC 36))
     have heq1:=heq (W1.alloc (.cells CC 36))
     refine hK _ _ ?_;clear hK K;iterate 3 (refine @wQ _ _ _ _ _ _ _ ?_ ?_;kernel_rfl;intro K hK;go_simp;refine hK _ _ ?_;clear hK K)
     refine @wpL_alloc _ _ _ _ _ _ _ _ ?_ 36 rfl _ (hal _) ?_;kernel_rfl
     simp only [Act.put,sA,sB,sC];refine wpList_store_row rfl 36 _ _ rfl (W1.heap.size) CC rfl rfl 36 ZC (heap_new _ _) (hci) (hcz.symm) (hca) ?_
     simp only [Act.put];rw [World.setRow_alloc_new];refine @wQ _ _ _ _ _ _ _ ?_ ?_;kernel_rfl;intro K hK;go_simp;refine hK _ _ ?_;clear hK K;refine wpList_nil ?_;refine OnlyN.normal ?_;simp only [Exit.then];refine wpIn_seq ?_;refine region_round_lit15 (by kernel_rfl) ?_
     iterate 3 (refine @wQ _ _ _ _ _ _ _ ?_ ?_;kernel_rfl;intro K hK;go_simp;refine hK _ _ ?_;clear hK K)
     refine @wpList_load_known _ _ _ _ _ _ _ ?_ 36 (.tmp 27) rfl (W1.heap.size) (0) rfl (.agg CC) (hnw1) ?_;kernel_rfl
     simp only [Act.put,sA,sB,sC];refine @wpList_load_known _ _ _ _ _ _ _ ?_ 36 (.tmp 26) rfl (Bx) (0) rfl (.agg CC) (hbx1) ?_;kernel_rfl
     simp only [Act.put,sA,sB,sC];refine @wpL_neq15 _ _ _ _ _ _ _ ?_ _ _ _ _ rfl (CC) (CC) rfl rfl vxGuard15 (heq1) ?_;kernel_rfl;simp only [Act.put,sA,sB,sC];refine @wQ _ _ _ _ _ _ _ ?_ ?_;kernel_rfl;intro K hK;go_simp;refine hK _ _ ?_;clear hK K;refine wpList_nil ?_;refine OnlyN.normal ?_
     gi_wp2_with fail
     have hH:=kx.alloc kx.size (.cells CC 36)
     have hkf:=(KeepsOthers.of_grownBy (grown15 hH) (fun j o e=>by cases e)).from w8.heap.size
     have hkc:=KC.of_kept hH;have hbe:=HBE.out.trans ((below15 hH).mono HBE.out.size);exact⟨hkf,hkc,hbe⟩
    case done=>
     rintro D ys W hD hperm hB hKD;have kW:Kept w8.heap.size w8.heap.size w8 W:=Kept.ofBelow hB (Nat.le_refl _);have HI6:=hid (HI5.out.kept kW);have hbc:=HI6.out.res.cell;have hbf:=HI6.out.res.frozen;have hk4:=HI6.out.kp.setCell15 (a:=⟨rb,0,none⟩) HI6.out.new (.bool true);have hb4:=HI6.out.res.set (.bool true);have hD2:w.heap.size≤D:=Nat.le_trans HI5.out.kp.size hD
     have hne:rb≠D:=by
      rintro rfl;rw [show W.heap[rb]? = _ from HI6.out.res] at hKD
      cases hKD
     clear kW hB hperm
     go_wp2_with fail
     refine leaves_marks15 (w0:=w) (rb:=rb) (fun w hb=>results_cell1_15 rfl _ _ hb rfl rfl rfl) (fun w' hk=>⟨rfl,hk⟩) [D] _ hb4 (fun d hd=>?_) (List.nodup_cons.2 ⟨by simp,List.nodup_nil⟩) hk4
     obtain rfl:=List.mem_singleton.1 hd;exact⟨hD2,(setCell_other W rb 0 (.bool true) d (Ne.symm hne)).trans hKD⟩
    case stop=>
     rintro D cc pre W _ hin hbad _;exact hbad.elim
end Go.Proofs.Ytfbfdaeagpdaiaa
