/-
 TreePath; TreeRefPath; TreePathWay; TreePathJoin: several texts in one.
-/
import Derived.Test.YtaobiofngnfdiaaGreatDoorHL
import Derived.Test.YtaobiofngnfdiaaGreatDoorTreeCopied
import Derived.Test.YtaobiofngnfdiaaGreatDoorHA
import Derived.Test.YtaobiofngnfdiaaGreatDoorHC
import Derived.Test.YtaobiofngnfdiaaGreatDoorTreeBlank
import Derived.Test.YtaobiofngnfdiaaGreatDoorHF
import Derived.Test.YtaobiofngnfdiaaGreatDoorTreeJoin
set_option maxRecDepth 100000
set_option maxHeartbeats 6400000
namespace Go.Proofs.YtaobiofngnfdiaaGreatDoor
open Go.RowKit Go.Lib
open List renaming setIfInBounds_toArray → sA, set_cons_zero → sB, set_cons_succ → sC
open BigFrame renaming wpList_want → wQ
theorem alloc_hashP (w:World):(Instr.alloc 35 true (.tuple #[])).run Tryz.prog w = .ok (.pointer (some ⟨w.heap.size,0,none⟩)) (w.alloc (.cells zeros32 35)):=by kernel_rfl
theorem Tab.ontoP {w x:World}(h:Tab w)(k:Kept w.heap.size w.heap.size w x):Tab x:=h.kept k h.lt h.lt
theorem path_ok (lv pv:Value)(L:List Lf)(P:List Pr)(k:Nat)(pub:List UInt8)(hpub:pub.length = 32)(kv:Value)(ks:List (List UInt8))(ws:List Int)(B:Nat→Int)(H:Nat→List UInt8)(m:Nat)(w:World)(hL:Lvs w lv L)(hP:Pts w pv P)(hn:L.length≤1000)(hp:P.length≤1000)(hpl:∀ p∈P,p.loose.length≤1000)(hK:Hs w kv ks)(htab:Tab w)(hk:k < L.length)(hlk:Tt.lacks L P (k:Int) = 0)(hws:Bo.Direct (L.length:Int) (k:Int) = ws)(hm:ws.length = m)(hkm:ks.length = m)(hm9:m≤66)(hpos:∀ i (h:i < ws.length),0≤ws[i]∧ws[i].toNat / 2 < P.length)(hHl:∀ j,(H j).length = 32)
  (hB:∀ j,j < m→∀ u,Calls Tryz.prog 40 #[.int .i64 (L.length:Int),.int .i64 (Tt.wayX ws (k:Int) j)] u fun e u'=>e = .returned (.int .i64 (B j))∧Kept u.heap.size u.heap.size u u')
  (hHO:∀ j,j < m→∀ u,Tab u→Lvs u lv L→Pts u pv P→Calls Tryz.prog 39 #[.agg #[lv,pv],.int .i64 (B j)] u fun e u'=>e = .returned (.agg (bcells (H j)).toArray)∧Kept u.heap.size u.heap.size u u') :
  Calls Tryz.prog 14 #[.agg #[lv,pv],.int .i64 (k:Int),.agg (bcells pub).toArray,kv] w fun e w'=>∃ lv' pv',e = .returned (.tuple #[.agg #[lv',pv'],.int .i64 0])∧Kept w.heap.size w.heap.size w w'∧∃ SL,Mine (fun k=>k < w.heap.size) w' lv' pv' (L.set k (.mk L[k].name pub L[k].ver (Tt.said ks H m 0))) (Tt.down ws ks H P 0) SL:=by
 have HLK:=hid (fun(u:World) (kk:Kept w.heap.size w.heap.size w u)=>lacks_calls lv pv L P (k:Int) u (hL.kept kk) (hP.kept kk) hn hp hpl)
 rw [hlk] at HLK;clear hlk;have HCP:=hid (fun(u:World) (kk:Kept w.heap.size w.heap.size w u)=>copied_calls lv pv L P u (hL.kept kk) (hP.kept kk) hn hp hpl)
 have HB:=hid hB;have HHO:=hid (fun(j:Nat) (e:j < m) (u:World) (kk:Kept w.heap.size w.heap.size w u)=>hHO j e u (htab.ontoP kk) (hL.kept kk) (hP.kept kk))
 have HHL:=hid hHl;have HKH:=hid hK;obtain⟨_,kad,kg,ko,kc,rfl,hkc⟩:=hK;have HKC:=hid hkc;have HP9:=hid hp;clear hkc;rw [hkm] at HKH;rw [hkm];have HKM:=hid hkm;have HWM:=hid hm;have HPO:=hid hpos;have HKL:=hid hk
 have hlok:L[k].Ok:=by
  obtain⟨_,_,_,_,_,h1,_⟩:=hL;exact(h1 k hk).2.2.1
 obtain⟨l,hl⟩:∃ l,l = L[k]:=⟨_,rfl⟩;rw [← hl] at hlok;have HL:=hid (show ∀ h:k < L.length,l = L[k] from fun _=>hl)
 have HOK:=hid hlok;have HD:=hid (fun(u:World)=>direct_calls lenIs (L.length:Int) (k:Int) u)
 rw [hws] at HD;obtain⟨x,hx⟩:∃ x:Int,x = (k:Int):=⟨_,rfl⟩;have hx0:0≤x:=by omega
 have hx9:x≤1000:=by omega
 obtain⟨wn,hwn⟩:∃ wn,wn = m + 1:=⟨_,rfl⟩;have HM9:=hid hm9;have HWN:=hid (show([2 * x] ++ ws).length = wn by rw [List.length_append,hm,hwn]; exact Nat.add_comm _ _)
 have HWNM:=hid hwn;have HX2:=hid (show IntKind.i64.wrap (2 * x) = 2 * x from wrap_small _ (by omega) (by omega))
 have HW1:=hid (show IntKind.i64.wrap ((wn:Int) - 1) = (m:Int) by have:=HM9.out; rw [show(wn:Int) - 1 = (m:Int) by omega]; exact wrap_small _ (by omega) (by omega))
 have HW2:=hid (show IntKind.i64.wrap ((m:Int) - 1) = (m:Int) - 1 by
  rcases Nat.eq_zero_or_pos m with h0 | h0
  ·rw [h0]; rfl
  ·exact wrap_small _ (by omega) (by omega))
 have HML:=hid (show ws.length≤66 by rw [hm]; exact hm9)
 have HXK:=hid hx;rw [← hx] at HLK HD HB ⊢;obtain⟨lad,lc,rfl⟩:=hL.shape;obtain⟨pad,pc,rfl⟩:=hP.shape;obtain⟨ln,hln⟩:∃ ln,ln = L.length:=⟨_,rfl⟩;obtain⟨pn,hpn⟩:∃ pn,pn = P.length:=⟨_,rfl⟩;have hkl:(k:Int) < (ln:Int):=by omega
 have hk0:¬ (k:Int) < 0:=by omega
 rw [← hln,← hpn] at HLK;rw [← hln,← hpn] at HCP;rw [← hln,← hpn] at HHO;rw [← hln] at HB;rw [← hln] at HD;rw [← hln,← hpn];clear hws hm hkm hm9 hpos hB hHO hHl htab hlok hl hwn hx0 hx9 hx;have hln9:(ln:Int)≤1000:=by omega
 have HLN:=hid hln;have HPN:=hid hpn;have HPB:=hid hpub;obtain⟨D,hD⟩:∃ D,D = (bcells pub).toArray:=⟨_,rfl⟩;have HDE:=hid hD;have hsz:D.size = 32:=by rw [hD,List.size_toArray,bcells_length,hpub]
 have HSZ:=hid hsz;have hinf:(Tryz.prog.info? 35).map (·.size) = some D.size:=by rw [hD]; exact hashInfoT (by rw [bcells_length,hpub])
 have HINF:=hid hinf;have HALL:=hid (show D.all (·.oneCell') = true by rw [hD]; exact bytesAll pub)
 rw [← hD];clear hpub hD hsz hinf;clear hL hP hn hp hpl hln hpn;have k1:=kA w (.cells #[.slice lad ln lc,.slice pad pn pc] 27)
 have t1:=heap_new w (.cells #[.slice lad ln lc,.slice pad pn pc] 27)
 have s1:(w.alloc (.cells #[.slice lad ln lc,.slice pad pn pc] 27)).heap.size = w.heap.size + 1:=by simp
 go_enter Tryz.func14,Tryz.ntmps14
 go_upto_region 1 with fail
 generalize w.alloc (.cells #[.slice lad ln lc,.slice pad pn pc] 27) = wa at k1 t1 s1 ⊢
 have k2:=kA wa (.cells D 35)
 have e2:=heap_new wa (.cells D 35)
 have s2:(wa.alloc (.cells D 35)).heap.size = wa.heap.size + 1:=by simp
 have t2:=rk t1 k2;generalize wa.alloc (.cells D 35) = wb at k2 e2 s2 t2 ⊢
 have k3:=kA wb (.cells #[.slice none 0 0,.slice none 0 0] 27)
 have r3:=heap_new wb (.cells #[.slice none 0 0,.slice none 0 0] 27)
 have s3:(wb.alloc (.cells #[.slice none 0 0,.slice none 0 0] 27)).heap.size = wb.heap.size + 1:=by simp
 have t3:=rk t2 k3;have e3:=rk e2 k3;generalize wb.alloc (.cells #[.slice none 0 0,.slice none 0 0] 27) = w1 at k3 r3 s3 t3 e3 ⊢
 have K1:=hid ((k1.next1 k2).next1 k3);rw [s2,s1] at r3 s3;rw [s1] at e3
 (try rw [s2])
 (try rw [s1])
 obtain⟨tb,htb⟩:∃ tb,tb = w.heap.size:=⟨_,rfl⟩;obtain⟨lb,hlb⟩:∃ lb,lb = w.heap.size + 1:=⟨_,rfl⟩;obtain⟨rb,hrb⟩:∃ rb,rb = w.heap.size + 1 + 1:=⟨_,rfl⟩;rw [← hrb] at r3
 (try rw [← hrb])
 rw [← hlb] at e3
 (try rw [← hlb])
 rw [← htb] at t3
 (try rw [← htb])
 have HTL:=hid (show tb≠lb by omega)
 have HTR:=hid (show tb≠rb by omega)
 have HTB:=hid (show ¬ tb < w.heap.size by omega)
 have HRB:=hid (show ¬ rb < w.heap.size by omega)
 have HWS:=hid (show w.heap.size≤w1.heap.size by omega)
 have T1:=hid t3;have R1:=hid r3;have E1:=hid e3;clear k1 t1 s1 k2 e2 s2 t2 k3 r3 s3 t3 e3 htb hlb hrb;refine wp_region_lit ?_;refine @wpList_load_known _ _ _ _ _ _ _ ?_ 27 (.tmp 4) rfl (tb) (0) rfl (.agg #[.slice lad ln lc,.slice pad pn pc]) (run_loadVar_row w1 tb 27 27 _ (0,0) _ T1.out Tryz.underlying27 rfl treeInfo) ?_;kernel_rfl
 simp only [Act.put,sA,sB,sC];refine @wQ _ _ _ _ _ _ _ ?_ ?_;kernel_rfl;intro K hK;go_simp;refine hK _ _ ?_;clear hK K;refine @wQ _ _ _ _ _ _ _ ?_ ?_;kernel_rfl;intro K hK;go_simp;go_at_call 36
 refine(HLK.out _ K1.out).mono ?_;rintro e w2 ⟨rfl,k2⟩;have K2:=hid (K1.out.next1 k2);have T2:=hid (rk T1.out k2);have R2:=hid (rk R1.out k2);have E2:=hid (rk E1.out k2);clear k2;refine hK _ _ ?_;clear hK K;refine @wQ _ _ _ _ _ _ _ ?_ ?_;kernel_rfl;intro K hK;go_simp;refine hK _ _ ?_;clear hK K;have t0:=load_slice (d:=.int .u8) (two_cell0 T2.out) (.inl rfl) rfl
 go_upto_region 4 with fail
 refine wp_region_lit ?_;refine @wQ _ _ _ _ _ _ _ ?_ ?_;kernel_rfl;intro K hK;go_simp;refine hK _ _ ?_;clear hK K;refine @wpList_load_known _ _ _ _ _ _ _ ?_ 24 (.tmp 23) rfl (tb) (0) rfl (.slice lad ln lc) (t0) ?_;kernel_rfl
 simp only [Act.put,sA,sB,sC];iterate 2 (refine @wQ _ _ _ _ _ _ _ ?_ ?_;kernel_rfl;intro K hK;go_simp;refine hK _ _ ?_;clear hK K)
 clear t0
 go_upto_region 5 with fail
 refine wp_region_lit ?_;iterate 2 (refine @wQ _ _ _ _ _ _ _ ?_ ?_;kernel_rfl;intro K hK;go_simp;refine hK _ _ ?_;clear hK K)
 rw [HX2.out];refine @wpL_sliceN _ _ _ _ _ _ _ _ ?_ 57 1 _ rfl #[(0,.int .i64 (2 * x))] (by simp only [List.map_toArray,List.map_cons,List.map_nil]; rfl) _ (build_one8 _ _) ?_;kernel_rfl
 simp only [Act.put,sA,sB,sC];have i3:=Ints.new w2 [2 * x] (by rw [List.length_singleton]; decide)
 have k3:=kA w2 (.cells #[.int .i64 (2 * x)] 3)
 rw [show([2 * x].map (Value.int .i64)).toArray = #[.int .i64 (2 * x)] from rfl,show([2 * x]:List Int).length = 1 from rfl] at i3;have s3:(w2.alloc (.cells #[.int .i64 (2 * x)] 3)).heap.size = w2.heap.size + 1:=by simp
 generalize w2.alloc (.cells #[.int .i64 (2 * x)] 3) = w3 at i3 k3 s3 ⊢
 obtain⟨wb,hwb⟩:∃ wb,wb = w2.heap.size:=⟨_,rfl⟩;have HWT:=hid (show tb < wb by rw [hwb]; exact lt_of_block T2.out)
 have HWR:=hid (show rb < wb by rw [hwb]; exact lt_of_block R2.out)
 have HWE:=hid (show lb < wb by rw [hwb]; exact lt_of_block E2.out)
 have HWW:=hid (show w.heap.size≤wb by rw [hwb]; exact K2.out.size)
 have K3:=hid (K2.out.next1 k3);have T3:=hid (rk T2.out k3);have R3:=hid (rk R2.out k3);have E3:=hid (rk E2.out k3);clear k3;rw [← hwb] at i3 s3
 (try rw [← hwb])
 have I3:=hid i3;have S3:=hid (show wb≤w3.heap.size by omega)
 clear i3 s3 hwb;iterate 2 (refine @wQ _ _ _ _ _ _ _ ?_ ?_;kernel_rfl;intro K hK;go_simp;refine hK _ _ ?_;clear hK K)
 refine @wQ _ _ _ _ _ _ _ ?_ ?_;kernel_rfl;intro K hK;go_simp;go_at_call 34
 refine(HD.out _).mono ?_;rintro e w4 ⟨dv,rfl,di,k4⟩;have i4:=I3.out.kept k4;have s4:=Nat.le_trans S3.out k4.size;have K4:=hid (K3.out.next1 k4);have T4:=hid (rk T3.out k4);have R4:=hid (rk R3.out k4);have E4:=hid (rk E3.out k4);clear k4;obtain⟨wv,w5,hap,i5,g5⟩:=append_row8 w4 wb _ _ _ _ _ i4 di (by have:=HML.out; rw [List.length_singleton]; omega) s4
 have hlow:∀ q,(Value.slice (some ⟨wb,0,none⟩) 1 1).ownBlock = some q→wb≤q:=fun q e=>(World.ownsRow.lt i4 q e).1
 have K5:=hid (K4.out.grown g5 K4.out.size (fun q e=>Nat.le_trans HWW.out (hlow q e)))
 have T5:=hid ((g5.block tb (lt_of_block T4.out) (fun e=>Nat.not_lt.2 (hlow tb e.symm) HWT.out)).trans T4.out)
 have R5:=hid ((g5.block rb (lt_of_block R4.out) (fun e=>Nat.not_lt.2 (hlow rb e.symm) HWR.out)).trans R4.out)
 have E5:=hid ((g5.block lb (lt_of_block E4.out) (fun e=>Nat.not_lt.2 (hlow lb e.symm) HWE.out)).trans E4.out)
 obtain⟨wad,wc,rfl⟩:=(ints_nums i5).shape;rw [HWN.out] at i5 hap;obtain⟨dad,dc,rfl⟩:=(ints_nums di).shape;have I5:=hid i5;have AP5:=hid hap;have hml:=HWM.out;rw [hml] at AP5 ⊢;have WN5:=hid (ints_nums I5.out);clear i4 s4 g5 hlow i5 hap di hml;refine hK _ _ ?_;clear hK K;refine wpList_append_known rfl (.tmp 28) (.tmp 31) 57 57 57 rfl rfl _ _ rfl rfl AP5.out ?_
 simp only [Act.put,sA,sB,sC];refine @wQ _ _ _ _ _ _ _ ?_ ?_;kernel_rfl;intro K hK;go_simp;refine hK _ _ ?_;clear hK K;have hne:((m:Int) == (m:Int)) = true:=beq_self_eq_true _;have hnn:((m:Int) != (m:Int)) = false:=bne_self_eq_false _
 go_upto_region 6 with fail
 refine wp_region_lit ?_;iterate 5 (refine @wQ _ _ _ _ _ _ _ ?_ ?_;kernel_rfl;intro K hK;go_simp;refine hK _ _ ?_;clear hK K)
 rw [HW1.out];refine @wQ _ _ _ _ _ _ _ ?_ ?_;kernel_rfl;intro K hK;go_simp;refine hK _ _ ?_;clear hK K
 go_upto_region 8 with fail
 clear hne hnn;refine wp_region_lit ?_;refine @wpList_load_known _ _ _ _ _ _ _ ?_ 27 (.tmp 4) rfl (tb) (0) rfl (.agg #[.slice lad ln lc,.slice pad pn pc]) (run_loadVar_row w5 tb 27 27 _ (0,0) _ T5.out Tryz.underlying27 rfl treeInfo) ?_;kernel_rfl
 simp only [Act.put,sA,sB,sC];refine @wQ _ _ _ _ _ _ _ ?_ ?_;kernel_rfl;intro K hK;go_simp;go_at_call 32
 refine(HCP.out _ K5.out).mono ?_;rintro e w6 ⟨lv6,pv6,rfl,k6,SL6,m6⟩;obtain⟨lad6,lc6,rfl⟩:=m6.lvs.shape;obtain⟨pad6,pc6,rfl⟩:=m6.pts.shape;rw [← HLN.out,← HPN.out] at m6 ⊢;have HK56:=hid k6.size;have KW6:=hid k6;have K6:=hid (K5.out.next1 k6);have T6:=hid (rk T5.out k6);have R6:=hid (rk R5.out k6);have E6:=hid (rk E5.out k6);clear k6;refine hK _ _ ?_;clear hK K;refine @wpL_alloc _ _ _ _ _ _ _ _ ?_ 27 rfl _ (alloc_tree _) ?_;kernel_rfl
 simp only [Act.put,sA,sB,sC];refine wpList_store_row rfl 27 _ _ rfl (w6.heap.size) #[.slice lad6 ln lc6,.slice pad6 pn pc6] rfl rfl 27 #[.slice none 0 0,.slice none 0 0] (heap_new _ _) (treeInfo) (rfl) (tree_all _ _ _ _ _ _) ?_
 simp only [Act.put];rw [World.setRow_alloc_new];have m7:=m6.box (.cells #[.slice lad6 ln lc6,.slice pad6 pn pc6] 27)
 have hb7:=heap_new w6 (.cells #[.slice lad6 ln lc6,.slice pad6 pn pc6] 27)
 have k7:=kA w6 (.cells #[.slice lad6 ln lc6,.slice pad6 pn pc6] 27)
 have KW7:=hid (KW6.out.onto k7);obtain⟨mb,hmb⟩:∃ mb,mb = w6.heap.size:=⟨_,rfl⟩;obtain⟨sz,hsz⟩:∃ sz,sz = w5.heap.size:=⟨_,rfl⟩;have hs5:=K5.out.size;have hs56:sz≤w6.heap.size:=by rw [hsz]; exact HK56.out
 have HSZ5:=hid hsz;have HSZW:=hid (show w.heap.size≤sz by omega)
 have HBR:=hid (show rb < sz by rw [hsz]; exact lt_of_block R5.out)
 have HMB:=hid (show sz≤mb by omega)
 have s7:(w6.alloc (.cells #[.slice lad6 ln lc6,.slice pad6 pn pc6] 27)).heap.size = mb + 1:=by rw [hmb]; simp
 generalize w6.alloc (.cells #[.slice lad6 ln lc6,.slice pad6 pn pc6] 27) = w7 at m7 hb7 k7 s7 KW7 ⊢
 rw [← hmb] at m7 hb7
 (try rw [← hmb])
 rw [← hsz] at m7;have M7:=hid m7;have B7:=hid hb7;have S7:=hid s7;clear m6 m7 hb7 s7 k7 hmb hsz hs5 hs56 T6 R6 E6 K6
 go_upto_region 9 with fail
 refine wp_region_lit ?_;refine @wpL_alloc _ _ _ _ _ _ _ _ ?_ 35 rfl _ (alloc_hashP _) ?_;kernel_rfl
 simp only [Act.put,sA,sB,sC];have m8:=M7.out.box (.cells zeros32 35)
 have hs8:=heap_new w7 (.cells zeros32 35)
 have k8:=kA w7 (.cells zeros32 35)
 have KW8:=hid (KW7.out.onto k8);have B8:=hid (rk B7.out k8);obtain⟨sb,hsb⟩:∃ sb,sb = w7.heap.size:=⟨_,rfl⟩;have HSB:=hid (show sz≤sb by have:=S7.out; have:=HMB.out; omega)
 have HMS:=hid (show mb≠sb by have:=S7.out; omega)
 generalize w7.alloc (.cells zeros32 35) = w8 at m8 hs8 k8 KW8 B8 ⊢
 rw [← hsb] at m8 hs8
 (try rw [← hsb])
 have M8:=hid m8;have Z8:=hid hs8;clear m8 hs8 k8 hsb M7 B7 S7 KW7 KW6
 go_upto_region 10 with fail
 refine wp_region_lit ?_;iterate 3 (refine @wQ _ _ _ _ _ _ _ ?_ ?_;kernel_rfl;intro K hK;go_simp;refine hK _ _ ?_;clear hK K)
 rw [HW2.out];refine @wQ _ _ _ _ _ _ _ ?_ ?_;kernel_rfl;intro K hK;go_simp;refine hK _ _ ?_;clear hK K;go_wp2
 go_loopw [15] (fun s15 wr=>∃ c:Nat,∃ ci:Int,∃ SL:List Value,s15 = .int .i64 ci∧Hid (ci = (c:Int) - 1)∧Hid (c≤m)∧Hid (Mine (fun k=>(k < sz∨k = mb)∨k = sb) wr (.slice lad6 ln lc6) (.slice pad6 pn pc6) L (Tt.down ws ks H P c) SL)∧Hid (wr.heap[mb]? = some (.cells #[.slice lad6 ln lc6,.slice pad6 pn pc6] 27 (0,0)))∧Hid (wr.heap[sb]? = some (.cells (bcells (Tt.said ks H (m - c) c)).toArray 35 (0,0)))∧Hid (Kept w5.heap.size w5.heap.size w5 wr)) (fun s15 _=>(RowKit.intOf s15 + 1).toNat)
 case atStart=>
  refine⟨m,_,SL6,rfl,hid rfl,hid (Nat.le_refl _),hid ?_,B8,hid ?_,KW8⟩
  ·rw [← HWM.out,Tt.down_top]; exact M8.out
  ·rw [Nat.sub_self]; exact Z8.out
 case round=>
  clear M8 B8 Z8 KW8;obtain⟨c,ci,SL,rfl,hci,hc,HM,HB7,HS7,HKW⟩:=hrel
  rcases Nat.eq_zero_or_pos c with hc0 | hc0
  ·have hcm:ci = -1:=by have:=hci.out; omega
   subst hcm;subst hc0;clear hci hc;have hxk:=HXK.out;subst hxk
   go_upto_region 15 with fail
   have F7:=hid ((K5.out.onto HKW.out).fr (B:=fun k=>k < w.heap.size))
   have hSW:=HSZW.out;have R7:=hid (row_kept R5.out HKW.out);have E7:=hid (row_kept E5.out HKW.out);obtain⟨g8,cap8,he8,hgb8,hth8,hm8,hg8⟩:=HM.out.leafPart k HKL.out (.mk l.name pub l.ver l.abv) ⟨HPB.out,HOK.out.2.1,HOK.out.2.2⟩ 1 (bcells pub) (by rw [bcells_length,HPB.out]; decide) (bcells_one pub) (by rw [← HL.out HKL.out]; exact Lf.put_pub HOK.out pub HPB.out)
   rw [← HLN.out] at he8;injection he8 with hea hez hec
   subst hea;clear hez hec;obtain⟨g9,cap9,he9,hgb9,hth9,hm9,hg9⟩:=hm8.leafPart k (by rw [List.length_set]; exact HKL.out) (.mk l.name pub l.ver (Tt.said ks H m 0)) ⟨HPB.out,HOK.out.2.1,Tt.said_len _ _ _ _⟩ 65 (bcells (Tt.said ks H m 0)) (by rw [bcells_length,Tt.said_len]; decide) (bcells_one _) (by rw [List.getElem_set_self]; exact Lf.put_abv (l:=.mk l.name pub l.ver l.abv) ⟨HPB.out,HOK.out.2.1,HOK.out.2.2⟩ _ (Tt.said_len _ _ _ _))
   rw [List.set_set] at hm9;injection he9 with hea hez hec
   injection hea with hea
   injection hea with hea heo hes
   subst hea;clear hez hec heo hes;rw [bcells_length,HPB.out] at hth8;rw [bcells_length,Tt.said_len] at hth9;have HTH8:=hid hth8;have HTH9:=hid hth9;have hne:∀ b,b < sz→some b≠some g8:=fun b hb e=>hgb8 (.inl (.inl (by rw [← Option.some.inj e]; exact hb)))
   have hb8:=(hg8.block mb (lt_of_block HB7.out) (fun e=>hgb8 (.inl (.inr (Option.some.inj e).symm)))).trans HB7.out
   have hz8:=(hg8.block sb (lt_of_block HS7.out) (fun e=>hgb8 (.inr (Option.some.inj e).symm))).trans HS7.out
   have hr8:=(hg8.block rb (lt_of_block R7.out) (hne rb HBR.out)).trans R7.out;have hf8:=F7.out.trans (grown_fr (B:=fun k=>k < w.heap.size) hg8 (fun k e b=>by cases e; exact hgb8 (.inl (.inl (Nat.lt_of_lt_of_le b hSW)))))
   have hb9:=(hg9.block mb (lt_of_block hb8) (fun e=>hgb8 (.inl (.inr (Option.some.inj e).symm)))).trans hb8
   have hr9:=(hg9.block rb (lt_of_block hr8) (hne rb HBR.out)).trans hr8;have hf9:=hf8.trans (grown_fr (B:=fun k=>k < w.heap.size) hg9 (fun k e b=>by cases e; exact hgb8 (.inl (.inl (Nat.lt_of_lt_of_le b hSW)))))
   have hdl:bcells pub = D.toList:=by rw [HDE.out]
   obtain⟨sc,hsc⟩:∃ sc,sc = (bcells (Tt.said ks H m 0)).toArray:=⟨_,rfl⟩;have hsl:bcells (Tt.said ks H m 0) = sc.toList:=by rw [hsc]
   rw [Nat.sub_zero,← hsc] at hz8;rw [hdl] at hm9 hb8 hb9 hr9 hf9 hz8 HTH9;rw [hsl] at hm9 hb9 hr9 hf9;have HSZ2:=hid (show sc.size = 32 by rw [hsc,List.size_toArray,bcells_length,Tt.said_len])
   have HIS:=hid (show(Tryz.prog.info? 35).map (·.size) = some sc.size by rw [hsc]; exact hashInfoT (by rw [bcells_length,Tt.said_len]))
   have HAS:=hid (show sc.all (·.oneCell') = true by rw [hsc]; exact bytesAll _)
   have B8:=hid hb8;have Z8:=hid hz8;have M9:=hid hm9;have B9:=hid hb9;have R9:=hid hr9;have F9:=hid hf9;have HLH:=hid (run_loadVar_row wr lb 35 35 _ (0,0) _ E7.out Tryz.underlying35 rfl HINF.out)
   clear hgb8 hth8 hm8 hg8 hb8 hr8 hf8 hz8 hgb9 hth9 hm9 hg9 hb9 hr9 hf9 hdl hsl hsc hne R7 E7 F7;have t0:=two_cell0 HB7.out;refine wp_region_lit ?_;iterate 3 (refine @wQ _ _ _ _ _ _ _ ?_ ?_;kernel_rfl;intro K hK;go_simp;refine hK _ _ ?_;clear hK K)
   refine @wpList_load_known _ _ _ _ _ _ _ ?_ 35 (.tmp 6) rfl (lb) (0) rfl (.agg D) (HLH.out) ?_;kernel_rfl
   simp only [Act.put,sA,sB,sC];iterate 2 (refine @wQ _ _ _ _ _ _ _ ?_ ?_;kernel_rfl;intro K hK;go_simp;refine hK _ _ ?_;clear hK K)
   refine @wpL_store_mid _ _ _ _ _ _ _ ?_ 35 _ _ rfl (g8) (k * 97 + 1) D rfl rfl (by rw [HSZ.out]; exact HTH8.out) HINF.out HALL.out ?_;kernel_rfl
   simp only [Act.put];generalize wr.setCells g8 (k * 97 + 1) D.toList = wv8 at B8 M9 B9 R9 F9 HTH9 Z8 ⊢;clear t0 HTH8 HLH HM HB7 HS7 HKW;have t0:=two_cell0 B8.out;have HLZ:=hid (run_loadVar_row wv8 sb 35 35 _ (0,0) _ Z8.out Tryz.underlying35 rfl HIS.out)
   go_upto_region 16 with fail
   refine wp_region_lit ?_;iterate 3 (refine @wQ _ _ _ _ _ _ _ ?_ ?_;kernel_rfl;intro K hK;go_simp;refine hK _ _ ?_;clear hK K)
   refine @wpList_load_known _ _ _ _ _ _ _ ?_ 35 (.tmp 14) rfl (sb) (0) rfl (.agg sc) (HLZ.out) ?_;kernel_rfl
   simp only [Act.put,sA,sB,sC];iterate 2 (refine @wQ _ _ _ _ _ _ _ ?_ ?_;kernel_rfl;intro K hK;go_simp;refine hK _ _ ?_;clear hK K)
   refine @wpL_store_mid _ _ _ _ _ _ _ ?_ 35 _ _ rfl (g8) (k * 97 + 65) sc rfl rfl (by rw [HSZ2.out]; exact HTH9.out) HIS.out HAS.out ?_;kernel_rfl
   simp only [Act.put];generalize wv8.setCells g8 (k * 97 + 65) sc.toList = w9 at M9 B9 R9 F9 ⊢;clear t0 HTH9 HLZ Z8 B8
   go_upto_region 17 with fail
   refine wp_region_lit ?_;refine @wpList_load_known _ _ _ _ _ _ _ ?_ 27 (.tmp 13) rfl (mb) (0) rfl (.agg #[.slice (some ⟨g8,0,none⟩) ln lc6,.slice pad6 pn pc6]) (run_loadVar_row w9 mb 27 27 _ (0,0) _ B9.out Tryz.underlying27 rfl treeInfo) ?_;kernel_rfl
   simp only [Act.put,sA,sB,sC];refine wpList_store_row rfl 27 _ _ rfl (rb) #[.slice (some ⟨g8,0,none⟩) ln lc6,.slice pad6 pn pc6] rfl rfl 27 #[.slice none 0 0,.slice none 0 0] R9.out treeInfo rfl (tree_all _ _ _ _ _ _) ?_
   simp only [Act.put];refine @wQ _ _ _ _ _ _ _ ?_ ?_;kernel_rfl;intro K hK;go_simp;refine hK _ _ ?_;clear hK K;have R12:=setRow_heap w9 rb _ #[.slice (some ⟨g8,0,none⟩) ln lc6,.slice pad6 pn pc6] _ _ R9.out;have g12:=grown_setRow w9 rb #[.slice (some ⟨g8,0,none⟩) ln lc6,.slice pad6 pn pc6];have M12:=hid (M9.out.aside (b:=rb) (.inl (.inl HBR.out)) g12);have F12:=hid ((F9.out.trans (grown_fr (B:=fun k=>k < w.heap.size) g12 (fun k e b=>by cases e; exact HRB.out b))).kept (fun k hk=>hk))
   generalize w9.setRow rb #[.slice (some ⟨g8,0,none⟩) ln lc6,.slice pad6 pn pc6] = wz at R12 g12 M12 F12 ⊢;go_wp2;refine bodyPost_ret (results_row2 rfl _ _ rb 27 _ (0,0) _ rfl R12 Tryz.underlying27 rfl treeInfo) rfl ?_
   have hm:=M12.out;rw [HL.out HKL.out] at hm;exact⟨_,_,rfl,F12.out,_,hm.mono (fun _ b=>.inl (.inl (Nat.lt_of_lt_of_le b hSW)))⟩
  ·obtain⟨i,hi⟩:∃ i,c = i + 1:=⟨c - 1,by omega⟩
   subst hi;have hcm:ci = (i:Int):=by have:=hci.out; omega
   subst hcm;have hlt:i < m:=hc.out;clear hci hc hc0;have hkj:i < ks.length:=by rw [HKM.out]; exact hlt
   have hwj:i < ws.length:=by rw [HWM.out]; exact hlt
   obtain⟨hkad,hkg,hkr⟩:=HKC.out i hkj;obtain⟨_,wc9,wg,wo,hwv,hwc⟩:=WN5.out;injection hwv with hwv1 hwv2 hwv3
   subst hwv1;clear hwv2 hwv3;have hwn:=HWNM.out;obtain⟨hwad,hwg,hwx⟩:=hwc (i + 1) (by rw [List.length_append,List.length_singleton]; omega)
   obtain⟨_,_,hwx0⟩:=hwc i (by rw [List.length_append,List.length_singleton]; omega)
   obtain⟨hy0,hyp⟩:=HPO.out i hwj;obtain⟨y,hy⟩:∃ y,y = ws[i]:=⟨_,rfl⟩;obtain⟨kx,hkx⟩:∃ x,x = ks[i]:=⟨_,rfl⟩;have hkl9:kx.length = 32:=by rw [hkx]; exact HKH.out.1 _ (List.getElem_mem _)
   obtain⟨sx,hsx⟩:∃ x,x = Tt.said ks H (m - (i + 1)) (i + 1):=⟨_,rfl⟩;have hsl:sx.length = 32:=by rw [hsx]; exact Tt.said_len _ _ _ _
   have HSX9:=hid (show Tt.said ks H (m - i) i = Tt.saidOf kx sx (H i) by
    rw [show m - i = (m - (i + 1)) + 1 by omega,hsx,hkx]
    show Tt.saidOf (ks.getD i []) _ _ = _
    rw [List.getD_eq_getElem?_getD,List.getElem?_eq_getElem hkj,Option.getD_some])
   obtain⟨z,hz⟩:∃ z,z = Tt.wayX ws x i:=⟨_,rfl⟩
   have hzi:([2 * x] ++ ws)[i]'(by rw [List.length_append,List.length_singleton]; omega) = z:=by
    rw [hz]
    cases i with
    | zero=>rfl
    | succ j=>
     show ws[j]'_ = ws.getD j 0;rw [List.getD_eq_getElem?_getD,List.getElem?_eq_getElem (show j < ws.length by omega),Option.getD_some]
   have hyi:([2 * x] ++ ws)[i + 1]'(by rw [List.length_append,List.length_singleton]; omega) = y:=by rw [hy]; rfl
   rw [hyi] at hwx;rw [hzi] at hwx0;rw [← hy] at hy0 hyp;rw [← hkx] at hkr;obtain⟨q,hq⟩:∃ q,q = y.toNat / 2:=⟨_,rfl⟩;rw [← hq] at hyp;have hp9:=HP9.out
   have HQ:=hid (show IntKind.i64.wrap (y.tdiv 2) = (q:Int) by
    rw [show y.tdiv 2 = (q:Int) by rw [Int.tdiv_eq_ediv_of_nonneg hy0]; omega]
    exact wrap_small _ (by omega) (by omega))
   have HQP:=hid hyp;have hql:(q:Int) < (pn:Int):=by rw [HPN.out]; omega
   have hq0:¬ (q:Int) < 0:=by omega
   have hm9:=HM9.out;obtain⟨i1,hi1⟩:∃ i1,i1 = i + 1:=⟨_,rfl⟩
   have HI1:=hid (show IntKind.i64.wrap ((i:Int) + 1) = (i1:Int) by
    rw [show(i:Int) + 1 = (i1:Int) by omega]
    exact wrap_small _ (by omega) (by omega))
   rw [← hi1] at hwx;have hi1w:(i1:Int) < (wn:Int):=by omega
   have hiw:(i:Int) < (wn:Int):=by omega
   have hlti:(i:Int) < (m:Int):=by omega
   have hge:(i:Int)≥0:=by omega
   have HPI:=hid (show Tt.pitem ws ks H i = (q,⟨true,kx,sx,[]⟩) by
    rw [Tt.pitem,List.getD_eq_getElem?_getD,List.getElem?_eq_getElem hwj,Option.getD_some,List.getD_eq_getElem?_getD,List.getElem?_eq_getElem hkj,Option.getD_some,← hy,← hkx,← hq,HWM.out,hsx,show m - 1 - i = m - (i + 1) by omega])
   obtain⟨kd,hkd⟩:∃ d,d = (bcells kx).toArray:=⟨_,rfl⟩;obtain⟨sd,hsd⟩:∃ d,d = (bcells sx).toArray:=⟨_,rfl⟩;obtain⟨pd,hpd⟩:∃ d,d = (Pr.cells ⟨true,kx,sx,[]⟩ (.slice none 0 0)).toArray:=⟨_,rfl⟩;have HKDE:=hid hkd;have HBP:=hid (fun u=>build_parent8 u kx sx hkl9 hsl)
   rw [← hkd,← hsd,← hpd] at HBP;rw [← hsx,← hsd] at HS7;have K9:=hid (K5.out.onto HKW.out);have HWZ5:=hid hwx0;have HWG5:=hid hwg;have HKR:=hid hkr;have HKG:=hid hkg;have HLY:=hid (fun(u:World) (kk:Kept wr.heap.size wr.heap.size wr u)=>load_int (((HKW.out.onto kk).cell (p:=⟨wg,wo + i1,none⟩) hwg (Nat.ne_of_lt hwg)).trans hwx))
   have HKK:=hid (show(bcells kx).length = 32 by rw [bcells_length,hkl9])
   have HLK2:=hid (fun(u:World) (kk:Kept wr.heap.size wr.heap.size wr u)=>run_loadVar_mid u kg (ko + i * 32) 35 (bcells kx) _ (rangeAt_kept (K9.out.onto kk) hkr hkg (Nat.ne_of_lt hkg)) Tryz.underlying35 rfl (by rw [bcells_length,hkl9]; kernel_rfl))
   rw [← hkd] at HLK2;have HLP:=hid (fun(u:World) (kk:Kept wr.heap.size wr.heap.size wr u)=>load_slice (d:=.int .u8) (two_cell1 (row_kept HB7.out kk)) (.inr rfl) rfl)
   have HDI:=hid (show(Tryz.prog.info? 35).map (·.size) = some sd.size by rw [hsd]; exact hashInfoT (by rw [bcells_length,hsl]))
   have HLS:=hid (fun(u:World) (kk:Kept wr.heap.size wr.heap.size wr u)=>run_loadVar_row u sb 35 35 _ (0,0) _ (row_kept HS7.out kk) Tryz.underlying35 rfl HDI.out)
   have HPZ:=hid (show pd.size = 66 by rw [hpd]; exact Pr.size (p:=⟨true,kx,sx,[]⟩) ⟨hkl9,hsl⟩ _)
   have HPA:=hid (show pd.all (·.oneCell') = true by rw [hpd]; exact Pr.all _ _ _ _)
   have HPD:=hid (show Pr.cells ⟨true,kx,sx,[]⟩ (.slice none 0 0) = pd.toList by rw [hpd])
   have HPK:=hid (show(⟨true,kx,sx,[]⟩:Pr).Ok from⟨hkl9,hsl⟩);have HSB2:=hid (fun(u:World)=>saidbelow_calls kx sx (H i) hkl9 hsl (HHL.out i) u)
   rw [← hkd,← hsd] at HSB2;have HSD2:=hid (show sd.size = 32 by rw [hsd,List.size_toArray,bcells_length,hsl])
   obtain⟨hc9,hhc⟩:∃ d,d = (bcells (H i)).toArray:=⟨_,rfl⟩;obtain⟨nd,hnd⟩:∃ d,d = (bcells (Tt.saidOf kx sx (H i))).toArray:=⟨_,rfl⟩;rw [← hhc,← hnd] at HSB2;have HND:=hid hnd;have HNZ:=hid (show nd.size = 32 by rw [hnd,List.size_toArray,bcells_length,Tt.saidOf_len])
   have HNI:=hid (show(Tryz.prog.info? 35).map (·.size) = some nd.size by rw [hnd]; exact hashInfoT (by rw [bcells_length,Tt.saidOf_len]))
   have HNA:=hid (show nd.all (·.oneCell') = true by rw [hnd]; exact bytesAll _)
   have HBE:=hid (HB.out i hlt);have HHO2:=hid (HHO.out i hlt);rw [← hz] at HBE;rw [← hhc] at HHO2;obtain⟨bj,hbj⟩:∃ b,b = B i:=⟨_,rfl⟩;rw [← hbj] at HBE HHO2;have HLT:=hid hlt;obtain⟨gp,cp,hpe⟩:=own_shape HM.out.po (by rw [zip_len HM.out,Tt.down_length]; have:=HQP.out; omega)
   injection hpe with hpa hpb hpc
   clear hpb hpc;subst hkad;subst hwad;subst hpa;clear hlt hkj hwj hkg hkr hwg hwx hwx0 hwc hy0 hyp hy hkx hkl9 hsx hsl hq hp9 hkd hsd hpd hz hzi hyi hi1 hwn hm9 hnd hhc hbj
   go_upto_region 13 with fail
   obtain⟨wd,hwd⟩:∃ wd,wd = wr.drew:=⟨_,rfl⟩;have KD:Kept wr.heap.size wr.heap.size wr wd:=by rw [hwd]; exact(Kept.refl _ _ _).drew
   refine wp_region_noPanic ?_;refine wp_region_heldTo 15 (S:=fun w'=>Kept wr.heap.size wr.heap.size wr w') (by kernel_rfl) (by rw [← hwd]; exact KD) (fun hH=>?_)
   rw [← hwd] at hH ⊢;clear hwd;refine heldTo_take_ex (i:=0) 49 rfl rfl (by kernel_rfl) (by kernel_rfl) (by kernel_rfl) (by kernel_rfl) (fun _ _ _ _ h=>h) (by kernel_rfl) hH ?_
   apply Exists.intro;apply And.intro
   ·intro w9 h9
    go_simp
    first | done | rfl
   simp only [sA,sB,sC];refine heldTo_take (i:=1) 50 (.slice (some ⟨gp,0,none⟩) pn pc6) rfl rfl (by kernel_rfl) (by kernel_rfl) (by kernel_rfl) (by kernel_rfl) (fun _ _ _ h=>h) (yieldsIf_load_known (by kernel_rfl) 25 _ rfl (mb) (1) rfl (.slice (some ⟨gp,0,none⟩) pn pc6) (HLP.out)) hH ?_
   simp only [sA,sB,sC];refine heldTo_take_ex (i:=2) 51 rfl rfl (by kernel_rfl) (by kernel_rfl) (by kernel_rfl) (by kernel_rfl) (fun _ _ _ _ h=>h) (by kernel_rfl) hH ?_
   apply Exists.intro;apply And.intro
   ·intro w9 h9
    go_simp
    first | done | rfl
   simp only [sA,sB,sC];refine heldTo_take_ex (i:=3) 52 rfl rfl (by kernel_rfl) (by kernel_rfl) (by kernel_rfl) (by kernel_rfl) (fun _ _ _ _ h=>h) (by kernel_rfl) hH ?_
   apply Exists.intro;apply And.intro
   ·intro w9 h9
    go_simp
    first | done | rfl
   simp only [sA,sB,sC];refine heldTo_take (i:=4) 53 (.int .i64 (i1:Int)) rfl rfl (by kernel_rfl) (by kernel_rfl) (by kernel_rfl) (by kernel_rfl) (fun _ _ _ h=>h) (.inl ⟨by kernel_rfl,fun w9 _=>by go_simp; first | done | rfl | rw [HI1.out] | simp only [HI1.out]⟩) hH ?_
   simp only [sA,sB,sC];refine heldTo_take_ex (i:=5) 54 rfl rfl (by kernel_rfl) (by kernel_rfl) (by kernel_rfl) (by kernel_rfl) (fun _ _ _ _ h=>h) (by kernel_rfl) hH ?_
   apply Exists.intro;apply And.intro
   ·intro w9 h9
    go_simp
    first | done | rfl
   simp only [sA,sB,sC];refine heldTo_take (i:=6) 55 (.int .i64 y) rfl rfl (by kernel_rfl) (by kernel_rfl) (by kernel_rfl) (by kernel_rfl) (fun _ _ _ h=>h) (yieldsIf_load_known (by kernel_rfl) 3 _ rfl (wg) (wo + i1) rfl (.int .i64 y) (HLY.out)) hH ?_
   simp only [sA,sB,sC];refine heldTo_take (i:=7) 56 (.int .i64 (q:Int)) rfl rfl (by kernel_rfl) (by kernel_rfl) (by kernel_rfl) (by kernel_rfl) (fun _ _ _ h=>h) (.inl ⟨by kernel_rfl,fun w9 _=>by go_simp; first | done | rfl | rw [HQ.out] | simp only [HQ.out]⟩) hH ?_
   simp only [sA,sB,sC];refine heldTo_take_ex (i:=8) 57 rfl rfl (by kernel_rfl) (by kernel_rfl) (by kernel_rfl) (by kernel_rfl) (fun _ _ _ _ h=>h) (by kernel_rfl) hH ?_
   apply Exists.intro;apply And.intro
   ·intro w9 h9
    go_simp
    first | done | rfl
   simp only [sA,sB,sC];refine heldTo_take_ex (i:=9) 58 rfl rfl (by kernel_rfl) (by kernel_rfl) (by kernel_rfl) (by kernel_rfl) (fun _ _ _ _ h=>h) (by kernel_rfl) hH ?_
   apply Exists.intro;apply And.intro
   ·intro w9 h9
    go_simp
    first | done | rfl
   simp only [sA,sB,sC];refine heldTo_take_ex (i:=10) 59 rfl rfl (by kernel_rfl) (by kernel_rfl) (by kernel_rfl) (by kernel_rfl) (fun _ _ _ _ h=>h) (by kernel_rfl) hH ?_
   apply Exists.intro;apply And.intro
   ·intro w9 h9
    go_simp
    first | done | rfl
   simp only [sA,sB,sC];refine heldTo_take (i:=11) 60 (.agg kd) rfl rfl (by kernel_rfl) (by kernel_rfl) (by kernel_rfl) (by kernel_rfl) (fun _ _ _ h=>h) (yieldsIf_load_known (by kernel_rfl) 35 _ rfl (kg) (ko + i * 32) rfl (.agg kd) (HLK2.out)) hH ?_
   simp only [sA,sB,sC];refine heldTo_take (i:=12) 61 (.agg sd) rfl rfl (by kernel_rfl) (by kernel_rfl) (by kernel_rfl) (by kernel_rfl) (fun _ _ _ h=>h) (yieldsIf_load_known (by kernel_rfl) 35 _ rfl (sb) (0) rfl (.agg sd) (HLS.out)) hH ?_
   simp only [sA,sB,sC];refine heldTo_one (i:=13) (by kernel_rfl) rfl (fun K hK=>?_)
   rw [if_pos (by rfl)]
   refine wp_buildN 67 _ rfl #[(0,.bool true),(1,.agg kd),(2,.agg sd)] (by simp only [List.map_toArray,List.map_cons,List.map_nil]; rfl) (HBP.out _) ?_
   have KS:=KD;refine hK.out _ _ KS (fun hH=>?_)
   clear hK K KS;refine heldTo_take_ex (i:=14) 63 rfl rfl (by kernel_rfl) (by kernel_rfl) (by kernel_rfl) (by kernel_rfl) (fun _ _ _ _ h=>h) (by kernel_rfl) hH ?_
   apply Exists.intro;apply And.intro
   ·intro w9 h9
    go_simp
    first | done | rfl
   simp only [sA,sB,sC];refine heldTo_last (by kernel_rfl) rfl (fun K hK=>?_)
   rw [if_pos (by rfl)]
   have Q9:=KD;have m9:=HM.out.kept Q9;obtain⟨g9,cap9,he9,hgb9,hth9,hm9,hg9⟩:=m9.parent q (by rw [Tt.down_length]; exact HQP.out) ⟨true,kx,sx,[]⟩ HPK.out (.slice none 0 0) (World.ownsRow_nil _ _ _ _) (fun _ e=>nomatch e) (Dif.symm (.inl rfl)) (Dif.symm (.inl rfl)) (fun _ _ _ _=>.inl rfl)
   have hgg:g9 = gp:=by
    injection he9 with hea _ _
    injection hea with hea
    injection hea with hea _ _
    exact hea.symm
   rw [hgg] at hth9 hm9 hg9 hgb9;clear he9 hgg;have hun:Tt.down ws ks H P i = (Tt.down ws ks H P (i + 1)).set q ⟨true,kx,sx,[]⟩:=by rw [Tt.down_next _ _ _ _ i (by rw [HWM.out]; exact HLT.out),HPI.out]
   rw [← hun] at hm9;clear hun;have hb9:=(hg9.block mb (lt_of_block (row_kept HB7.out Q9)) (fun e=>hgb9 (.inl (.inr (Option.some.inj e).symm)))).trans (row_kept HB7.out Q9)
   have hz9:=(hg9.block sb (lt_of_block (row_kept HS7.out Q9)) (fun e=>hgb9 (.inr (Option.some.inj e).symm))).trans (row_kept HS7.out Q9)
   have hw9:=(HKW.out.onto Q9).grown hg9 (HKW.out.onto Q9).size (fun q e=>by cases e; rw [← HSZ5.out]; exact Nat.le_of_not_lt (fun h=>hgb9 (.inl (.inl h))))
   rw [HPD.out] at hm9 hb9 hz9 hw9;refine wp_store_mid_none11 67 _ _ rfl rfl gp (q * 66) pd rfl rfl (by rw [HPZ.out]; exact hth9) (parentInfo HPZ.out) HPA.out ?_
   refine hK.out _ _ ?_;clear hK K;have BA:=hid hb9;have ZA:=hid hz9;have MA:=hid hm9;have KWA:=hid hw9;clear m9 hgb9 hth9 hm9 hg9 hb9 hz9 hw9;generalize wd.setCells gp (q * 66) pd.toList = wA at BA MA ZA KWA ⊢;refine heldTo_done (by kernel_rfl) ?_ _
   refine NoPanic.normal ?_;clear hH;clear HLY HLK2 HLP HLS KD Q9 HM HB7 HS7 HKW K9;have K9:=hid (K5.out.onto KWA.out);have HLK2:=hid (fun(u:World) (kk:Kept wA.heap.size wA.heap.size wA u)=>run_loadVar_mid u kg (ko + i * 32) 35 (bcells kx) _ (rangeAt_kept (K9.out.onto kk) HKR.out HKG.out (Nat.ne_of_lt HKG.out)) Tryz.underlying35 rfl (by rw [HKK.out]; kernel_rfl))
   have HKD9:=HKDE.out;rw [← HKD9] at HLK2;clear HKD9;have HLS:=hid (fun(u:World) (kk:Kept wA.heap.size wA.heap.size wA u)=>run_loadVar_row u sb 35 35 _ (0,0) _ (row_kept ZA.out kk) Tryz.underlying35 rfl HDI.out)
   have HLB:=hid (fun(u:World) (kk:Kept wA.heap.size wA.heap.size wA u)=>run_loadVar_row u tb 27 27 _ (0,0) _ (row_kept T5.out (KWA.out.onto kk)) Tryz.underlying27 rfl treeInfo)
   have HLZ:=hid (fun(u:World) (kk:Kept wA.heap.size wA.heap.size wA u)=>load_int (((KWA.out.onto kk).cell (p:=⟨wg,wo + i,none⟩) HWG5.out (Nat.ne_of_lt HWG5.out)).trans HWZ5.out))
   have HHO3:=hid (fun(u:World) (kk:Kept wA.heap.size wA.heap.size wA u)=>HHO2.out u (K9.out.onto kk))
   go_upto_region 14 with fail
   obtain⟨wd,hwd⟩:∃ wd,wd = wA.drew:=⟨_,rfl⟩;have KD:Kept wA.heap.size wA.heap.size wA wd:=by rw [hwd]; exact(Kept.refl _ _ _).drew
   refine wp_region_noPanic ?_;refine wp_region_heldTo 14 (S:=fun w'=>Kept wA.heap.size wA.heap.size wA w') (by kernel_rfl) (by rw [← hwd]; exact KD) (fun hH=>?_)
   rw [← hwd] at hH ⊢;clear hwd;refine heldTo_take_ex (i:=0) 64 rfl rfl (by kernel_rfl) (by kernel_rfl) (by kernel_rfl) (by kernel_rfl) (fun _ _ _ _ h=>h) (by kernel_rfl) hH ?_
   apply Exists.intro;apply And.intro
   ·intro w9 h9
    go_simp
    first | done | rfl
   simp only [sA,sB,sC];refine heldTo_take_ex (i:=1) 65 rfl rfl (by kernel_rfl) (by kernel_rfl) (by kernel_rfl) (by kernel_rfl) (fun _ _ _ _ h=>h) (by kernel_rfl) hH ?_
   apply Exists.intro;apply And.intro
   ·intro w9 h9
    go_simp
    first | done | rfl
   simp only [sA,sB,sC];refine heldTo_take_ex (i:=2) 66 rfl rfl (by kernel_rfl) (by kernel_rfl) (by kernel_rfl) (by kernel_rfl) (fun _ _ _ _ h=>h) (by kernel_rfl) hH ?_
   apply Exists.intro;apply And.intro
   ·intro w9 h9
    go_simp
    first | done | rfl
   simp only [sA,sB,sC];refine heldTo_take (i:=3) 67 (.agg kd) rfl rfl (by kernel_rfl) (by kernel_rfl) (by kernel_rfl) (by kernel_rfl) (fun _ _ _ h=>h) (yieldsIf_load_known (by kernel_rfl) 35 _ rfl (kg) (ko + i * 32) rfl (.agg kd) (HLK2.out)) hH ?_
   simp only [sA,sB,sC];refine heldTo_take (i:=4) 68 (.agg sd) rfl rfl (by kernel_rfl) (by kernel_rfl) (by kernel_rfl) (by kernel_rfl) (fun _ _ _ h=>h) (yieldsIf_load_known (by kernel_rfl) 35 _ rfl (sb) (0) rfl (.agg sd) (HLS.out)) hH ?_
   simp only [sA,sB,sC];refine heldTo_take (i:=5) 69 (.agg #[.slice lad ln lc,.slice pad pn pc]) rfl rfl (by kernel_rfl) (by kernel_rfl) (by kernel_rfl) (by kernel_rfl) (fun _ _ _ h=>h) (yieldsIf_load_known (by kernel_rfl) 27 _ rfl (tb) (0) rfl (.agg #[.slice lad ln lc,.slice pad pn pc]) (HLB.out)) hH ?_
   simp only [sA,sB,sC];refine heldTo_take_ex (i:=6) 70 rfl rfl (by kernel_rfl) (by kernel_rfl) (by kernel_rfl) (by kernel_rfl) (fun _ _ _ _ h=>h) (by kernel_rfl) hH ?_
   apply Exists.intro;apply And.intro
   ·intro w9 h9
    go_simp
    first | done | rfl
   simp only [sA,sB,sC];refine heldTo_take_ex (i:=7) 71 rfl rfl (by kernel_rfl) (by kernel_rfl) (by kernel_rfl) (by kernel_rfl) (fun _ _ _ _ h=>h) (by kernel_rfl) hH ?_
   apply Exists.intro;apply And.intro
   ·intro w9 h9
    go_simp
    first | done | rfl
   simp only [sA,sB,sC];refine heldTo_take_ex (i:=8) 72 rfl rfl (by kernel_rfl) (by kernel_rfl) (by kernel_rfl) (by kernel_rfl) (fun _ _ _ _ h=>h) (by kernel_rfl) hH ?_
   apply Exists.intro;apply And.intro
   ·intro w9 h9
    go_simp
    first | done | rfl
   simp only [sA,sB,sC];refine heldTo_take_ex (i:=9) 73 rfl rfl (by kernel_rfl) (by kernel_rfl) (by kernel_rfl) (by kernel_rfl) (fun _ _ _ _ h=>h) (by kernel_rfl) hH ?_
   apply Exists.intro;apply And.intro
   ·intro w9 h9
    go_simp
    first | done | rfl
   simp only [sA,sB,sC];refine heldTo_take (i:=10) 74 (.int .i64 z) rfl rfl (by kernel_rfl) (by kernel_rfl) (by kernel_rfl) (by kernel_rfl) (fun _ _ _ h=>h) (yieldsIf_load_known (by kernel_rfl) 3 _ rfl (wg) (wo + i) rfl (.int .i64 z) (HLZ.out)) hH ?_
   simp only [sA,sB,sC];refine heldTo_one (i:=11) (by kernel_rfl) rfl (fun K hK=>?_)
   rw [if_pos (by rfl)]
   go_simp
   go_wp2_with (go_at_call 40; refine(HBE.out _).mono ?_; rintro e v1 ⟨rfl,q1⟩)
   have KS:Kept wA.heap.size wA.heap.size wA v1:=KD.onto q1;have Q1:=KS;refine hK.out _ _ KS (fun hH=>?_)
   clear hK K KS;refine heldTo_one (i:=12) (by kernel_rfl) rfl (fun K hK=>?_)
   rw [if_pos (by rfl)]
   go_simp
   go_wp2_with (go_at_call 39; refine(HHO3.out _ Q1).mono ?_; rintro e v2 ⟨rfl,q2⟩)
   have KS:Kept wA.heap.size wA.heap.size wA v2:=Q1.onto q2;have Q2:=KS;refine hK.out _ _ KS (fun hH=>?_)
   clear hK K KS;refine heldTo_one (i:=13) (by kernel_rfl) rfl (fun K hK=>?_)
   rw [if_pos (by rfl)]
   go_simp
   go_wp2_with (go_at_call 38; refine(HSB2.out _).mono ?_; rintro e v3 ⟨rfl,q3⟩)
   have KS:Kept wA.heap.size wA.heap.size wA v3:=Q2.onto q3;have Q3:=KS;refine hK.out _ _ KS (fun hH=>?_)
   clear hK K KS;refine heldTo_last (by kernel_rfl) rfl (fun K hK=>?_)
   rw [if_pos (by rfl)]
   have hz3:=row_kept ZA.out Q3;refine wp_store_row_none11 35 _ _ rfl rfl sb nd rfl rfl 35 sd hz3 HNI.out (by rw [HSD2.out,HNZ.out]) HNA.out ?_
   refine hK.out _ _ ?_;clear hK K;have g12:=grown_setRow v3 sb nd;have ZB:=hid (setRow_heap v3 sb _ nd _ _ hz3);have MB:=hid ((MA.out.kept Q3).aside (b:=sb) (.inr rfl) g12);have BB:=hid ((g12.block mb (lt_of_block (row_kept BA.out Q3)) (fun e=>HMS.out (Option.some.inj e))).trans (row_kept BA.out Q3))
   have KWB:=hid ((KWA.out.onto Q3).grown g12 (KWA.out.onto Q3).size (fun q e=>by cases e; rw [← HSZ5.out]; exact HSB.out))
   rw [HND.out] at ZB;clear hz3 g12;rw [← HND.out] at ZB;generalize v3.setRow sb nd = wB at ZB MB BB KWB ⊢;refine heldTo_done (by kernel_rfl) ?_ _
   refine NoPanic.normal ?_;clear hH;clear HLK2 HLS HLB HLZ HHO3 KD Q1 Q2 Q3 q1 q2 q3 BA ZA MA KWA K9;rw [HND.out,← HSX9.out] at ZB;have hi9:i < m:=HLT.out;have hm9:=HM9.out
   have hw64:IntKind.i64.wrap ((i:Int) - 1) = (i:Int) - 1:=by
    rcases Nat.eq_zero_or_pos i with h0 | h0
    ·rw [h0]; rfl
    ·exact wrap_small _ (by omega) (by omega)
   go_wp2
   go_roundw
   case rel=>exact⟨i,(i:Int) - 1,_,(by have h1:=HM9.out; have h2:=HLT.out; go_num),hid rfl,hid (Nat.le_of_lt HLT.out),MB,BB,ZB,KWB⟩
   case measure=>have h1:=HM9.out; have h2:=HLT.out; first | (simp [RowKit.intOf]; done) | (simp [RowKit.intOf]; omega)
def Bo.bes (n a:Nat):Bool:=
 let D:=Bo.ups n ((2 * a:Nat):Int)
 (List.range D.length).all fun j=>let b:=Bo.Beside n (Tt.wayX D (a:Int) j); decide (0≤b) && Nat.ble b.toNat (2 * n - 2)
theorem Bo.bes_1:((List.range' 0 36).all fun n=>(List.range n).all fun a=>Bo.bes n a) = true:=by decide +kernel
theorem Bo.bes_2:((List.range' 36 10).all fun n=>(List.range n).all fun a=>Bo.bes n a) = true:=by decide +kernel
theorem Bo.bes_3:((List.range' 46 7).all fun n=>(List.range n).all fun a=>Bo.bes n a) = true:=by decide +kernel
theorem Bo.bes_4:((List.range' 53 6).all fun n=>(List.range n).all fun a=>Bo.bes n a) = true:=by decide +kernel
theorem Bo.bes_5:((List.range' 59 6).all fun n=>(List.range n).all fun a=>Bo.bes n a) = true:=by decide +kernel
theorem Bo.bes_all {n a:Nat}(hn:n≤64)(ha:a < n):Bo.bes n a = true:=by
 have key:∀ s l,((List.range' s l).all fun n=>(List.range n).all fun a=>Bo.bes n a) = true→s≤n→n < s + l→Bo.bes n a = true:=fun s l h h1 h2=>
  List.all_eq_true.1 (List.all_eq_true.1 h n (List.mem_range'_1.2 ⟨h1,h2⟩)) a (List.mem_range.2 ha)
 by_cases h1:n < 36
 ·exact key _ _ Bo.bes_1 (Nat.zero_le _) (by omega)
 by_cases h2:n < 46
 ·exact key _ _ Bo.bes_2 (by omega) (by omega)
 by_cases h3:n < 53
 ·exact key _ _ Bo.bes_3 (by omega) (by omega)
 by_cases h4:n < 59
 ·exact key _ _ Bo.bes_4 (by omega) (by omega)
 exact key _ _ Bo.bes_5 (by omega) (by omega)
theorem Bo.beside_in {n a:Nat}(hn:n≤64)(ha:a < n)(j:Nat)(hj:j < (Bo.Direct (n:Int) (a:Int)).length):∃ b:Nat,Bo.Beside (n:Int) (Tt.wayX (Bo.Direct (n:Int) (a:Int)) (a:Int) j) = (b:Int)∧Bo.In 0 n b:=by
 have hD:Bo.Direct (n:Int) (a:Int) = Bo.ups n ((2 * a:Nat):Int):=by
  unfold Bo.Direct;rw [if_pos (by simp [Bo.leaf]; omega),show(2:Int) * (a:Int) = ((2 * a:Nat):Int) by omega]
 rw [hD] at hj ⊢;have h:=List.all_eq_true.1 (Bo.bes_all hn ha) j (List.mem_range.2 hj);simp only [Bool.and_eq_true,decide_eq_true_eq,Nat.ble_eq] at h;exact⟨_,(Int.toNat_of_nonneg h.1).symm,by omega,by omega,by omega⟩
theorem path_any (lv pv:Value)(L:List Lf)(P:List Pr)(x:Int)(pub:List UInt8)(hpub:pub.length = 32)(kv:Value)(ks:List (List UInt8))(w:World)(hL:Lvs w lv L)(hP:Pts w pv P)(hpl:∀ p∈P,p.loose.length≤1000)(hr:Tt.right L P = true)(hK:Hs w kv ks)(htab:Tab w):
  Calls Tryz.prog 14 #[.agg #[lv,pv],.int .i64 x,.agg (bcells pub).toArray,kv] w fun e w'=>∃ lv' pv',e = .returned (.tuple #[.agg #[lv',pv'],.int .i64 (Tt.pathErr L x ks.length)])∧Kept w.heap.size w.heap.size w w'∧∃ SL,Mine (fun k=>k < w.heap.size) w' lv' pv' (Tt.pathL L P x pub ks) (Tt.pathP L P x ks) SL:=by
 have hF:=Tt.fine_of hr;obtain⟨h64,hpe,_⟩:=Tt.right_parts hr;have hn:L.length≤1000:=by omega
 have hp:P.length≤1000:=by omega
 cases hno:Tt.none L x with
 | true=>
  have he:Tt.pathErr L x ks.length = 7:=by unfold Tt.pathErr; rw [hno]; rfl
  refine(path_none lv pv L P x pub hpub kv w hL hP hn hp hpl (by rw [Tt.none_lacks hr,Tt.noneErr,hno]; rfl)).mono ?_
  rintro e w' ⟨rfl,k⟩;refine⟨_,_,by rw [he],k,[],?_⟩
  have hm:=Mine.empty (fun k=>k < w.heap.size) w' (fun j hj=>Nat.lt_of_lt_of_le hj k.size)
  unfold Tt.pathL Tt.pathP;rw [he];exact hm
 | false=>
  obtain⟨k,rfl,hk⟩:=Tt.none_not hno
  by_cases hle:(Bo.Direct (L.length:Int) (k:Int)).length = ks.length
  ·have he:Tt.pathErr L (k:Int) ks.length = 0:=by unfold Tt.pathErr Tt.pathWay; rw [hno,hle]; simp
   obtain⟨ws,hws⟩:∃ ws,ws = Bo.Direct (L.length:Int) (k:Int):=⟨_,rfl⟩;have hm9:ws.length≤66:=by rw [hws]; exact Bo.direct_len66 _ _
   have hpos:∀ i (h:i < ws.length),0≤ws[i]∧ws[i].toNat / 2 < P.length:=fun i h=>by
    obtain⟨q,h1,h2⟩:=Bo.direct_odd (n:=L.length) (a:=(k:Int)) (y:=ws[i]) (by rw [← hws]; exact List.getElem_mem h)
    omega
   have hbs:=fun j (hj:j < ws.length)=>Bo.beside_in h64 hk j (by rw [← hws]; exact hj)
   rw [← hws] at hbs;have hHl:∀ j,(Tt.sideH L P ws (k:Int) j).length = 32:=fun j=>Tt.hashNode_len L P _ (by omega)
   refine(path_ok lv pv L P k pub hpub kv ks ws (fun j=>Bo.Beside (L.length:Int) (Tt.wayX ws (k:Int) j)) (Tt.sideH L P ws (k:Int)) ws.length w hL hP hn hp hpl hK htab hk (by rw [Tt.none_lacks hr,Tt.noneErr,hno]; rfl) hws.symm rfl (by rw [hws]; exact hle.symm) hm9 hpos hHl (fun j _ u=>beside_calls lenIs _ _ u) (fun j hj u ht hl hp2=>?_)).mono ?_
   ·obtain⟨b,h1,h2⟩:=hbs j hj
    have h3:=hashof_node lv pv L P hF b h2 u hl hp2 ht;show Calls _ _ #[_,.int .i64 (Bo.Beside (L.length:Int) (Tt.wayX ws (k:Int) j))] _ (fun e u'=>e = .returned (.agg (bcells (Tt.hashNode L P (Bo.Beside L.length (Tt.wayX ws (k:Int) j)).toNat)).toArray)∧_)
    rw [h1,Int.toNat_natCast];exact h3
   ·rintro e w' ⟨lv',pv',rfl,hkk,SL,hm⟩
    refine⟨lv',pv',by rw [he],hkk,SL,?_⟩
    unfold Tt.pathL Tt.pathP Tt.pathWay;rw [he,Int.toNat_natCast,List.getElem?_eq_getElem hk,← hws];rw [show Tt.down ws ks (Tt.sideH L P ws (k:Int)) P 0 = Tt.upto ws ks (Tt.sideH L P ws (k:Int)) P ws.length by rw [hws]; exact Tt.down_upto h64 hk ks _ P] at hm
    exact hm
  ·have he:Tt.pathErr L (k:Int) ks.length = 16:=by unfold Tt.pathErr Tt.pathWay; rw [hno,if_neg (by simp),if_neg hle]
   obtain⟨_,kad,kg,ko,kc,rfl,_⟩:=hK;refine(path_bad lv pv L P (k:Int) pub hpub kad ks.length kc w hL hP hn hp hpl (by rw [Tt.none_lacks hr,Tt.noneErr,hno]; rfl) (by omega) (by omega) hle).mono ?_
   rintro e w' ⟨rfl,k⟩;refine⟨_,_,by rw [he],k,[],?_⟩
   have hm:=Mine.empty (fun k=>k < w.heap.size) w' (fun j hj=>Nat.lt_of_lt_of_le hj k.size)
   unfold Tt.pathL Tt.pathP;rw [he];exact hm
end Go.Proofs.YtaobiofngnfdiaaGreatDoor
