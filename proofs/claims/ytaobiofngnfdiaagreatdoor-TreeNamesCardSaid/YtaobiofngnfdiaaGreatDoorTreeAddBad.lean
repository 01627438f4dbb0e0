/-
 Add where it refuses.
-/
import Derived.Test.YtaobiofngnfdiaaGreatDoorHA
import Derived.Test.YtaobiofngnfdiaaGreatDoorHD
import Derived.Test.YtaobiofngnfdiaaGreatDoorTreeSame
set_option maxRecDepth 100000
set_option maxHeartbeats 6400000
namespace Go.Proofs.YtaobiofngnfdiaaGreatDoor
open Go.RowKit Go.Lib
open List renaming setIfInBounds_toArray → sA, set_cons_zero → sB, set_cons_succ → sC
open BigFrame renaming wpList_want → wQ
theorem add_bad1 (lv pv:Value)(L:List Lf)(P:List Pr)(l:Lf)(w:World)(hL:Lvs w lv L)(hP:Pts w pv P)(hn:L.length≤1000)(hp:P.length≤1000)(hpl:∀ p∈P,p.loose.length≤1000)(hlo:l.Ok)(hr:Tt.right L P = true)(hnn:(decide (1≤l.name) && decide (l.name≤64)) = false):
  Calls Tryz.prog 11 #[.agg #[lv,pv],.agg l.cells.toArray] w fun e w'=>e = .returned (.tuple #[.agg #[.slice none 0 0,.slice none 0 0],.int .i64 0,.int .i64 1])∧Kept w.heap.size w.heap.size w w':=by
 have HRR:=hid (fun(x:World) (k:Kept w.heap.size w.heap.size w x)=>right_calls8 lv pv L P x (hL.kept k) (hP.kept k) hn hp hpl)
 rw [hr] at HRR;clear hr;have HIN:=hid (fun x=>(isname_calls l.name x).mono (fun e w' h=>show e = .returned (.bool false)∧Kept x.heap.size x.heap.size x w' from⟨by rw [h.1,hnn],kept_same h.2⟩))
 clear hnn;obtain⟨lad,lc,rfl⟩:=hL.shape;obtain⟨pad,pc,rfl⟩:=hP.shape;obtain⟨ln,hln⟩:∃ ln,ln = L.length:=⟨_,rfl⟩;obtain⟨pn,hpn⟩:∃ pn,pn = P.length:=⟨_,rfl⟩;obtain⟨nm,hnm⟩:∃ nm,nm = l.name:=⟨_,rfl⟩;rw [← hln,← hpn] at HRR ⊢;rw [← hnm] at HIN;have hln9:(ln:Int)≤1000:=by omega
 have HLN:=hid hln;have HPN:=hid hpn;have HOK:=hid hlo;have hlsz:=Lf.size hlo;have hlal:=l.all;have hD0:l.cells.toArray[0]? = some (.int .i64 nm):=by rw [hnm]; exact l.at_name
 obtain⟨D,hD⟩:∃ D,D = l.cells.toArray:=⟨_,rfl⟩;rw [← hD] at hlsz hlal hD0 ⊢;have HDE:=hid hD;have HSZ:=hid hlsz;have HAL:=hid hlal;clear hL hP hn hp hpl hlo hln hpn hnm hlsz hlal hD;have k1:=kA w (.cells #[.slice lad ln lc,.slice pad pn pc] 27)
 have t1:=heap_new w (.cells #[.slice lad ln lc,.slice pad pn pc] 27)
 have s1:(w.alloc (.cells #[.slice lad ln lc,.slice pad pn pc] 27)).heap.size = w.heap.size + 1:=by simp
 go_enter Tryz.func11,Tryz.ntmps11
 go_upto_region 1 with fail
 generalize w.alloc (.cells #[.slice lad ln lc,.slice pad pn pc] 27) = wa at k1 t1 s1 ⊢
 have k2:=kA wa (.cells D 37)
 have e2:=heap_new wa (.cells D 37)
 have s2:(wa.alloc (.cells D 37)).heap.size = wa.heap.size + 1:=by simp
 have t2:=rk t1 k2;generalize wa.alloc (.cells D 37) = wb at k2 e2 s2 t2 ⊢
 have k3:=kA wb (.cells #[.slice none 0 0,.slice none 0 0] 27)
 have r3:=heap_new wb (.cells #[.slice none 0 0,.slice none 0 0] 27)
 have s3:(wb.alloc (.cells #[.slice none 0 0,.slice none 0 0] 27)).heap.size = wb.heap.size + 1:=by simp
 have t3:=rk t2 k3;have e3:=rk e2 k3;generalize wb.alloc (.cells #[.slice none 0 0,.slice none 0 0] 27) = w1 at k3 r3 s3 t3 e3 ⊢
 have K1:=hid ((k1.next1 k2).next1 k3);rw [s2,s1] at r3 s3;rw [s1] at e3
 (try rw [s2])
 (try rw [s1])
 obtain⟨tb,htb⟩:∃ tb,tb = w.heap.size:=⟨_,rfl⟩;obtain⟨lb,hlb⟩:∃ lb,lb = w.heap.size + 1:=⟨_,rfl⟩;obtain⟨rb,hrb⟩:∃ rb,rb = w.heap.size + 1 + 1:=⟨_,rfl⟩;rw [← hrb] at r3
 (try rw [← hrb])
 rw [← hlb] at e3
 (try rw [← hlb])
 rw [← htb] at t3
 (try rw [← htb])
 have HTR:=hid (show tb≠rb by omega)
 have HTL:=hid (show tb≠lb by omega)
 have HTB:=hid (show ¬ tb < w.heap.size by omega)
 have HRB:=hid (show ¬ rb < w.heap.size by omega)
 have HWS:=hid (show w.heap.size≤w1.heap.size by omega)
 have T1:=hid t3;have E1:=hid e3;have R1:=hid r3;have c0:w1.cell? ⟨lb,0,none⟩ = some (.int .i64 nm):=by rw [cell_of_row w1 lb 0 _ _ _ E1.out]; exact hD0
 clear k1 t1 s1 k2 e2 s2 t2 k3 r3 s3 t3 e3 htb hlb hrb;refine wp_region_lit ?_;refine @wpList_load_known _ _ _ _ _ _ _ ?_ 27 (.tmp 2) rfl (tb) (0) rfl (.agg #[.slice lad ln lc,.slice pad pn pc]) (run_loadVar_row w1 tb 27 27 _ (0,0) _ T1.out Tryz.underlying27 rfl treeInfo) ?_;kernel_rfl
 simp only [Act.put,sA,sB,sC];refine @wQ _ _ _ _ _ _ _ ?_ ?_;kernel_rfl;intro K hK;go_simp;go_at_call 9
 refine(HRR.out _ K1.out).mono ?_;rintro e w2 ⟨rfl,k2⟩;have K2:=hid (K1.out.next1 k2);have T2:=hid (rk T1.out k2);have R2:=hid (rk R1.out k2);have E2:=hid (rk E1.out k2);clear k2;clear c0;have c0:w2.cell? ⟨lb,0,none⟩ = some (.int .i64 nm):=by rw [cell_of_row w2 lb 0 _ _ _ E2.out]; exact hD0
 refine hK _ _ ?_;clear hK K;iterate 4 (refine @wQ _ _ _ _ _ _ _ ?_ ?_;kernel_rfl;intro K hK;go_simp;refine hK _ _ ?_;clear hK K)
 refine @wQ _ _ _ _ _ _ _ ?_ ?_;kernel_rfl;intro K hK;go_simp;go_at_call 30
 refine(HIN.out _).mono ?_;rintro e w3 ⟨rfl,k3⟩;have K3:=hid (K2.out.next1 k3);have T3:=hid (rk T2.out k3);have R3:=hid (rk R2.out k3);have E3:=hid (rk E2.out k3);clear k3;clear c0;have c0:w3.cell? ⟨lb,0,none⟩ = some (.int .i64 nm):=by rw [cell_of_row w3 lb 0 _ _ _ E3.out]; exact hD0
 refine hK _ _ ?_;clear hK K;iterate 2 (refine @wQ _ _ _ _ _ _ _ ?_ ?_;kernel_rfl;intro K hK;go_simp;refine hK _ _ ?_;clear hK K)
 clear c0
 go_upto_region 2 with fail
 refine wp_region_lit ?_;refine @wpL_build0 _ _ _ _ _ _ _ ?_ 27 rfl _ (build_tree0 _) ?_;kernel_rfl
 simp only [Act.put,sA,sB,sC];refine wpList_store_row rfl 27 _ _ rfl (rb) #[.slice none 0 0,.slice none 0 0] rfl rfl 27 #[.slice none 0 0,.slice none 0 0] R3.out treeInfo rfl (tree_all _ _ _ _ _ _) ?_
 simp only [Act.put];iterate 2 (refine @wQ _ _ _ _ _ _ _ ?_ ?_;kernel_rfl;intro K hK;go_simp;refine hK _ _ ?_;clear hK K)
 have RZ:=setRow_heap w3 rb _ #[.slice none 0 0,.slice none 0 0] _ _ R3.out;have KZ:=hid (K3.out.grown (grown_setRow w3 rb #[.slice none 0 0,.slice none 0 0]) K3.out.size (fun k e=>by cases e; exact Nat.le_of_not_lt HRB.out))
 generalize w3.setRow rb #[.slice none 0 0,.slice none 0 0] = wz at RZ KZ ⊢;go_wp2;refine bodyPost_ret (results_row3 rfl _ _ rb 27 _ (0,0) _ rfl RZ Tryz.underlying27 rfl treeInfo) rfl ?_
 exact⟨rfl,KZ.out⟩
theorem add_bad8 (lv pv:Value)(L:List Lf)(P:List Pr)(l:Lf)(w:World)(hL:Lvs w lv L)(hP:Pts w pv P)(hn:L.length≤1000)(hp:P.length≤1000)(hpl:∀ p∈P,p.loose.length≤1000)(hlo:l.Ok)(hr:Tt.right L P = true)(hnn:(decide (1≤l.name) && decide (l.name≤64)) = true)(hix:0≤Tt.index L l.name):
  Calls Tryz.prog 11 #[.agg #[lv,pv],.agg l.cells.toArray] w fun e w'=>e = .returned (.tuple #[.agg #[.slice none 0 0,.slice none 0 0],.int .i64 0,.int .i64 8])∧Kept w.heap.size w.heap.size w w':=by
 have hpla:Tt.place L P l.name = Tt.index L l.name:=by
  unfold Tt.place;rw [hr,hnn]
  rfl
 have HPL:=hid (fun(x:World) (k:Kept w.heap.size w.heap.size w x)=>place_calls8 lv pv L P l.name x (hL.kept k) (hP.kept k) hn hp hpl)
 rw [hpla] at HPL;have HRR:=hid (fun(x:World) (k:Kept w.heap.size w.heap.size w x)=>right_calls8 lv pv L P x (hL.kept k) (hP.kept k) hn hp hpl)
 rw [hr] at HRR;clear hr;have HIN:=hid (fun x=>(isname_calls l.name x).mono (fun e w' h=>show e = .returned (.bool true)∧Kept x.heap.size x.heap.size x w' from⟨by rw [h.1,hnn],kept_same h.2⟩))
 obtain⟨pl,hpe⟩:∃ pl,pl = Tt.index L l.name:=⟨_,rfl⟩;rw [← hpe] at HPL hix;clear hpla hnn hpe;obtain⟨lad,lc,rfl⟩:=hL.shape;obtain⟨pad,pc,rfl⟩:=hP.shape;obtain⟨ln,hln⟩:∃ ln,ln = L.length:=⟨_,rfl⟩;obtain⟨pn,hpn⟩:∃ pn,pn = P.length:=⟨_,rfl⟩;obtain⟨nm,hnm⟩:∃ nm,nm = l.name:=⟨_,rfl⟩;rw [← hln,← hpn] at HRR HPL ⊢;rw [← hnm] at HIN HPL;have hln9:(ln:Int)≤1000:=by omega
 have HLN:=hid hln;have HPN:=hid hpn;have HOK:=hid hlo;have hlsz:=Lf.size hlo;have hlal:=l.all;have hD0:l.cells.toArray[0]? = some (.int .i64 nm):=by rw [hnm]; exact l.at_name
 obtain⟨D,hD⟩:∃ D,D = l.cells.toArray:=⟨_,rfl⟩;rw [← hD] at hlsz hlal hD0 ⊢;have HDE:=hid hD;have HSZ:=hid hlsz;have HAL:=hid hlal;clear hL hP hn hp hpl hlo hln hpn hnm hlsz hlal hD;have k1:=kA w (.cells #[.slice lad ln lc,.slice pad pn pc] 27)
 have t1:=heap_new w (.cells #[.slice lad ln lc,.slice pad pn pc] 27)
 have s1:(w.alloc (.cells #[.slice lad ln lc,.slice pad pn pc] 27)).heap.size = w.heap.size + 1:=by simp
 go_enter Tryz.func11,Tryz.ntmps11
 go_upto_region 1 with fail
 generalize w.alloc (.cells #[.slice lad ln lc,.slice pad pn pc] 27) = wa at k1 t1 s1 ⊢
 have k2:=kA wa (.cells D 37)
 have e2:=heap_new wa (.cells D 37)
 have s2:(wa.alloc (.cells D 37)).heap.size = wa.heap.size + 1:=by simp
 have t2:=rk t1 k2;generalize wa.alloc (.cells D 37) = wb at k2 e2 s2 t2 ⊢
 have k3:=kA wb (.cells #[.slice none 0 0,.slice none 0 0] 27)
 have r3:=heap_new wb (.cells #[.slice none 0 0,.slice none 0 0] 27)
 have s3:(wb.alloc (.cells #[.slice none 0 0,.slice none 0 0] 27)).heap.size = wb.heap.size + 1:=by simp
 have t3:=rk t2 k3;have e3:=rk e2 k3;generalize wb.alloc (.cells #[.slice none 0 0,.slice none 0 0] 27) = w1 at k3 r3 s3 t3 e3 ⊢
 have K1:=hid ((k1.next1 k2).next1 k3);rw [s2,s1] at r3 s3;rw [s1] at e3
 (try rw [s2])
 (try rw [s1])
 obtain⟨tb,htb⟩:∃ tb,tb = w.heap.size:=⟨_,rfl⟩;obtain⟨lb,hlb⟩:∃ lb,lb = w.heap.size + 1:=⟨_,rfl⟩;obtain⟨rb,hrb⟩:∃ rb,rb = w.heap.size + 1 + 1:=⟨_,rfl⟩;rw [← hrb] at r3
 (try rw [← hrb])
 rw [← hlb] at e3
 (try rw [← hlb])
 rw [← htb] at t3
 (try rw [← htb])
 have HTR:=hid (show tb≠rb by omega)
 have HTL:=hid (show tb≠lb by omega)
 have HTB:=hid (show ¬ tb < w.heap.size by omega)
 have HRB:=hid (show ¬ rb < w.heap.size by omega)
 have HWS:=hid (show w.heap.size≤w1.heap.size by omega)
 have T1:=hid t3;have E1:=hid e3;have R1:=hid r3;have c0:w1.cell? ⟨lb,0,none⟩ = some (.int .i64 nm):=by rw [cell_of_row w1 lb 0 _ _ _ E1.out]; exact hD0
 clear k1 t1 s1 k2 e2 s2 t2 k3 r3 s3 t3 e3 htb hlb hrb;refine wp_region_lit ?_;refine @wpList_load_known _ _ _ _ _ _ _ ?_ 27 (.tmp 2) rfl (tb) (0) rfl (.agg #[.slice lad ln lc,.slice pad pn pc]) (run_loadVar_row w1 tb 27 27 _ (0,0) _ T1.out Tryz.underlying27 rfl treeInfo) ?_;kernel_rfl
 simp only [Act.put,sA,sB,sC];refine @wQ _ _ _ _ _ _ _ ?_ ?_;kernel_rfl;intro K hK;go_simp;go_at_call 9
 refine(HRR.out _ K1.out).mono ?_;rintro e w2 ⟨rfl,k2⟩;have K2:=hid (K1.out.next1 k2);have T2:=hid (rk T1.out k2);have R2:=hid (rk R1.out k2);have E2:=hid (rk E1.out k2);clear k2;clear c0;have c0:w2.cell? ⟨lb,0,none⟩ = some (.int .i64 nm):=by rw [cell_of_row w2 lb 0 _ _ _ E2.out]; exact hD0
 refine hK _ _ ?_;clear hK K;iterate 4 (refine @wQ _ _ _ _ _ _ _ ?_ ?_;kernel_rfl;intro K hK;go_simp;refine hK _ _ ?_;clear hK K)
 refine @wQ _ _ _ _ _ _ _ ?_ ?_;kernel_rfl;intro K hK;go_simp;go_at_call 30
 refine(HIN.out _).mono ?_;rintro e w3 ⟨rfl,k3⟩;have K3:=hid (K2.out.next1 k3);have T3:=hid (rk T2.out k3);have R3:=hid (rk R2.out k3);have E3:=hid (rk E2.out k3);clear k3;clear c0;have c0:w3.cell? ⟨lb,0,none⟩ = some (.int .i64 nm):=by rw [cell_of_row w3 lb 0 _ _ _ E3.out]; exact hD0
 refine hK _ _ ?_;clear hK K;iterate 2 (refine @wQ _ _ _ _ _ _ _ ?_ ?_;kernel_rfl;intro K hK;go_simp;refine hK _ _ ?_;clear hK K)
 have hpge:pl≥0:=hix;have hpge2:(0:Int)≤pl:=hix;clear hix
 go_upto_region 3 with fail
 refine wp_region_lit ?_;refine @wpList_load_known _ _ _ _ _ _ _ ?_ 27 (.tmp 2) rfl (tb) (0) rfl (.agg #[.slice lad ln lc,.slice pad pn pc]) (run_loadVar_row w3 tb 27 27 _ (0,0) _ T3.out Tryz.underlying27 rfl treeInfo) ?_;kernel_rfl
 simp only [Act.put,sA,sB,sC];iterate 2 (refine @wQ _ _ _ _ _ _ _ ?_ ?_;kernel_rfl;intro K hK;go_simp;refine hK _ _ ?_;clear hK K)
 refine @wQ _ _ _ _ _ _ _ ?_ ?_;kernel_rfl;intro K hK;go_simp;go_at_call 22
 refine(HPL.out _ K3.out).mono ?_;rintro e w4 ⟨rfl,k4⟩;have K4:=hid (K3.out.next1 k4);have T4:=hid (rk T3.out k4);have R4:=hid (rk R3.out k4);have E4:=hid (rk E3.out k4);clear k4;clear c0;refine hK _ _ ?_;clear hK K;refine @wQ _ _ _ _ _ _ _ ?_ ?_;kernel_rfl;intro K hK;go_simp;refine hK _ _ ?_;clear hK K
 go_upto_region 4 with fail
 refine wp_region_lit ?_;refine @wpL_build0 _ _ _ _ _ _ _ ?_ 27 rfl _ (build_tree0 _) ?_;kernel_rfl
 simp only [Act.put,sA,sB,sC];refine wpList_store_row rfl 27 _ _ rfl (rb) #[.slice none 0 0,.slice none 0 0] rfl rfl 27 #[.slice none 0 0,.slice none 0 0] R4.out treeInfo rfl (tree_all _ _ _ _ _ _) ?_
 simp only [Act.put];iterate 2 (refine @wQ _ _ _ _ _ _ _ ?_ ?_;kernel_rfl;intro K hK;go_simp;refine hK _ _ ?_;clear hK K)
 have RZ:=setRow_heap w4 rb _ #[.slice none 0 0,.slice none 0 0] _ _ R4.out;have KZ:=hid (K4.out.grown (grown_setRow w4 rb #[.slice none 0 0,.slice none 0 0]) K4.out.size (fun k e=>by cases e; exact Nat.le_of_not_lt HRB.out))
 generalize w4.setRow rb #[.slice none 0 0,.slice none 0 0] = wz at RZ KZ ⊢;go_wp2;refine bodyPost_ret (results_row3 rfl _ _ rb 27 _ (0,0) _ rfl RZ Tryz.underlying27 rfl treeInfo) rfl ?_
 exact⟨rfl,KZ.out⟩
theorem add_bad9 (lv pv:Value)(L:List Lf)(P:List Pr)(l:Lf)(w:World)(hL:Lvs w lv L)(hP:Pts w pv P)(hn:L.length≤1000)(hp:P.length≤1000)(hpl:∀ p∈P,p.loose.length≤1000)(hlo:l.Ok)(hr:Tt.right L P = true)(hnn:(decide (1≤l.name) && decide (l.name≤64)) = true)(hix:Tt.index L l.name = -1)(hfb:Tt.firstBlank L = 64):
  Calls Tryz.prog 11 #[.agg #[lv,pv],.agg l.cells.toArray] w fun e w'=>e = .returned (.tuple #[.agg #[.slice none 0 0,.slice none 0 0],.int .i64 0,.int .i64 9])∧Kept w.heap.size w.heap.size w w':=by
 have hpla:Tt.place L P l.name = Tt.index L l.name:=by
  unfold Tt.place;rw [hr,hnn]
  rfl
 have HPL:=hid (fun(x:World) (k:Kept w.heap.size w.heap.size w x)=>place_calls8 lv pv L P l.name x (hL.kept k) (hP.kept k) hn hp hpl)
 rw [hpla] at HPL;have HRR:=hid (fun(x:World) (k:Kept w.heap.size w.heap.size w x)=>right_calls8 lv pv L P x (hL.kept k) (hP.kept k) hn hp hpl)
 rw [hr] at HRR;clear hr;have HIN:=hid (fun x=>(isname_calls l.name x).mono (fun e w' h=>show e = .returned (.bool true)∧Kept x.heap.size x.heap.size x w' from⟨by rw [h.1,hnn],kept_same h.2⟩))
 rw [hix] at HPL;have HFB:=hid (fun(x:World) (k:Kept w.heap.size w.heap.size w x)=>firstblank_calls lv L x (hL.kept k) hn)
 rw [hfb] at HFB;clear hpla hnn hix hfb;obtain⟨lad,lc,rfl⟩:=hL.shape;obtain⟨pad,pc,rfl⟩:=hP.shape;obtain⟨ln,hln⟩:∃ ln,ln = L.length:=⟨_,rfl⟩;obtain⟨pn,hpn⟩:∃ pn,pn = P.length:=⟨_,rfl⟩;obtain⟨nm,hnm⟩:∃ nm,nm = l.name:=⟨_,rfl⟩;rw [← hln,← hpn] at HRR HPL ⊢;rw [← hln] at HFB;rw [← hnm] at HIN HPL;have hln9:(ln:Int)≤1000:=by omega
 have HLN:=hid hln;have HPN:=hid hpn;have HOK:=hid hlo;have hlsz:=Lf.size hlo;have hlal:=l.all;have hD0:l.cells.toArray[0]? = some (.int .i64 nm):=by rw [hnm]; exact l.at_name
 obtain⟨D,hD⟩:∃ D,D = l.cells.toArray:=⟨_,rfl⟩;rw [← hD] at hlsz hlal hD0 ⊢;have HDE:=hid hD;have HSZ:=hid hlsz;have HAL:=hid hlal;clear hL hP hn hp hpl hlo hln hpn hnm hlsz hlal hD;have k1:=kA w (.cells #[.slice lad ln lc,.slice pad pn pc] 27)
 have t1:=heap_new w (.cells #[.slice lad ln lc,.slice pad pn pc] 27)
 have s1:(w.alloc (.cells #[.slice lad ln lc,.slice pad pn pc] 27)).heap.size = w.heap.size + 1:=by simp
 go_enter Tryz.func11,Tryz.ntmps11
 go_upto_region 1 with fail
 generalize w.alloc (.cells #[.slice lad ln lc,.slice pad pn pc] 27) = wa at k1 t1 s1 ⊢
 have k2:=kA wa (.cells D 37)
 have e2:=heap_new wa (.cells D 37)
 have s2:(wa.alloc (.cells D 37)).heap.size = wa.heap.size + 1:=by simp
 have t2:=rk t1 k2;generalize wa.alloc (.cells D 37) = wb at k2 e2 s2 t2 ⊢
 have k3:=kA wb (.cells #[.slice none 0 0,.slice none 0 0] 27)
 have r3:=heap_new wb (.cells #[.slice none 0 0,.slice none 0 0] 27)
 have s3:(wb.alloc (.cells #[.slice none 0 0,.slice none 0 0] 27)).heap.size = wb.heap.size + 1:=by simp
 have t3:=rk t2 k3;have e3:=rk e2 k3;generalize wb.alloc (.cells #[.slice none 0 0,.slice none 0 0] 27) = w1 at k3 r3 s3 t3 e3 ⊢
 have K1:=hid ((k1.next1 k2).next1 k3);rw [s2,s1] at r3 s3;rw [s1] at e3
 (try rw [s2])
 (try rw [s1])
 obtain⟨tb,htb⟩:∃ tb,tb = w.heap.size:=⟨_,rfl⟩;obtain⟨lb,hlb⟩:∃ lb,lb = w.heap.size + 1:=⟨_,rfl⟩;obtain⟨rb,hrb⟩:∃ rb,rb = w.heap.size + 1 + 1:=⟨_,rfl⟩;rw [← hrb] at r3
 (try rw [← hrb])
 rw [← hlb] at e3
 (try rw [← hlb])
 rw [← htb] at t3
 (try rw [← htb])
 have HTR:=hid (show tb≠rb by omega)
 have HTL:=hid (show tb≠lb by omega)
 have HTB:=hid (show ¬ tb < w.heap.size by omega)
 have HRB:=hid (show ¬ rb < w.heap.size by omega)
 have HWS:=hid (show w.heap.size≤w1.heap.size by omega)
 have T1:=hid t3;have E1:=hid e3;have R1:=hid r3;have c0:w1.cell? ⟨lb,0,none⟩ = some (.int .i64 nm):=by rw [cell_of_row w1 lb 0 _ _ _ E1.out]; exact hD0
 clear k1 t1 s1 k2 e2 s2 t2 k3 r3 s3 t3 e3 htb hlb hrb;refine wp_region_lit ?_;refine @wpList_load_known _ _ _ _ _ _ _ ?_ 27 (.tmp 2) rfl (tb) (0) rfl (.agg #[.slice lad ln lc,.slice pad pn pc]) (run_loadVar_row w1 tb 27 27 _ (0,0) _ T1.out Tryz.underlying27 rfl treeInfo) ?_;kernel_rfl
 simp only [Act.put,sA,sB,sC];refine @wQ _ _ _ _ _ _ _ ?_ ?_;kernel_rfl;intro K hK;go_simp;go_at_call 9
 refine(HRR.out _ K1.out).mono ?_;rintro e w2 ⟨rfl,k2⟩;have K2:=hid (K1.out.next1 k2);have T2:=hid (rk T1.out k2);have R2:=hid (rk R1.out k2);have E2:=hid (rk E1.out k2);clear k2;clear c0;have c0:w2.cell? ⟨lb,0,none⟩ = some (.int .i64 nm):=by rw [cell_of_row w2 lb 0 _ _ _ E2.out]; exact hD0
 refine hK _ _ ?_;clear hK K;iterate 4 (refine @wQ _ _ _ _ _ _ _ ?_ ?_;kernel_rfl;intro K hK;go_simp;refine hK _ _ ?_;clear hK K)
 refine @wQ _ _ _ _ _ _ _ ?_ ?_;kernel_rfl;intro K hK;go_simp;go_at_call 30
 refine(HIN.out _).mono ?_;rintro e w3 ⟨rfl,k3⟩;have K3:=hid (K2.out.next1 k3);have T3:=hid (rk T2.out k3);have R3:=hid (rk R2.out k3);have E3:=hid (rk E2.out k3);clear k3;clear c0;have c0:w3.cell? ⟨lb,0,none⟩ = some (.int .i64 nm):=by rw [cell_of_row w3 lb 0 _ _ _ E3.out]; exact hD0
 refine hK _ _ ?_;clear hK K;iterate 2 (refine @wQ _ _ _ _ _ _ _ ?_ ?_;kernel_rfl;intro K hK;go_simp;refine hK _ _ ?_;clear hK K)
 go_upto_region 3 with fail
 refine wp_region_lit ?_;refine @wpList_load_known _ _ _ _ _ _ _ ?_ 27 (.tmp 2) rfl (tb) (0) rfl (.agg #[.slice lad ln lc,.slice pad pn pc]) (run_loadVar_row w3 tb 27 27 _ (0,0) _ T3.out Tryz.underlying27 rfl treeInfo) ?_;kernel_rfl
 simp only [Act.put,sA,sB,sC];iterate 2 (refine @wQ _ _ _ _ _ _ _ ?_ ?_;kernel_rfl;intro K hK;go_simp;refine hK _ _ ?_;clear hK K)
 refine @wQ _ _ _ _ _ _ _ ?_ ?_;kernel_rfl;intro K hK;go_simp;go_at_call 22
 refine(HPL.out _ K3.out).mono ?_;rintro e w4 ⟨rfl,k4⟩;have K4:=hid (K3.out.next1 k4);have T4:=hid (rk T3.out k4);have R4:=hid (rk R3.out k4);have E4:=hid (rk E3.out k4);clear k4;clear c0;refine hK _ _ ?_;clear hK K;refine @wQ _ _ _ _ _ _ _ ?_ ?_;kernel_rfl;intro K hK;go_simp;refine hK _ _ ?_;clear hK K;have t0:=two_cell0 T4.out
 go_upto_region 5 with fail
 refine wp_region_lit ?_;iterate 2 (refine @wQ _ _ _ _ _ _ _ ?_ ?_;kernel_rfl;intro K hK;go_simp;refine hK _ _ ?_;clear hK K)
 refine @wQ _ _ _ _ _ _ _ ?_ ?_;kernel_rfl;intro K hK;go_simp;go_at_call 31
 refine(HFB.out _ K4.out).mono ?_;rintro e w5 ⟨rfl,k5⟩;have K5:=hid (K4.out.next1 k5);have T5:=hid (rk T4.out k5);have R5:=hid (rk R4.out k5);have E5:=hid (rk E4.out k5);clear k5;clear t0;refine hK _ _ ?_;clear hK K;refine @wQ _ _ _ _ _ _ _ ?_ ?_;kernel_rfl;intro K hK;go_simp;refine hK _ _ ?_;clear hK K
 go_upto_region 6 with fail
 refine wp_region_lit ?_;iterate 2 (refine @wQ _ _ _ _ _ _ _ ?_ ?_;kernel_rfl;intro K hK;go_simp;refine hK _ _ ?_;clear hK K)
 go_upto_region 7 with fail
 refine wp_region_lit ?_;refine @wpL_build0 _ _ _ _ _ _ _ ?_ 27 rfl _ (build_tree0 _) ?_;kernel_rfl
 simp only [Act.put,sA,sB,sC];refine wpList_store_row rfl 27 _ _ rfl (rb) #[.slice none 0 0,.slice none 0 0] rfl rfl 27 #[.slice none 0 0,.slice none 0 0] R5.out treeInfo rfl (tree_all _ _ _ _ _ _) ?_
 simp only [Act.put];iterate 2 (refine @wQ _ _ _ _ _ _ _ ?_ ?_;kernel_rfl;intro K hK;go_simp;refine hK _ _ ?_;clear hK K)
 have RZ:=setRow_heap w5 rb _ #[.slice none 0 0,.slice none 0 0] _ _ R5.out;have KZ:=hid (K5.out.grown (grown_setRow w5 rb #[.slice none 0 0,.slice none 0 0]) K5.out.size (fun k e=>by cases e; exact Nat.le_of_not_lt HRB.out))
 generalize w5.setRow rb #[.slice none 0 0,.slice none 0 0] = wz at RZ KZ ⊢;go_wp2;refine bodyPost_ret (results_row3 rfl _ _ rb 27 _ (0,0) _ rfl RZ Tryz.underlying27 rfl treeInfo) rfl ?_
 exact⟨rfl,KZ.out⟩
end Go.Proofs.YtaobiofngnfdiaaGreatDoor
