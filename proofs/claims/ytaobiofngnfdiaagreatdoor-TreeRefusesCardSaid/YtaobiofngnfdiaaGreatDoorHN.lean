/-
 TreeNotBad; TreeRefusesMath: several texts in one.
-/
import Derived.Test.YtaobiofngnfdiaaGreatDoorHL
import Derived.Test.YtaobiofngnfdiaaGreatDoorTreeAddBad
import Derived.Test.YtaobiofngnfdiaaGreatDoorTreeAddJoin
import Derived.Test.YtaobiofngnfdiaaGreatDoorTreeJoin
import Derived.Test.YtaobiofngnfdiaaGreatDoorHM
set_option maxRecDepth 100000
set_option maxHeartbeats 6400000
namespace Go.Proofs.YtaobiofngnfdiaaGreatDoor
open Go.RowKit Go.Lib
open List renaming setIfInBounds_toArray → sA, set_cons_zero → sB, set_cons_succ → sC
open BigFrame renaming wpList_want → wQ
theorem renew_not (lv pv:Value)(L:List Lf)(P:List Pr)(x:Int)(pub:List UInt8)(hpub:pub.length = 32)(w:World)(hL:Lvs w lv L)(hP:Pts w pv P)(hn:L.length≤1000)(hp:P.length≤1000)(hpl:∀ p∈P,p.loose.length≤1000)(hlk:Tt.lacks L P x = 1):
  Calls Tryz.prog 12 #[.agg #[lv,pv],.int .i64 x,.agg (bcells pub).toArray] w fun e w'=>e = .returned (.tuple #[.agg #[.slice none 0 0,.slice none 0 0],.int .i64 1])∧Kept w.heap.size w.heap.size w w':=by
 have HLK:=hid (fun(u:World) (kk:Kept w.heap.size w.heap.size w u)=>lacks_calls lv pv L P x u (hL.kept kk) (hP.kept kk) hn hp hpl)
 rw [hlk] at HLK;clear hlk;obtain⟨lad,lc,rfl⟩:=hL.shape;obtain⟨pad,pc,rfl⟩:=hP.shape;obtain⟨ln,hln⟩:∃ ln,ln = L.length:=⟨_,rfl⟩;obtain⟨pn,hpn⟩:∃ pn,pn = P.length:=⟨_,rfl⟩;rw [← hln,← hpn] at HLK ⊢;have hln9:(ln:Int)≤1000:=by omega
 have HLN:=hid hln;have HPN:=hid hpn;have HPB:=hid hpub;obtain⟨D,hD⟩:∃ D,D = (bcells pub).toArray:=⟨_,rfl⟩;have HDE:=hid hD;have hsz:D.size = 32:=by rw [hD,List.size_toArray,bcells_length,hpub]
 have HSZ:=hid hsz;have hinf:(Tryz.prog.info? 35).map (·.size) = some D.size:=by rw [hD]; exact hashInfoT (by rw [bcells_length,hpub])
 have HINF:=hid hinf;have HALL:=hid (show D.all (·.oneCell') = true by rw [hD]; exact bytesAll pub)
 rw [← hD];clear hpub hD hsz hinf;clear hL hP hn hp hpl hln hpn;have k1:=kA w (.cells #[.slice lad ln lc,.slice pad pn pc] 27)
 have t1:=heap_new w (.cells #[.slice lad ln lc,.slice pad pn pc] 27)
 have s1:(w.alloc (.cells #[.slice lad ln lc,.slice pad pn pc] 27)).heap.size = w.heap.size + 1:=by simp
 go_enter Tryz.func12,Tryz.ntmps12
 go_upto_region 1 with fail
 generalize w.alloc (.cells #[.slice lad ln lc,.slice pad pn pc] 27) = wa at k1 t1 s1 ⊢
 have k2:=kA wa (.cells D 35)
 have e2:=heap_new wa (.cells D 35)
 have s2:(wa.alloc (.cells D 35)).heap.size = wa.heap.size + 1:=by simp
 have t2:=rk t1 k2;generalize wa.alloc (.cells D 35) = wb at k2 e2 s2 t2 ⊢
 have k3:=kA wb (.cells #[.slice none 0 0,.slice none 0 0] 27)
 have r3:=heap_new wb (.cells #[.slice none 0 0,.slice none 0 0] 27)
 have s3:(wb.alloc (.cells #[.slice none 0 0,.slice none 0 0] 27)).heap.size = wb.heap.size + 1:=by simp
 have t3:=rk t2 k3;have e3:=rk e2 k3;generalize wb.alloc (.cells #[.slice none 0 0,.slice none 0 0] 27) = w1 at k3 r3 s3 t3 e3 ⊢
 have K1:=hid ((k1.next1 k2).next1 k3);rw [s2,s1] at r3 s3;rw [s1] at e3
 (try rw [s2])
 (try rw [s1])
 obtain⟨tb,htb⟩:∃ tb,tb = w.heap.size:=⟨_,rfl⟩;obtain⟨lb,hlb⟩:∃ lb,lb = w.heap.size + 1:=⟨_,rfl⟩;obtain⟨rb,hrb⟩:∃ rb,rb = w.heap.size + 1 + 1:=⟨_,rfl⟩;rw [← hrb] at r3
 (try rw [← hrb])
 rw [← hlb] at e3
 (try rw [← hlb])
 rw [← htb] at t3
 (try rw [← htb])
 have HTL:=hid (show tb≠lb by omega)
 have HTR:=hid (show tb≠rb by omega)
 have HTB:=hid (show ¬ tb < w.heap.size by omega)
 have HRB:=hid (show ¬ rb < w.heap.size by omega)
 have HWS:=hid (show w.heap.size≤w1.heap.size by omega)
 have T1:=hid t3;have R1:=hid r3;have E1:=hid e3;clear k1 t1 s1 k2 e2 s2 t2 k3 r3 s3 t3 e3 htb hlb hrb;refine wp_region_lit ?_;refine @wpList_load_known _ _ _ _ _ _ _ ?_ 27 (.tmp 3) rfl (tb) (0) rfl (.agg #[.slice lad ln lc,.slice pad pn pc]) (run_loadVar_row w1 tb 27 27 _ (0,0) _ T1.out Tryz.underlying27 rfl treeInfo) ?_;kernel_rfl
 simp only [Act.put,sA,sB,sC];refine @wQ _ _ _ _ _ _ _ ?_ ?_;kernel_rfl;intro K hK;go_simp;refine hK _ _ ?_;clear hK K;refine @wQ _ _ _ _ _ _ _ ?_ ?_;kernel_rfl;intro K hK;go_simp;go_at_call 36
 refine(HLK.out _ K1.out).mono ?_;rintro e w2 ⟨rfl,k2⟩;have K2:=hid (K1.out.next1 k2);have T2:=hid (rk T1.out k2);have R2:=hid (rk R1.out k2);clear k2;refine hK _ _ ?_;clear hK K;refine @wQ _ _ _ _ _ _ _ ?_ ?_;kernel_rfl;intro K hK;go_simp;refine hK _ _ ?_;clear hK K
 go_upto_region 2 with fail
 refine wp_region_lit ?_;iterate 2 (refine @wQ _ _ _ _ _ _ _ ?_ ?_;kernel_rfl;intro K hK;go_simp;refine hK _ _ ?_;clear hK K)
 go_upto_region 3 with fail
 refine wp_region_lit ?_;refine @wpL_build0 _ _ _ _ _ _ _ ?_ 27 rfl _ (build_tree0 _) ?_;kernel_rfl
 simp only [Act.put,sA,sB,sC];refine @wQ _ _ _ _ _ _ _ ?_ ?_;kernel_rfl;intro K hK;go_simp;refine hK _ _ ?_;clear hK K;refine wpList_store_row rfl 27 _ _ rfl (rb) #[.slice none 0 0,.slice none 0 0] rfl rfl 27 #[.slice none 0 0,.slice none 0 0] R2.out treeInfo rfl (tree_all _ _ _ _ _ _) ?_
 simp only [Act.put];refine @wQ _ _ _ _ _ _ _ ?_ ?_;kernel_rfl;intro K hK;go_simp;refine hK _ _ ?_;clear hK K;have R3:=setRow_heap w2 rb _ #[.slice none 0 0,.slice none 0 0] _ _ R2.out;have K3:=hid (K2.out.grown (grown_setRow w2 rb #[.slice none 0 0,.slice none 0 0]) K2.out.size (fun k e=>by cases e; exact Nat.le_of_not_lt HRB.out))
 generalize w2.setRow rb #[.slice none 0 0,.slice none 0 0] = w3 at R3 K3 ⊢;go_wp2;refine bodyPost_ret (results_row2 rfl _ _ rb 27 _ (0,0) _ rfl R3 Tryz.underlying27 rfl treeInfo) rfl ?_
 exact⟨rfl,K3.out⟩
theorem remove_not (lv pv:Value)(L:List Lf)(P:List Pr)(x:Int)(w:World)(hL:Lvs w lv L)(hP:Pts w pv P)(hn:L.length≤1000)(hp:P.length≤1000)(hpl:∀ p∈P,p.loose.length≤1000)(hlk:Tt.lacks L P x = 1):
  Calls Tryz.prog 13 #[.agg #[lv,pv],.int .i64 x] w fun e w'=>e = .returned (.tuple #[.agg #[.slice none 0 0,.slice none 0 0],.int .i64 1])∧Kept w.heap.size w.heap.size w w':=by
 have HLK:=hid (fun(u:World) (kk:Kept w.heap.size w.heap.size w u)=>lacks_calls lv pv L P x u (hL.kept kk) (hP.kept kk) hn hp hpl)
 rw [hlk] at HLK;clear hlk;obtain⟨lad,lc,rfl⟩:=hL.shape;obtain⟨pad,pc,rfl⟩:=hP.shape;obtain⟨ln,hln⟩:∃ ln,ln = L.length:=⟨_,rfl⟩;obtain⟨pn,hpn⟩:∃ pn,pn = P.length:=⟨_,rfl⟩;rw [← hln,← hpn] at HLK ⊢;have hln9:(ln:Int)≤1000:=by omega
 have HLN:=hid hln;have HPN:=hid hpn;clear hL hP hn hp hpl hln hpn;have k1:=kA w (.cells #[.slice lad ln lc,.slice pad pn pc] 27)
 have t1:=heap_new w (.cells #[.slice lad ln lc,.slice pad pn pc] 27)
 have s1:(w.alloc (.cells #[.slice lad ln lc,.slice pad pn pc] 27)).heap.size = w.heap.size + 1:=by simp
 go_enter Tryz.func13,Tryz.ntmps13
 go_upto_region 1 with fail
 generalize w.alloc (.cells #[.slice lad ln lc,.slice pad pn pc] 27) = wa at k1 t1 s1 ⊢
 have k3:=kA wa (.cells #[.slice none 0 0,.slice none 0 0] 27)
 have r3:=heap_new wa (.cells #[.slice none 0 0,.slice none 0 0] 27)
 have s3:(wa.alloc (.cells #[.slice none 0 0,.slice none 0 0] 27)).heap.size = wa.heap.size + 1:=by simp
 have t3:=rk t1 k3;generalize wa.alloc (.cells #[.slice none 0 0,.slice none 0 0] 27) = w1 at k3 r3 s3 t3 ⊢
 have K1:=hid (k1.next1 k3);rw [s1] at r3 s3
 (try rw [s1])
 obtain⟨tb,htb⟩:∃ tb,tb = w.heap.size:=⟨_,rfl⟩;obtain⟨rb,hrb⟩:∃ rb,rb = w.heap.size + 1:=⟨_,rfl⟩;rw [← hrb] at r3
 (try rw [← hrb])
 rw [← htb] at t3
 (try rw [← htb])
 have HTR:=hid (show tb≠rb by omega)
 have HTB:=hid (show ¬ tb < w.heap.size by omega)
 have HRB:=hid (show ¬ rb < w.heap.size by omega)
 have HWS:=hid (show w.heap.size≤w1.heap.size by omega)
 have T1:=hid t3;have R1:=hid r3;clear k1 t1 s1 k3 r3 s3 t3 htb hrb;refine wp_region_lit ?_;refine @wpList_load_known _ _ _ _ _ _ _ ?_ 27 (.tmp 2) rfl (tb) (0) rfl (.agg #[.slice lad ln lc,.slice pad pn pc]) (run_loadVar_row w1 tb 27 27 _ (0,0) _ T1.out Tryz.underlying27 rfl treeInfo) ?_;kernel_rfl
 simp only [Act.put,sA,sB,sC];refine @wQ _ _ _ _ _ _ _ ?_ ?_;kernel_rfl;intro K hK;go_simp;refine hK _ _ ?_;clear hK K;refine @wQ _ _ _ _ _ _ _ ?_ ?_;kernel_rfl;intro K hK;go_simp;go_at_call 36
 refine(HLK.out _ K1.out).mono ?_;rintro e w2 ⟨rfl,k2⟩;have K2:=hid (K1.out.next1 k2);have T2:=hid (rk T1.out k2);have R2:=hid (rk R1.out k2);clear k2;refine hK _ _ ?_;clear hK K;refine @wQ _ _ _ _ _ _ _ ?_ ?_;kernel_rfl;intro K hK;go_simp;refine hK _ _ ?_;clear hK K
 go_upto_region 2 with fail
 refine wp_region_lit ?_;iterate 2 (refine @wQ _ _ _ _ _ _ _ ?_ ?_;kernel_rfl;intro K hK;go_simp;refine hK _ _ ?_;clear hK K)
 go_upto_region 3 with fail
 refine wp_region_lit ?_;refine @wpL_build0 _ _ _ _ _ _ _ ?_ 27 rfl _ (build_tree0 _) ?_;kernel_rfl
 simp only [Act.put,sA,sB,sC];refine @wQ _ _ _ _ _ _ _ ?_ ?_;kernel_rfl;intro K hK;go_simp;refine hK _ _ ?_;clear hK K;refine wpList_store_row rfl 27 _ _ rfl (rb) #[.slice none 0 0,.slice none 0 0] rfl rfl 27 #[.slice none 0 0,.slice none 0 0] R2.out treeInfo rfl (tree_all _ _ _ _ _ _) ?_
 simp only [Act.put];refine @wQ _ _ _ _ _ _ _ ?_ ?_;kernel_rfl;intro K hK;go_simp;refine hK _ _ ?_;clear hK K;have R3:=setRow_heap w2 rb _ #[.slice none 0 0,.slice none 0 0] _ _ R2.out;have K3:=hid (K2.out.grown (grown_setRow w2 rb #[.slice none 0 0,.slice none 0 0]) K2.out.size (fun k e=>by cases e; exact Nat.le_of_not_lt HRB.out))
 generalize w2.setRow rb #[.slice none 0 0,.slice none 0 0] = w3 at R3 K3 ⊢;go_wp2;refine bodyPost_ret (results_row2 rfl _ _ rb 27 _ (0,0) _ rfl R3 Tryz.underlying27 rfl treeInfo) rfl ?_
 exact⟨rfl,K3.out⟩
theorem path_not (lv pv:Value)(L:List Lf)(P:List Pr)(x:Int)(pub:List UInt8)(hpub:pub.length = 32)(kv:Value)(w:World)(hL:Lvs w lv L)(hP:Pts w pv P)(hn:L.length≤1000)(hp:P.length≤1000)(hpl:∀ p∈P,p.loose.length≤1000)(hlk:Tt.lacks L P x = 1):
  Calls Tryz.prog 14 #[.agg #[lv,pv],.int .i64 x,.agg (bcells pub).toArray,kv] w fun e w'=>e = .returned (.tuple #[.agg #[.slice none 0 0,.slice none 0 0],.int .i64 1])∧Kept w.heap.size w.heap.size w w':=by
 have HLK:=hid (fun(u:World) (kk:Kept w.heap.size w.heap.size w u)=>lacks_calls lv pv L P x u (hL.kept kk) (hP.kept kk) hn hp hpl)
 rw [hlk] at HLK;clear hlk;obtain⟨lad,lc,rfl⟩:=hL.shape;obtain⟨pad,pc,rfl⟩:=hP.shape;obtain⟨ln,hln⟩:∃ ln,ln = L.length:=⟨_,rfl⟩;obtain⟨pn,hpn⟩:∃ pn,pn = P.length:=⟨_,rfl⟩;rw [← hln,← hpn] at HLK ⊢;have hln9:(ln:Int)≤1000:=by omega
 have HLN:=hid hln;have HPN:=hid hpn;have HPB:=hid hpub;obtain⟨D,hD⟩:∃ D,D = (bcells pub).toArray:=⟨_,rfl⟩;have HDE:=hid hD;have hsz:D.size = 32:=by rw [hD,List.size_toArray,bcells_length,hpub]
 have HSZ:=hid hsz;have hinf:(Tryz.prog.info? 35).map (·.size) = some D.size:=by rw [hD]; exact hashInfoT (by rw [bcells_length,hpub])
 have HINF:=hid hinf;have HALL:=hid (show D.all (·.oneCell') = true by rw [hD]; exact bytesAll pub)
 rw [← hD];clear hpub hD hsz hinf;clear hL hP hn hp hpl hln hpn;have k1:=kA w (.cells #[.slice lad ln lc,.slice pad pn pc] 27)
 have t1:=heap_new w (.cells #[.slice lad ln lc,.slice pad pn pc] 27)
 have s1:(w.alloc (.cells #[.slice lad ln lc,.slice pad pn pc] 27)).heap.size = w.heap.size + 1:=by simp
 go_enter Tryz.func14,Tryz.ntmps14
 go_upto_region 1 with fail
 generalize w.alloc (.cells #[.slice lad ln lc,.slice pad pn pc] 27) = wa at k1 t1 s1 ⊢
 have k2:=kA wa (.cells D 35)
 have e2:=heap_new wa (.cells D 35)
 have s2:(wa.alloc (.cells D 35)).heap.size = wa.heap.size + 1:=by simp
 have t2:=rk t1 k2;generalize wa.alloc (.cells D 35) = wb at k2 e2 s2 t2 ⊢
 have k3:=kA wb (.cells #[.slice none 0 0,.slice none 0 0] 27)
 have r3:=heap_new wb (.cells #[.slice none 0 0,.slice none 0 0] 27)
 have s3:(wb.alloc (.cells #[.slice none 0 0,.slice none 0 0] 27)).heap.size = wb.heap.size + 1:=by simp
 have t3:=rk t2 k3;have e3:=rk e2 k3;generalize wb.alloc (.cells #[.slice none 0 0,.slice none 0 0] 27) = w1 at k3 r3 s3 t3 e3 ⊢
 have K1:=hid ((k1.next1 k2).next1 k3);rw [s2,s1] at r3 s3;rw [s1] at e3
 (try rw [s2])
 (try rw [s1])
 obtain⟨tb,htb⟩:∃ tb,tb = w.heap.size:=⟨_,rfl⟩;obtain⟨lb,hlb⟩:∃ lb,lb = w.heap.size + 1:=⟨_,rfl⟩;obtain⟨rb,hrb⟩:∃ rb,rb = w.heap.size + 1 + 1:=⟨_,rfl⟩;rw [← hrb] at r3
 (try rw [← hrb])
 rw [← hlb] at e3
 (try rw [← hlb])
 rw [← htb] at t3
 (try rw [← htb])
 have HTL:=hid (show tb≠lb by omega)
 have HTR:=hid (show tb≠rb by omega)
 have HTB:=hid (show ¬ tb < w.heap.size by omega)
 have HRB:=hid (show ¬ rb < w.heap.size by omega)
 have HWS:=hid (show w.heap.size≤w1.heap.size by omega)
 have T1:=hid t3;have R1:=hid r3;have E1:=hid e3;clear k1 t1 s1 k2 e2 s2 t2 k3 r3 s3 t3 e3 htb hlb hrb;refine wp_region_lit ?_;refine @wpList_load_known _ _ _ _ _ _ _ ?_ 27 (.tmp 4) rfl (tb) (0) rfl (.agg #[.slice lad ln lc,.slice pad pn pc]) (run_loadVar_row w1 tb 27 27 _ (0,0) _ T1.out Tryz.underlying27 rfl treeInfo) ?_;kernel_rfl
 simp only [Act.put,sA,sB,sC];refine @wQ _ _ _ _ _ _ _ ?_ ?_;kernel_rfl;intro K hK;go_simp;refine hK _ _ ?_;clear hK K;refine @wQ _ _ _ _ _ _ _ ?_ ?_;kernel_rfl;intro K hK;go_simp;go_at_call 36
 refine(HLK.out _ K1.out).mono ?_;rintro e w2 ⟨rfl,k2⟩;have K2:=hid (K1.out.next1 k2);have T2:=hid (rk T1.out k2);have R2:=hid (rk R1.out k2);clear k2;refine hK _ _ ?_;clear hK K;refine @wQ _ _ _ _ _ _ _ ?_ ?_;kernel_rfl;intro K hK;go_simp;refine hK _ _ ?_;clear hK K
 go_upto_region 2 with fail
 refine wp_region_lit ?_;iterate 2 (refine @wQ _ _ _ _ _ _ _ ?_ ?_;kernel_rfl;intro K hK;go_simp;refine hK _ _ ?_;clear hK K)
 go_upto_region 3 with fail
 refine wp_region_lit ?_;refine @wpL_build0 _ _ _ _ _ _ _ ?_ 27 rfl _ (build_tree0 _) ?_;kernel_rfl
 simp only [Act.put,sA,sB,sC];refine @wQ _ _ _ _ _ _ _ ?_ ?_;kernel_rfl;intro K hK;go_simp;refine hK _ _ ?_;clear hK K;refine wpList_store_row rfl 27 _ _ rfl (rb) #[.slice none 0 0,.slice none 0 0] rfl rfl 27 #[.slice none 0 0,.slice none 0 0] R2.out treeInfo rfl (tree_all _ _ _ _ _ _) ?_
 simp only [Act.put];refine @wQ _ _ _ _ _ _ _ ?_ ?_;kernel_rfl;intro K hK;go_simp;refine hK _ _ ?_;clear hK K;have R3:=setRow_heap w2 rb _ #[.slice none 0 0,.slice none 0 0] _ _ R2.out;have K3:=hid (K2.out.grown (grown_setRow w2 rb #[.slice none 0 0,.slice none 0 0]) K2.out.size (fun k e=>by cases e; exact Nat.le_of_not_lt HRB.out))
 generalize w2.setRow rb #[.slice none 0 0,.slice none 0 0] = w3 at R3 K3 ⊢;go_wp2;refine bodyPost_ret (results_row2 rfl _ _ rb 27 _ (0,0) _ rfl R3 Tryz.underlying27 rfl treeInfo) rfl ?_
 exact⟨rfl,K3.out⟩
theorem add_not (lv pv:Value)(L:List Lf)(P:List Pr)(l:Lf)(w:World)(hL:Lvs w lv L)(hP:Pts w pv P)(hn:L.length≤1000)(hp:P.length≤1000)(hpl:∀ p∈P,p.loose.length≤1000)(hlo:l.Ok)(hr:Tt.right L P = false):
  Calls Tryz.prog 11 #[.agg #[lv,pv],.agg l.cells.toArray] w fun e w'=>e = .returned (.tuple #[.agg #[.slice none 0 0,.slice none 0 0],.int .i64 0,.int .i64 1])∧Kept w.heap.size w.heap.size w w':=by
 have HRR:=hid (fun(x:World) (k:Kept w.heap.size w.heap.size w x)=>right_calls8 lv pv L P x (hL.kept k) (hP.kept k) hn hp hpl)
 rw [hr] at HRR;clear hr;obtain⟨lad,lc,rfl⟩:=hL.shape;obtain⟨pad,pc,rfl⟩:=hP.shape;obtain⟨ln,hln⟩:∃ ln,ln = L.length:=⟨_,rfl⟩;obtain⟨pn,hpn⟩:∃ pn,pn = P.length:=⟨_,rfl⟩;obtain⟨nm,hnm⟩:∃ nm,nm = l.name:=⟨_,rfl⟩;rw [← hln,← hpn] at HRR ⊢;have hln9:(ln:Int)≤1000:=by omega
 have HLN:=hid hln;have HPN:=hid hpn;have HOK:=hid hlo;have hlsz:=Lf.size hlo;have hlal:=l.all;have hD0:l.cells.toArray[0]? = some (.int .i64 nm):=by rw [hnm]; exact l.at_name
 obtain⟨D,hD⟩:∃ D,D = l.cells.toArray:=⟨_,rfl⟩;rw [← hD] at hlsz hlal hD0 ⊢;have HDE:=hid hD;have HSZ:=hid hlsz;have HAL:=hid hlal;clear hL hP hn hp hpl hlo hln hpn hnm hlsz hlal hD;have k1:=kA w (.cells #[.slice lad ln lc,.slice pad pn pc] 27)
 have t1:=heap_new w (.cells #[.slice lad ln lc,.slice pad pn pc] 27)
 have s1:(w.alloc (.cells #[.slice lad ln lc,.slice pad pn pc] 27)).heap.size = w.heap.size + 1:=by simp
 go_enter Tryz.func11,Tryz.ntmps11
 go_upto_region 1 with fail
 generalize w.alloc (.cells #[.slice lad ln lc,.slice pad pn pc] 27) = wa at k1 t1 s1 ⊢
 have k2:=kA wa (.cells D 37)
 have e2:=heap_new wa (.cells D 37)
 have s2:(wa.alloc (.cells D 37)).heap.size = wa.heap.size + 1:=by simp
 have t2:=rk t1 k2;generalize wa.alloc (.cells D 37) = wb at k2 e2 s2 t2 ⊢
 have k3:=kA wb (.cells #[.slice none 0 0,.slice none 0 0] 27)
 have r3:=heap_new wb (.cells #[.slice none 0 0,.slice none 0 0] 27)
 have s3:(wb.alloc (.cells #[.slice none 0 0,.slice none 0 0] 27)).heap.size = wb.heap.size + 1:=by simp
 have t3:=rk t2 k3;have e3:=rk e2 k3;generalize wb.alloc (.cells #[.slice none 0 0,.slice none 0 0] 27) = w1 at k3 r3 s3 t3 e3 ⊢
 have K1:=hid ((k1.next1 k2).next1 k3);rw [s2,s1] at r3 s3;rw [s1] at e3
 (try rw [s2])
 (try rw [s1])
 obtain⟨tb,htb⟩:∃ tb,tb = w.heap.size:=⟨_,rfl⟩;obtain⟨lb,hlb⟩:∃ lb,lb = w.heap.size + 1:=⟨_,rfl⟩;obtain⟨rb,hrb⟩:∃ rb,rb = w.heap.size + 1 + 1:=⟨_,rfl⟩;rw [← hrb] at r3
 (try rw [← hrb])
 rw [← hlb] at e3
 (try rw [← hlb])
 rw [← htb] at t3
 (try rw [← htb])
 have HTR:=hid (show tb≠rb by omega)
 have HTL:=hid (show tb≠lb by omega)
 have HTB:=hid (show ¬ tb < w.heap.size by omega)
 have HRB:=hid (show ¬ rb < w.heap.size by omega)
 have HWS:=hid (show w.heap.size≤w1.heap.size by omega)
 have T1:=hid t3;have E1:=hid e3;have R1:=hid r3;have c0:w1.cell? ⟨lb,0,none⟩ = some (.int .i64 nm):=by rw [cell_of_row w1 lb 0 _ _ _ E1.out]; exact hD0
 clear k1 t1 s1 k2 e2 s2 t2 k3 r3 s3 t3 e3 htb hlb hrb;refine wp_region_lit ?_;refine @wpList_load_known _ _ _ _ _ _ _ ?_ 27 (.tmp 2) rfl (tb) (0) rfl (.agg #[.slice lad ln lc,.slice pad pn pc]) (run_loadVar_row w1 tb 27 27 _ (0,0) _ T1.out Tryz.underlying27 rfl treeInfo) ?_;kernel_rfl
 simp only [Act.put,sA,sB,sC];refine @wQ _ _ _ _ _ _ _ ?_ ?_;kernel_rfl;intro K hK;go_simp;go_at_call 9
 refine(HRR.out _ K1.out).mono ?_;rintro e w2 ⟨rfl,k2⟩;have K2:=hid (K1.out.next1 k2);have T2:=hid (rk T1.out k2);have R2:=hid (rk R1.out k2);have E2:=hid (rk E1.out k2);clear k2;clear c0;have c0:w2.cell? ⟨lb,0,none⟩ = some (.int .i64 nm):=by rw [cell_of_row w2 lb 0 _ _ _ E2.out]; exact hD0
 refine hK _ _ ?_;clear hK K;iterate 2 (refine @wQ _ _ _ _ _ _ _ ?_ ?_;kernel_rfl;intro K hK;go_simp;refine hK _ _ ?_;clear hK K)
 refine @wpList_skip _ _ _ _ _ _ _ ?_ ?_;kernel_rfl;simp only [Act.put,sA,sB,sC];refine @wpList_skip _ _ _ _ _ _ _ ?_ ?_;kernel_rfl;simp only [Act.put,sA,sB,sC];refine @wpList_skip _ _ _ _ _ _ _ ?_ ?_;kernel_rfl;simp only [Act.put,sA,sB,sC];refine @wpList_skip _ _ _ _ _ _ _ ?_ ?_;kernel_rfl;simp only [Act.put,sA,sB,sC];refine @wQ _ _ _ _ _ _ _ ?_ ?_;kernel_rfl;intro K hK;go_simp;refine hK _ _ ?_;clear hK K;clear c0
 go_upto_region 2 with fail
 refine wp_region_lit ?_;refine @wpL_build0 _ _ _ _ _ _ _ ?_ 27 rfl _ (build_tree0 _) ?_;kernel_rfl
 simp only [Act.put,sA,sB,sC];refine wpList_store_row rfl 27 _ _ rfl (rb) #[.slice none 0 0,.slice none 0 0] rfl rfl 27 #[.slice none 0 0,.slice none 0 0] R2.out treeInfo rfl (tree_all _ _ _ _ _ _) ?_
 simp only [Act.put];iterate 2 (refine @wQ _ _ _ _ _ _ _ ?_ ?_;kernel_rfl;intro K hK;go_simp;refine hK _ _ ?_;clear hK K)
 have RZ:=setRow_heap w2 rb _ #[.slice none 0 0,.slice none 0 0] _ _ R2.out;have KZ:=hid (K2.out.grown (grown_setRow w2 rb #[.slice none 0 0,.slice none 0 0]) K2.out.size (fun k e=>by cases e; exact Nat.le_of_not_lt HRB.out))
 generalize w2.setRow rb #[.slice none 0 0,.slice none 0 0] = wz at RZ KZ ⊢;go_wp2;refine bodyPost_ret (results_row3 rfl _ _ rb 27 _ (0,0) _ rfl RZ Tryz.underlying27 rfl treeInfo) rfl ?_
 exact⟨rfl,KZ.out⟩
theorem Tt.not_lacks {L:List Lf}{P:List Pr}(h:Tt.right L P = false)(x:Int):Tt.lacks L P x = 1:=by
 unfold Tt.lacks;rw [if_neg (by rw [h]; decide)]
namespace Tt
def eAdd (L:List Lf)(P:List Pr)(n:Int):Int:=if right L P = true then addErr L n else 1
def eNone (L:List Lf)(P:List Pr)(x:Int):Int:=if right L P = true then noneErr L x else 1
def ePath (L:List Lf)(P:List Pr)(x:Int)(kn:Nat):Int:=if right L P = true then pathErr L x kn else 1
def Two (v:Value):Prop:=∃ a n c b m d,v = .agg #[.slice a n c,.slice b m d]
theorem two_none:Two (.agg #[.slice Option.none 0 0,.slice Option.none 0 0]):=⟨_,_,_,_,_,_,rfl⟩
theorem two_mine {B:Nat→Prop}{w:World}{lv pv:Value}{L:List Lf}{P:List Pr}{SL:List Value}(h:Mine B w lv pv L P SL):Two (.agg #[lv,pv]):=by
 obtain⟨a,c,rfl⟩:=h.lvs.shape;obtain⟨b,d,rfl⟩:=h.pts.shape;exact⟨_,_,_,_,_,_,rfl⟩
end Tt
section
variable (lv pv:Value) (L:List Lf) (P:List Pr) (w:World) (hL:Lvs w lv L) (hP:Pts w pv P) (hn:L.length≤1000) (hp:P.length≤1000) (hpl:∀ p∈P,p.loose.length≤1000)
include hL hP hn hp hpl
theorem add_errs (l:Lf)(hlo:l.Ok):Calls Tryz.prog 11 #[.agg #[lv,pv],.agg l.cells.toArray] w fun e w'=>∃ v,∃ at0,e = .returned (.tuple #[v,.int .i64 at0,.int .i64 (Tt.eAdd L P l.name)])∧Tt.Two v∧Kept w.heap.size w.heap.size w w':=by
 cases hr:Tt.right L P with
 | true=>
  refine(add_any lv pv L P l hlo w hL hP hpl hr).mono ?_;rintro e w' ⟨lv',pv',rfl,k,SL,hm⟩;exact⟨_,_,by unfold Tt.eAdd; rw [if_pos hr],Tt.two_mine hm,k⟩
 | false=>
  refine(add_not lv pv L P l w hL hP hn hp hpl hlo hr).mono ?_;rintro e w' ⟨rfl,k⟩;exact⟨_,_,by unfold Tt.eAdd; rw [if_neg (by rw [hr]; decide)],Tt.two_none,k⟩
theorem renew_errs (x:Int)(pub:List UInt8)(hpub:pub.length = 32):Calls Tryz.prog 12 #[.agg #[lv,pv],.int .i64 x,.agg (bcells pub).toArray] w fun e w'=>∃ v,e = .returned (.tuple #[v,.int .i64 (Tt.eNone L P x)])∧Tt.Two v∧Kept w.heap.size w.heap.size w w':=by
 cases hr:Tt.right L P with
 | true=>
  refine(renew_any lv pv L P x w hL hP hpl hr pub hpub).mono ?_;rintro e w' ⟨lv',pv',rfl,k,SL,hm⟩;exact⟨_,by unfold Tt.eNone; rw [if_pos hr],Tt.two_mine hm,k⟩
 | false=>
  refine(renew_not lv pv L P x pub hpub w hL hP hn hp hpl (Tt.not_lacks hr x)).mono ?_;rintro e w' ⟨rfl,k⟩;exact⟨_,by unfold Tt.eNone; rw [if_neg (by rw [hr]; decide)],Tt.two_none,k⟩
theorem remove_errs (x:Int):Calls Tryz.prog 13 #[.agg #[lv,pv],.int .i64 x] w fun e w'=>∃ v,e = .returned (.tuple #[v,.int .i64 (Tt.eNone L P x)])∧Tt.Two v∧Kept w.heap.size w.heap.size w w':=by
 cases hr:Tt.right L P with
 | true=>
  refine(remove_any lv pv L P x w hL hP hpl hr).mono ?_;rintro e w' ⟨lv',pv',rfl,k,SL,hm⟩;exact⟨_,by unfold Tt.eNone; rw [if_pos hr],Tt.two_mine hm,k⟩
 | false=>
  refine(remove_not lv pv L P x w hL hP hn hp hpl (Tt.not_lacks hr x)).mono ?_;rintro e w' ⟨rfl,k⟩;exact⟨_,by unfold Tt.eNone; rw [if_neg (by rw [hr]; decide)],Tt.two_none,k⟩
theorem path_errs (x:Int)(pub:List UInt8)(hpub:pub.length = 32)(kv:Value)(ks:List (List UInt8))(hK:Hs w kv ks)(htab:Tab w):Calls Tryz.prog 14 #[.agg #[lv,pv],.int .i64 x,.agg (bcells pub).toArray,kv] w fun e w'=>∃ v,e = .returned (.tuple #[v,.int .i64 (Tt.ePath L P x ks.length)])∧Tt.Two v∧Kept w.heap.size w.heap.size w w':=by
 cases hr:Tt.right L P with
 | true=>
  refine(path_any lv pv L P x pub hpub kv ks w hL hP hpl hr hK htab).mono ?_;rintro e w' ⟨lv',pv',rfl,k,SL,hm⟩;exact⟨_,by unfold Tt.ePath; rw [if_pos hr],Tt.two_mine hm,k⟩
 | false=>
  refine(path_not lv pv L P x pub hpub kv w hL hP hn hp hpl (Tt.not_lacks hr x)).mono ?_;rintro e w' ⟨rfl,k⟩;exact⟨_,by unfold Tt.ePath; rw [if_neg (by rw [hr]; decide)],Tt.two_none,k⟩
end
section
variable (lv pv:Value) (L:List Lf) (P:List Pr) (w:World) (hL:Lvs w lv L) (hP:Pts w pv P) (hpl:∀ p∈P,p.loose.length≤1000)
include hL hP hpl
theorem refadd_errs (l:Lf)(hlo:l.Ok)(hr:Tt.right L P = true):Calls Tryz.prog 16 #[.agg #[lv,pv],.agg l.cells.toArray] w fun e w'=>∃ v,∃ at0,e = .returned (.tuple #[v,.int .i64 at0,.int .i64 (Tt.eAdd L P l.name)])∧Tt.Two v∧Kept w.heap.size w.heap.size w w':=by
 refine(refadd_any lv pv L P l hlo w hL hP hpl hr).mono ?_;rintro e w' ⟨lv',pv',rfl,k,SL,hm⟩;exact⟨_,_,by unfold Tt.eAdd; rw [if_pos hr],Tt.two_mine hm,k⟩
theorem refrenew_errs (x:Int)(pub:List UInt8)(hpub:pub.length = 32)(hr:Tt.right L P = true):Calls Tryz.prog 17 #[.agg #[lv,pv],.int .i64 x,.agg (bcells pub).toArray] w fun e w'=>∃ v,e = .returned (.tuple #[v,.int .i64 (Tt.eNone L P x)])∧Tt.Two v∧Kept w.heap.size w.heap.size w w':=by
 refine(refrenew_any lv pv L P x w hL hP hpl hr pub hpub).mono ?_;rintro e w' ⟨lv',pv',rfl,k,SL,hm⟩;exact⟨_,by unfold Tt.eNone; rw [if_pos hr],Tt.two_mine hm,k⟩
theorem refremove_errs (x:Int)(hr:Tt.right L P = true):Calls Tryz.prog 18 #[.agg #[lv,pv],.int .i64 x] w fun e w'=>∃ v,e = .returned (.tuple #[v,.int .i64 (Tt.eNone L P x)])∧Tt.Two v∧Kept w.heap.size w.heap.size w w':=by
 refine(refremove_any lv pv L P x w hL hP hpl hr).mono ?_;rintro e w' ⟨lv',pv',rfl,k,SL,hm⟩;exact⟨_,by unfold Tt.eNone; rw [if_pos hr],Tt.two_mine hm,k⟩
theorem refpath_errs (x:Int)(pub:List UInt8)(hpub:pub.length = 32)(kv:Value)(ks:List (List UInt8))(hK:Hs w kv ks)(hr:Tt.right L P = true):Calls Tryz.prog 19 #[.agg #[lv,pv],.int .i64 x,.agg (bcells pub).toArray,kv] w fun e w'=>∃ v,e = .returned (.tuple #[v,.int .i64 (Tt.ePath L P x ks.length)])∧Tt.Two v∧Kept w.heap.size w.heap.size w w':=by
 refine(refpath_any lv pv L P x pub hpub kv ks w hL hP hpl hr hK).mono ?_;rintro e w' ⟨lv',pv',rfl,k,SL,hm⟩;exact⟨_,by unfold Tt.ePath; rw [if_pos hr],Tt.two_mine hm,k⟩
end
end Go.Proofs.YtaobiofngnfdiaaGreatDoor
