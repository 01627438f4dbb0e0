/-
 Add where it refuses.
-/
import Derived.Test.YtinebhdilnndaaaGreatDoorHA
import Derived.Test.YtinebhdilnndaaaGreatDoorHD
import Derived.Test.YtinebhdilnndaaaGreatDoorTreeSame
set_option maxRecDepth 100000
set_option maxHeartbeats 6400000
namespace Go.Proofs.YtinebhdilnndaaaGreatDoor
open Go.RowKit Go.Lib
open List renaming setIfInBounds_toArray -> sA, set_cons_zero -> sB, set_cons_succ -> sC
open BigFrame renaming wpList_want -> wQ
theorem add_bad1 (lv pv:Value)(L:List Lf)(P:List Pr)(l:Lf)(w:World)(hL:Lvs w lv L)(hP:Pts w pv P)(hn:L.length<=1000)(hp:P.length<=1000)(hpl:∀ p∈P,p.loose.length<=1000)(hlo:l.Ok)(hr:Tt.right L P = true)(hnn:(decide (1<=l.name) && decide (l.name<=64)) = false):
  Calls Tryz.prog 83 #[.agg #[lv,pv],.agg l.cells.toArray] w λe w'=>e = .returned (.tuple #[.agg #[.slice none 0 0,.slice none 0 0],.int .i64 0,.int .i64 1])/\Kept w.heap.size w.heap.size w w':=by
 have HRR:=hid (λ(x:World) (k:Kept w.heap.size w.heap.size w x)=>right_calls8 lv pv L P x (hL.kept k) (hP.kept k) hn hp hpl)
 rw [hr] at HRR;clear hr;have HIN:=hid (λx=>(isname_calls l.name x).mono (λe w' h=>show e = .returned (.bool false)/\Kept x.heap.size x.heap.size x w' from⟨by rw [h.1,hnn],kept_same h.2⟩))
 clear hnn;obtain⟨lad,lc,rfl⟩:=hL.shape;obtain⟨pad,pc,rfl⟩:=hP.shape;obtain⟨ln,hln⟩:∃ ln,ln = L.length:=⟨_,rfl⟩;obtain⟨pn,hpn⟩:∃ pn,pn = P.length:=⟨_,rfl⟩;obtain⟨nm,hnm⟩:∃ nm,nm = l.name:=⟨_,rfl⟩;rw [<- hln,<- hpn] at HRR |-;rw [<- hnm] at HIN;have hln9:(ln:Int)<=1000:=by omega
 have HLN:=hid hln;have HPN:=hid hpn;have HOK:=hid hlo;have hlsz:=Lf.size hlo;have hlal:=l.all;have hD0:l.cells.toArray[0]? = some (.int .i64 nm):=by rw [hnm]; exact l.at_name
 obtain⟨D,hD⟩:∃ D,D = l.cells.toArray:=⟨_,rfl⟩;rw [<- hD] at hlsz hlal hD0 |-;have HDE:=hid hD;have HSZ:=hid hlsz;have HAL:=hid hlal;clear hL hP hn hp hpl hlo hln hpn hnm hlsz hlal hD;have k1:=kA w (.cells #[.slice lad ln lc,.slice pad pn pc] 25)
 have t1:=heap_new w (.cells #[.slice lad ln lc,.slice pad pn pc] 25)
 have s1:(w.alloc (.cells #[.slice lad ln lc,.slice pad pn pc] 25)).heap.size = w.heap.size + 1:=by simp
 go_enter Tryz.func83,Tryz.ntmps83
 go_upto_region 1 with fail
 generalize w.alloc (.cells #[.slice lad ln lc,.slice pad pn pc] 25) = wa at k1 t1 s1 |-
 have k2:=kA wa (.cells D 48)
 have e2:=heap_new wa (.cells D 48)
 have s2:(wa.alloc (.cells D 48)).heap.size = wa.heap.size + 1:=by simp
 have t2:=rk t1 k2;generalize wa.alloc (.cells D 48) = wb at k2 e2 s2 t2 |-
 have k3:=kA wb (.cells #[.slice none 0 0,.slice none 0 0] 25)
 have r3:=heap_new wb (.cells #[.slice none 0 0,.slice none 0 0] 25)
 have s3:(wb.alloc (.cells #[.slice none 0 0,.slice none 0 0] 25)).heap.size = wb.heap.size + 1:=by simp
 have t3:=rk t2 k3;have e3:=rk e2 k3;generalize wb.alloc (.cells #[.slice none 0 0,.slice none 0 0] 25) = w1 at k3 r3 s3 t3 e3 |-
 have K1:=hid ((k1.next1 k2).next1 k3);rw [s2,s1] at r3 s3;rw [s1] at e3
 (try rw [s2])
 (try rw [s1])
 obtain⟨tb,htb⟩:∃ tb,tb = w.heap.size:=⟨_,rfl⟩;obtain⟨lb,hlb⟩:∃ lb,lb = w.heap.size + 1:=⟨_,rfl⟩;obtain⟨rb,hrb⟩:∃ rb,rb = w.heap.size + 1 + 1:=⟨_,rfl⟩;rw [<- hrb] at r3
 (try rw [<- hrb])
 rw [<- hlb] at e3
 (try rw [<- hlb])
 rw [<- htb] at t3
 (try rw [<- htb])
 have HTR:=hid (show tb≠rb by omega)
 have HTL:=hid (show tb≠lb by omega)
 have HTB:=hid (show ¬ tb < w.heap.size by omega)
 have HRB:=hid (show ¬ rb < w.heap.size by omega)
 have HWS:=hid (show w.heap.size<=w1.heap.size by omega)
 have T1:=hid t3;have E1:=hid e3;have R1:=hid r3;have c0:w1.cell? ⟨lb,0,none⟩ = some (.int .i64 nm):=by rw [cell_of_row w1 lb 0 _ _ _ E1.out]; exact hD0
 clear k1 t1 s1 k2 e2 s2 t2 k3 r3 s3 t3 e3 htb hlb hrb;refine wp_region_lit ?_;refine wLk 25 (.tmp 2) rfl (tb) (0) rfl (.agg #[.slice lad ln lc,.slice pad pn pc]) (run_loadVar_row w1 tb 25 25 _ (0,0) _ T1.out Tryz.underlying25 rfl treeInfo) ?_
 simp only [Act.put,sA,sB,sC];refine wW λK hK=>?_;go_simp;go_at_call 11
 refine(HRR.out _ K1.out).mono ?_;rintro e w2 ⟨rfl,k2⟩;have K2:=hid (K1.out.next1 k2);have T2:=hid (rk T1.out k2);have R2:=hid (rk R1.out k2);have E2:=hid (rk E1.out k2);clear k2;clear c0;have c0:w2.cell? ⟨lb,0,none⟩ = some (.int .i64 nm):=by rw [cell_of_row w2 lb 0 _ _ _ E2.out]; exact hD0
 apply hK;clear hK K;iterate 4 (refine wW λK hK=>?_;go_simp;apply hK;clear hK K)
 refine wW λK hK=>?_;go_simp;go_at_call 32
 refine(HIN.out _).mono ?_;rintro e w3 ⟨rfl,k3⟩;have K3:=hid (K2.out.next1 k3);have T3:=hid (rk T2.out k3);have R3:=hid (rk R2.out k3);have E3:=hid (rk E2.out k3);clear k3;clear c0;have c0:w3.cell? ⟨lb,0,none⟩ = some (.int .i64 nm):=by rw [cell_of_row w3 lb 0 _ _ _ E3.out]; exact hD0
 apply hK;clear hK K;iterate 2 (refine wW λK hK=>?_;go_simp;apply hK;clear hK K)
 clear c0
 go_upto_region 2 with fail
 refine wp_region_lit ?_;refine @wpL_build0 _ _ _ _ _ _ _ ?_ 25 rfl _ (build_tree0 _) ?_;kernel_rfl
 simp only [Act.put,sA,sB,sC];refine wpList_store_row rfl 25 _ _ rfl (rb) #[.slice none 0 0,.slice none 0 0] rfl rfl 25 #[.slice none 0 0,.slice none 0 0] R3.out treeInfo rfl (tree_all _ _ _ _ _ _) ?_
 simp only [Act.put];iterate 2 (refine wW λK hK=>?_;go_simp;apply hK;clear hK K)
 have RZ:=setRow_heap w3 rb _ #[.slice none 0 0,.slice none 0 0] _ _ R3.out;have KZ:=hid (K3.out.grown (grown_setRow w3 rb #[.slice none 0 0,.slice none 0 0]) K3.out.size (λk e=>by cases e; exact Nat.le_of_not_lt HRB.out))
 generalize w3.setRow rb #[.slice none 0 0,.slice none 0 0] = wz at RZ KZ |-;go_wp2;refine bodyPost_ret (results_row3 rfl _ _ rb 25 _ (0,0) _ rfl RZ Tryz.underlying25 rfl treeInfo) rfl ?_
 exact⟨rfl,KZ.out⟩
theorem add_bad8 (lv pv:Value)(L:List Lf)(P:List Pr)(l:Lf)(w:World)(hL:Lvs w lv L)(hP:Pts w pv P)(hn:L.length<=1000)(hp:P.length<=1000)(hpl:∀ p∈P,p.loose.length<=1000)(hlo:l.Ok)(hr:Tt.right L P = true)(hnn:(decide (1<=l.name) && decide (l.name<=64)) = true)(hix:0<=Tt.index L l.name):
  Calls Tryz.prog 83 #[.agg #[lv,pv],.agg l.cells.toArray] w λe w'=>e = .returned (.tuple #[.agg #[.slice none 0 0,.slice none 0 0],.int .i64 0,.int .i64 8])/\Kept w.heap.size w.heap.size w w':=by
 have hpla:Tt.place L P l.name = Tt.index L l.name:=by
  unfold Tt.place;rw [hr,hnn]
  rfl
 have HPL:=hid (λ(x:World) (k:Kept w.heap.size w.heap.size w x)=>place_calls8 lv pv L P l.name x (hL.kept k) (hP.kept k) hn hp hpl)
 rw [hpla] at HPL;have HRR:=hid (λ(x:World) (k:Kept w.heap.size w.heap.size w x)=>right_calls8 lv pv L P x (hL.kept k) (hP.kept k) hn hp hpl)
 rw [hr] at HRR;clear hr;have HIN:=hid (λx=>(isname_calls l.name x).mono (λe w' h=>show e = .returned (.bool true)/\Kept x.heap.size x.heap.size x w' from⟨by rw [h.1,hnn],kept_same h.2⟩))
 obtain⟨pl,hpe⟩:∃ pl,pl = Tt.index L l.name:=⟨_,rfl⟩;rw [<- hpe] at HPL hix;clear hpla hnn hpe;obtain⟨lad,lc,rfl⟩:=hL.shape;obtain⟨pad,pc,rfl⟩:=hP.shape;obtain⟨ln,hln⟩:∃ ln,ln = L.length:=⟨_,rfl⟩;obtain⟨pn,hpn⟩:∃ pn,pn = P.length:=⟨_,rfl⟩;obtain⟨nm,hnm⟩:∃ nm,nm = l.name:=⟨_,rfl⟩;rw [<- hln,<- hpn] at HRR HPL |-;rw [<- hnm] at HIN HPL;have hln9:(ln:Int)<=1000:=by omega
 have HLN:=hid hln;have HPN:=hid hpn;have HOK:=hid hlo;have hlsz:=Lf.size hlo;have hlal:=l.all;have hD0:l.cells.toArray[0]? = some (.int .i64 nm):=by rw [hnm]; exact l.at_name
 obtain⟨D,hD⟩:∃ D,D = l.cells.toArray:=⟨_,rfl⟩;rw [<- hD] at hlsz hlal hD0 |-;have HDE:=hid hD;have HSZ:=hid hlsz;have HAL:=hid hlal;clear hL hP hn hp hpl hlo hln hpn hnm hlsz hlal hD;have k1:=kA w (.cells #[.slice lad ln lc,.slice pad pn pc] 25)
 have t1:=heap_new w (.cells #[.slice lad ln lc,.slice pad pn pc] 25)
 have s1:(w.alloc (.cells #[.slice lad ln lc,.slice pad pn pc] 25)).heap.size = w.heap.size + 1:=by simp
 go_enter Tryz.func83,Tryz.ntmps83
 go_upto_region 1 with fail
 generalize w.alloc (.cells #[.slice lad ln lc,.slice pad pn pc] 25) = wa at k1 t1 s1 |-
 have k2:=kA wa (.cells D 48)
 have e2:=heap_new wa (.cells D 48)
 have s2:(wa.alloc (.cells D 48)).heap.size = wa.heap.size + 1:=by simp
 have t2:=rk t1 k2;generalize wa.alloc (.cells D 48) = wb at k2 e2 s2 t2 |-
 have k3:=kA wb (.cells #[.slice none 0 0,.slice none 0 0] 25)
 have r3:=heap_new wb (.cells #[.slice none 0 0,.slice none 0 0] 25)
 have s3:(wb.alloc (.cells #[.slice none 0 0,.slice none 0 0] 25)).heap.size = wb.heap.size + 1:=by simp
 have t3:=rk t2 k3;have e3:=rk e2 k3;generalize wb.alloc (.cells #[.slice none 0 0,.slice none 0 0] 25) = w1 at k3 r3 s3 t3 e3 |-
 have K1:=hid ((k1.next1 k2).next1 k3);rw [s2,s1] at r3 s3;rw [s1] at e3
 (try rw [s2])
 (try rw [s1])
 obtain⟨tb,htb⟩:∃ tb,tb = w.heap.size:=⟨_,rfl⟩;obtain⟨lb,hlb⟩:∃ lb,lb = w.heap.size + 1:=⟨_,rfl⟩;obtain⟨rb,hrb⟩:∃ rb,rb = w.heap.size + 1 + 1:=⟨_,rfl⟩;rw [<- hrb] at r3
 (try rw [<- hrb])
 rw [<- hlb] at e3
 (try rw [<- hlb])
 rw [<- htb] at t3
 (try rw [<- htb])
 have HTR:=hid (show tb≠rb by omega)
 have HTL:=hid (show tb≠lb by omega)
 have HTB:=hid (show ¬ tb < w.heap.size by omega)
 have HRB:=hid (show ¬ rb < w.heap.size by omega)
 have HWS:=hid (show w.heap.size<=w1.heap.size by omega)
 have T1:=hid t3;have E1:=hid e3;have R1:=hid r3;have c0:w1.cell? ⟨lb,0,none⟩ = some (.int .i64 nm):=by rw [cell_of_row w1 lb 0 _ _ _ E1.out]; exact hD0
 clear k1 t1 s1 k2 e2 s2 t2 k3 r3 s3 t3 e3 htb hlb hrb;refine wp_region_lit ?_;refine wLk 25 (.tmp 2) rfl (tb) (0) rfl (.agg #[.slice lad ln lc,.slice pad pn pc]) (run_loadVar_row w1 tb 25 25 _ (0,0) _ T1.out Tryz.underlying25 rfl treeInfo) ?_
 simp only [Act.put,sA,sB,sC];refine wW λK hK=>?_;go_simp;go_at_call 11
 refine(HRR.out _ K1.out).mono ?_;rintro e w2 ⟨rfl,k2⟩;have K2:=hid (K1.out.next1 k2);have T2:=hid (rk T1.out k2);have R2:=hid (rk R1.out k2);have E2:=hid (rk E1.out k2);clear k2;clear c0;have c0:w2.cell? ⟨lb,0,none⟩ = some (.int .i64 nm):=by rw [cell_of_row w2 lb 0 _ _ _ E2.out]; exact hD0
 apply hK;clear hK K;iterate 4 (refine wW λK hK=>?_;go_simp;apply hK;clear hK K)
 refine wW λK hK=>?_;go_simp;go_at_call 32
 refine(HIN.out _).mono ?_;rintro e w3 ⟨rfl,k3⟩;have K3:=hid (K2.out.next1 k3);have T3:=hid (rk T2.out k3);have R3:=hid (rk R2.out k3);have E3:=hid (rk E2.out k3);clear k3;clear c0;have c0:w3.cell? ⟨lb,0,none⟩ = some (.int .i64 nm):=by rw [cell_of_row w3 lb 0 _ _ _ E3.out]; exact hD0
 apply hK;clear hK K;iterate 2 (refine wW λK hK=>?_;go_simp;apply hK;clear hK K)
 have hpge:pl>=0:=hix;have hpge2:(0:Int)<=pl:=hix;clear hix
 go_upto_region 3 with fail
 refine wp_region_lit ?_;refine wLk 25 (.tmp 2) rfl (tb) (0) rfl (.agg #[.slice lad ln lc,.slice pad pn pc]) (run_loadVar_row w3 tb 25 25 _ (0,0) _ T3.out Tryz.underlying25 rfl treeInfo) ?_
 simp only [Act.put,sA,sB,sC];iterate 2 (refine wW λK hK=>?_;go_simp;apply hK;clear hK K)
 refine wW λK hK=>?_;go_simp;go_at_call 12
 refine(HPL.out _ K3.out).mono ?_;rintro e w4 ⟨rfl,k4⟩;have K4:=hid (K3.out.next1 k4);have T4:=hid (rk T3.out k4);have R4:=hid (rk R3.out k4);have E4:=hid (rk E3.out k4);clear k4;clear c0;apply hK;clear hK K;refine wW λK hK=>?_;go_simp;apply hK;clear hK K
 go_upto_region 4 with fail
 refine wp_region_lit ?_;refine @wpL_build0 _ _ _ _ _ _ _ ?_ 25 rfl _ (build_tree0 _) ?_;kernel_rfl
 simp only [Act.put,sA,sB,sC];refine wpList_store_row rfl 25 _ _ rfl (rb) #[.slice none 0 0,.slice none 0 0] rfl rfl 25 #[.slice none 0 0,.slice none 0 0] R4.out treeInfo rfl (tree_all _ _ _ _ _ _) ?_
 simp only [Act.put];iterate 2 (refine wW λK hK=>?_;go_simp;apply hK;clear hK K)
 have RZ:=setRow_heap w4 rb _ #[.slice none 0 0,.slice none 0 0] _ _ R4.out;have KZ:=hid (K4.out.grown (grown_setRow w4 rb #[.slice none 0 0,.slice none 0 0]) K4.out.size (λk e=>by cases e; exact Nat.le_of_not_lt HRB.out))
 generalize w4.setRow rb #[.slice none 0 0,.slice none 0 0] = wz at RZ KZ |-;go_wp2;refine bodyPost_ret (results_row3 rfl _ _ rb 25 _ (0,0) _ rfl RZ Tryz.underlying25 rfl treeInfo) rfl ?_
 exact⟨rfl,KZ.out⟩
theorem add_bad9 (lv pv:Value)(L:List Lf)(P:List Pr)(l:Lf)(w:World)(hL:Lvs w lv L)(hP:Pts w pv P)(hn:L.length<=1000)(hp:P.length<=1000)(hpl:∀ p∈P,p.loose.length<=1000)(hlo:l.Ok)(hr:Tt.right L P = true)(hnn:(decide (1<=l.name) && decide (l.name<=64)) = true)(hix:Tt.index L l.name = -1)(hfb:Tt.firstBlank L = 64):
  Calls Tryz.prog 83 #[.agg #[lv,pv],.agg l.cells.toArray] w λe w'=>e = .returned (.tuple #[.agg #[.slice none 0 0,.slice none 0 0],.int .i64 0,.int .i64 9])/\Kept w.heap.size w.heap.size w w':=by
 have hpla:Tt.place L P l.name = Tt.index L l.name:=by
  unfold Tt.place;rw [hr,hnn]
  rfl
 have HPL:=hid (λ(x:World) (k:Kept w.heap.size w.heap.size w x)=>place_calls8 lv pv L P l.name x (hL.kept k) (hP.kept k) hn hp hpl)
 rw [hpla] at HPL;have HRR:=hid (λ(x:World) (k:Kept w.heap.size w.heap.size w x)=>right_calls8 lv pv L P x (hL.kept k) (hP.kept k) hn hp hpl)
 rw [hr] at HRR;clear hr;have HIN:=hid (λx=>(isname_calls l.name x).mono (λe w' h=>show e = .returned (.bool true)/\Kept x.heap.size x.heap.size x w' from⟨by rw [h.1,hnn],kept_same h.2⟩))
 rw [hix] at HPL;have HFB:=hid (λ(x:World) (k:Kept w.heap.size w.heap.size w x)=>firstblank_calls lv L x (hL.kept k) hn)
 rw [hfb] at HFB;clear hpla hnn hix hfb;obtain⟨lad,lc,rfl⟩:=hL.shape;obtain⟨pad,pc,rfl⟩:=hP.shape;obtain⟨ln,hln⟩:∃ ln,ln = L.length:=⟨_,rfl⟩;obtain⟨pn,hpn⟩:∃ pn,pn = P.length:=⟨_,rfl⟩;obtain⟨nm,hnm⟩:∃ nm,nm = l.name:=⟨_,rfl⟩;rw [<- hln,<- hpn] at HRR HPL |-;rw [<- hln] at HFB;rw [<- hnm] at HIN HPL;have hln9:(ln:Int)<=1000:=by omega
 have HLN:=hid hln;have HPN:=hid hpn;have HOK:=hid hlo;have hlsz:=Lf.size hlo;have hlal:=l.all;have hD0:l.cells.toArray[0]? = some (.int .i64 nm):=by rw [hnm]; exact l.at_name
 obtain⟨D,hD⟩:∃ D,D = l.cells.toArray:=⟨_,rfl⟩;rw [<- hD] at hlsz hlal hD0 |-;have HDE:=hid hD;have HSZ:=hid hlsz;have HAL:=hid hlal;clear hL hP hn hp hpl hlo hln hpn hnm hlsz hlal hD;have k1:=kA w (.cells #[.slice lad ln lc,.slice pad pn pc] 25)
 have t1:=heap_new w (.cells #[.slice lad ln lc,.slice pad pn pc] 25)
 have s1:(w.alloc (.cells #[.slice lad ln lc,.slice pad pn pc] 25)).heap.size = w.heap.size + 1:=by simp
 go_enter Tryz.func83,Tryz.ntmps83
 go_upto_region 1 with fail
 generalize w.alloc (.cells #[.slice lad ln lc,.slice pad pn pc] 25) = wa at k1 t1 s1 |-
 have k2:=kA wa (.cells D 48)
 have e2:=heap_new wa (.cells D 48)
 have s2:(wa.alloc (.cells D 48)).heap.size = wa.heap.size + 1:=by simp
 have t2:=rk t1 k2;generalize wa.alloc (.cells D 48) = wb at k2 e2 s2 t2 |-
 have k3:=kA wb (.cells #[.slice none 0 0,.slice none 0 0] 25)
 have r3:=heap_new wb (.cells #[.slice none 0 0,.slice none 0 0] 25)
 have s3:(wb.alloc (.cells #[.slice none 0 0,.slice none 0 0] 25)).heap.size = wb.heap.size + 1:=by simp
 have t3:=rk t2 k3;have e3:=rk e2 k3;generalize wb.alloc (.cells #[.slice none 0 0,.slice none 0 0] 25) = w1 at k3 r3 s3 t3 e3 |-
 have K1:=hid ((k1.next1 k2).next1 k3);rw [s2,s1] at r3 s3;rw [s1] at e3
 (try rw [s2])
 (try rw [s1])
 obtain⟨tb,htb⟩:∃ tb,tb = w.heap.size:=⟨_,rfl⟩;obtain⟨lb,hlb⟩:∃ lb,lb = w.heap.size + 1:=⟨_,rfl⟩;obtain⟨rb,hrb⟩:∃ rb,rb = w.heap.size + 1 + 1:=⟨_,rfl⟩;rw [<- hrb] at r3
 (try rw [<- hrb])
 rw [<- hlb] at e3
 (try rw [<- hlb])
 rw [<- htb] at t3
 (try rw [<- htb])
 have HTR:=hid (show tb≠rb by omega)
 have HTL:=hid (show tb≠lb by omega)
 have HTB:=hid (show ¬ tb < w.heap.size by omega)
 have HRB:=hid (show ¬ rb < w.heap.size by omega)
 have HWS:=hid (show w.heap.size<=w1.heap.size by omega)
 have T1:=hid t3;have E1:=hid e3;have R1:=hid r3;have c0:w1.cell? ⟨lb,0,none⟩ = some (.int .i64 nm):=by rw [cell_of_row w1 lb 0 _ _ _ E1.out]; exact hD0
 clear k1 t1 s1 k2 e2 s2 t2 k3 r3 s3 t3 e3 htb hlb hrb;refine wp_region_lit ?_;refine wLk 25 (.tmp 2) rfl (tb) (0) rfl (.agg #[.slice lad ln lc,.slice pad pn pc]) (run_loadVar_row w1 tb 25 25 _ (0,0) _ T1.out Tryz.underlying25 rfl treeInfo) ?_
 simp only [Act.put,sA,sB,sC];refine wW λK hK=>?_;go_simp;go_at_call 11
 refine(HRR.out _ K1.out).mono ?_;rintro e w2 ⟨rfl,k2⟩;have K2:=hid (K1.out.next1 k2);have T2:=hid (rk T1.out k2);have R2:=hid (rk R1.out k2);have E2:=hid (rk E1.out k2);clear k2;clear c0;have c0:w2.cell? ⟨lb,0,none⟩ = some (.int .i64 nm):=by rw [cell_of_row w2 lb 0 _ _ _ E2.out]; exact hD0
 apply hK;clear hK K;iterate 4 (refine wW λK hK=>?_;go_simp;apply hK;clear hK K)
 refine wW λK hK=>?_;go_simp;go_at_call 32
 refine(HIN.out _).mono ?_;rintro e w3 ⟨rfl,k3⟩;have K3:=hid (K2.out.next1 k3);have T3:=hid (rk T2.out k3);have R3:=hid (rk R2.out k3);have E3:=hid (rk E2.out k3);clear k3;clear c0;have c0:w3.cell? ⟨lb,0,none⟩ = some (.int .i64 nm):=by rw [cell_of_row w3 lb 0 _ _ _ E3.out]; exact hD0
 apply hK;clear hK K;iterate 2 (refine wW λK hK=>?_;go_simp;apply hK;clear hK K)
 go_upto_region 3 with fail
 refine wp_region_lit ?_;refine wLk 25 (.tmp 2) rfl (tb) (0) rfl (.agg #[.slice lad ln lc,.slice pad pn pc]) (run_loadVar_row w3 tb 25 25 _ (0,0) _ T3.out Tryz.underlying25 rfl treeInfo) ?_
 simp only [Act.put,sA,sB,sC];iterate 2 (refine wW λK hK=>?_;go_simp;apply hK;clear hK K)
 refine wW λK hK=>?_;go_simp;go_at_call 12
 refine(HPL.out _ K3.out).mono ?_;rintro e w4 ⟨rfl,k4⟩;have K4:=hid (K3.out.next1 k4);have T4:=hid (rk T3.out k4);have R4:=hid (rk R3.out k4);have E4:=hid (rk E3.out k4);clear k4;clear c0;apply hK;clear hK K;refine wW λK hK=>?_;go_simp;apply hK;clear hK K;have t0:=two_cell0 T4.out
 go_upto_region 5 with fail
 refine wp_region_lit ?_;iterate 2 (refine wW λK hK=>?_;go_simp;apply hK;clear hK K)
 refine wW λK hK=>?_;go_simp;go_at_call 103
 refine(HFB.out _ K4.out).mono ?_;rintro e w5 ⟨rfl,k5⟩;have K5:=hid (K4.out.next1 k5);have T5:=hid (rk T4.out k5);have R5:=hid (rk R4.out k5);have E5:=hid (rk E4.out k5);clear k5;clear t0;apply hK;clear hK K;refine wW λK hK=>?_;go_simp;apply hK;clear hK K
 go_upto_region 6 with fail
 refine wp_region_lit ?_;iterate 2 (refine wW λK hK=>?_;go_simp;apply hK;clear hK K)
 go_upto_region 7 with fail
 refine wp_region_lit ?_;refine @wpL_build0 _ _ _ _ _ _ _ ?_ 25 rfl _ (build_tree0 _) ?_;kernel_rfl
 simp only [Act.put,sA,sB,sC];refine wpList_store_row rfl 25 _ _ rfl (rb) #[.slice none 0 0,.slice none 0 0] rfl rfl 25 #[.slice none 0 0,.slice none 0 0] R5.out treeInfo rfl (tree_all _ _ _ _ _ _) ?_
 simp only [Act.put];iterate 2 (refine wW λK hK=>?_;go_simp;apply hK;clear hK K)
 have RZ:=setRow_heap w5 rb _ #[.slice none 0 0,.slice none 0 0] _ _ R5.out;have KZ:=hid (K5.out.grown (grown_setRow w5 rb #[.slice none 0 0,.slice none 0 0]) K5.out.size (λk e=>by cases e; exact Nat.le_of_not_lt HRB.out))
 generalize w5.setRow rb #[.slice none 0 0,.slice none 0 0] = wz at RZ KZ |-;go_wp2;refine bodyPost_ret (results_row3 rfl _ _ rb 25 _ (0,0) _ rfl RZ Tryz.underlying25 rfl treeInfo) rfl ?_
 exact⟨rfl,KZ.out⟩
theorem refadd_bad1 (lv pv:Value)(L:List Lf)(P:List Pr)(l:Lf)(w:World)(hL:Lvs w lv L)(hP:Pts w pv P)(hn:L.length<=1000)(hlo:l.Ok)(hnn:(decide (1<=l.name) && decide (l.name<=64)) = false):
  Calls Tryz.prog 41 #[.agg #[lv,pv],.agg l.cells.toArray] w λe w'=>e = .returned (.tuple #[.agg #[.slice none 0 0,.slice none 0 0],.int .i64 0,.int .i64 1])/\Kept w.heap.size w.heap.size w w':=by
 obtain⟨lad,lc,rfl⟩:=hL.shape;obtain⟨pad,pc,rfl⟩:=hP.shape;obtain⟨ln,hln⟩:∃ ln,ln = L.length:=⟨_,rfl⟩;obtain⟨pn,hpn⟩:∃ pn,pn = P.length:=⟨_,rfl⟩;obtain⟨nm,hnm⟩:∃ nm,nm = l.name:=⟨_,rfl⟩;rw [<- hln,<- hpn];rw [<- hnm] at hnn;have hln9:(ln:Int)<=1000:=by omega
 have HLN:=hid hln;have HPN:=hid hpn;have HOK:=hid hlo;have hlsz:=Lf.size hlo;have hlal:=l.all;have hD0:l.cells.toArray[0]? = some (.int .i64 nm):=by rw [hnm]; exact l.at_name
 obtain⟨D,hD⟩:∃ D,D = l.cells.toArray:=⟨_,rfl⟩;rw [<- hD] at hlsz hlal hD0 |-;have HDE:=hid hD;have HSZ:=hid hlsz;have HAL:=hid hlal;clear hL hP hn hlo hln hpn hnm hlsz hlal hD;have k1:=kA w (.cells #[.slice lad ln lc,.slice pad pn pc] 25)
 have t1:=heap_new w (.cells #[.slice lad ln lc,.slice pad pn pc] 25)
 have s1:(w.alloc (.cells #[.slice lad ln lc,.slice pad pn pc] 25)).heap.size = w.heap.size + 1:=by simp
 go_enter Tryz.func41,Tryz.ntmps41
 go_upto_region 1 with fail
 generalize w.alloc (.cells #[.slice lad ln lc,.slice pad pn pc] 25) = wa at k1 t1 s1 |-
 have k2:=kA wa (.cells D 48)
 have e2:=heap_new wa (.cells D 48)
 have s2:(wa.alloc (.cells D 48)).heap.size = wa.heap.size + 1:=by simp
 have t2:=rk t1 k2;generalize wa.alloc (.cells D 48) = wb at k2 e2 s2 t2 |-
 have k3:=kA wb (.cells #[.slice none 0 0,.slice none 0 0] 25)
 have r3:=heap_new wb (.cells #[.slice none 0 0,.slice none 0 0] 25)
 have s3:(wb.alloc (.cells #[.slice none 0 0,.slice none 0 0] 25)).heap.size = wb.heap.size + 1:=by simp
 have t3:=rk t2 k3;have e3:=rk e2 k3;generalize wb.alloc (.cells #[.slice none 0 0,.slice none 0 0] 25) = w1 at k3 r3 s3 t3 e3 |-
 have K1:=hid ((k1.next1 k2).next1 k3);rw [s2,s1] at r3 s3;rw [s1] at e3
 (try rw [s2])
 (try rw [s1])
 obtain⟨tb,htb⟩:∃ tb,tb = w.heap.size:=⟨_,rfl⟩;obtain⟨lb,hlb⟩:∃ lb,lb = w.heap.size + 1:=⟨_,rfl⟩;obtain⟨rb,hrb⟩:∃ rb,rb = w.heap.size + 1 + 1:=⟨_,rfl⟩;rw [<- hrb] at r3
 (try rw [<- hrb])
 rw [<- hlb] at e3
 (try rw [<- hlb])
 rw [<- htb] at t3
 (try rw [<- htb])
 have HTR:=hid (show tb≠rb by omega)
 have HTL:=hid (show tb≠lb by omega)
 have HTB:=hid (show ¬ tb < w.heap.size by omega)
 have HRB:=hid (show ¬ rb < w.heap.size by omega)
 have HWS:=hid (show w.heap.size<=w1.heap.size by omega)
 have T1:=hid t3;have E1:=hid e3;have R1:=hid r3;have c0:w1.cell? ⟨lb,0,none⟩ = some (.int .i64 nm):=by rw [cell_of_row w1 lb 0 _ _ _ E1.out]; exact hD0
 clear k1 t1 s1 k2 e2 s2 t2 k3 r3 s3 t3 e3 htb hlb hrb
 by_cases hn1:nm < 1
 ·have HX:=hid hnn
  clear hnn;refine wp_region_lit ?_;iterate 4 (refine wW λK hK=>?_;go_simp;apply hK;clear hK K)
  (iterate 3 (refine @wpList_skip _ _ _ _ _ _ _ ?_ ?_;kernel_rfl;simp only [Act.put,sA,sB,sC]));refine wW λK hK=>?_;go_simp;apply hK;clear hK K;clear c0 hn1
  go_upto_region 2 with fail
  refine wp_region_lit ?_;refine @wpL_build0 _ _ _ _ _ _ _ ?_ 25 rfl _ (build_tree0 _) ?_;kernel_rfl
  simp only [Act.put,sA,sB,sC];refine wpList_store_row rfl 25 _ _ rfl (rb) #[.slice none 0 0,.slice none 0 0] rfl rfl 25 #[.slice none 0 0,.slice none 0 0] R1.out treeInfo rfl (tree_all _ _ _ _ _ _) ?_
  simp only [Act.put];iterate 2 (refine wW λK hK=>?_;go_simp;apply hK;clear hK K)
  have RZ:=setRow_heap w1 rb _ #[.slice none 0 0,.slice none 0 0] _ _ R1.out;have KZ:=hid (K1.out.grown (grown_setRow w1 rb #[.slice none 0 0,.slice none 0 0]) K1.out.size (λk e=>by cases e; exact Nat.le_of_not_lt HRB.out))
  generalize w1.setRow rb #[.slice none 0 0,.slice none 0 0] = wz at RZ KZ |-;go_wp2;refine bodyPost_ret (results_row3 rfl _ _ rb 25 _ (0,0) _ rfl RZ Tryz.underlying25 rfl treeInfo) rfl ?_
  exact⟨rfl,KZ.out⟩
 ·have hn2:nm > 64:=by
   rw [Bool.and_eq_false_iff,decide_eq_false_iff_not,decide_eq_false_iff_not] at hnn
   omega
  clear hnn;refine wp_region_lit ?_;iterate 8 (refine wW λK hK=>?_;go_simp;apply hK;clear hK K)
  clear c0 hn1 hn2
  go_upto_region 2 with fail
  refine wp_region_lit ?_;refine @wpL_build0 _ _ _ _ _ _ _ ?_ 25 rfl _ (build_tree0 _) ?_;kernel_rfl
  simp only [Act.put,sA,sB,sC];refine wpList_store_row rfl 25 _ _ rfl (rb) #[.slice none 0 0,.slice none 0 0] rfl rfl 25 #[.slice none 0 0,.slice none 0 0] R1.out treeInfo rfl (tree_all _ _ _ _ _ _) ?_
  simp only [Act.put];iterate 2 (refine wW λK hK=>?_;go_simp;apply hK;clear hK K)
  have RZ:=setRow_heap w1 rb _ #[.slice none 0 0,.slice none 0 0] _ _ R1.out;have KZ:=hid (K1.out.grown (grown_setRow w1 rb #[.slice none 0 0,.slice none 0 0]) K1.out.size (λk e=>by cases e; exact Nat.le_of_not_lt HRB.out))
  generalize w1.setRow rb #[.slice none 0 0,.slice none 0 0] = wz at RZ KZ |-;go_wp2;refine bodyPost_ret (results_row3 rfl _ _ rb 25 _ (0,0) _ rfl RZ Tryz.underlying25 rfl treeInfo) rfl ?_
  exact⟨rfl,KZ.out⟩
theorem refadd_bad8 (lv pv:Value)(L:List Lf)(P:List Pr)(l:Lf)(w:World)(hL:Lvs w lv L)(hP:Pts w pv P)(hn:L.length<=1000)(hlo:l.Ok)(hnn:(decide (1<=l.name) && decide (l.name<=64)) = true)(hix:0<=Tt.index L l.name):
  Calls Tryz.prog 41 #[.agg #[lv,pv],.agg l.cells.toArray] w λe w'=>e = .returned (.tuple #[.agg #[.slice none 0 0,.slice none 0 0],.int .i64 0,.int .i64 8])/\Kept w.heap.size w.heap.size w w':=by
 have hnb:1<=l.name/\l.name<=64:=by
  rw [Bool.and_eq_true,decide_eq_true_eq,decide_eq_true_eq] at hnn;exact hnn
 have hpla:Tt.rplace L l.name = Tt.index L l.name:=by
  unfold Tt.rplace;rw [if_pos (by omega)]
 have HPL:=hid (λ(x:World) (k:Kept w.heap.size w.heap.size w x)=>refplace_calls lv pv L l.name x (hL.kept k) hn (by obtain⟨pad,pc,rfl⟩:=hP.shape; exact⟨_,_,_,rfl⟩))
 rw [hpla] at HPL;obtain⟨pl,hpe⟩:∃ pl,pl = Tt.index L l.name:=⟨_,rfl⟩;rw [<- hpe] at HPL hix;clear hpla hpe;obtain⟨lad,lc,rfl⟩:=hL.shape;obtain⟨pad,pc,rfl⟩:=hP.shape;obtain⟨ln,hln⟩:∃ ln,ln = L.length:=⟨_,rfl⟩;obtain⟨pn,hpn⟩:∃ pn,pn = P.length:=⟨_,rfl⟩;obtain⟨nm,hnm⟩:∃ nm,nm = l.name:=⟨_,rfl⟩;rw [<- hln,<- hpn] at HPL |-;rw [<- hnm] at HPL hnb hnn;have hln9:(ln:Int)<=1000:=by omega
 have HLN:=hid hln;have HPN:=hid hpn;have HOK:=hid hlo;have hlsz:=Lf.size hlo;have hlal:=l.all;have hD0:l.cells.toArray[0]? = some (.int .i64 nm):=by rw [hnm]; exact l.at_name
 obtain⟨D,hD⟩:∃ D,D = l.cells.toArray:=⟨_,rfl⟩;rw [<- hD] at hlsz hlal hD0 |-;have HDE:=hid hD;have HSZ:=hid hlsz;have HAL:=hid hlal;clear hL hP hn hlo hln hpn hnm hlsz hlal hD;have k1:=kA w (.cells #[.slice lad ln lc,.slice pad pn pc] 25)
 have t1:=heap_new w (.cells #[.slice lad ln lc,.slice pad pn pc] 25)
 have s1:(w.alloc (.cells #[.slice lad ln lc,.slice pad pn pc] 25)).heap.size = w.heap.size + 1:=by simp
 go_enter Tryz.func41,Tryz.ntmps41
 go_upto_region 1 with fail
 generalize w.alloc (.cells #[.slice lad ln lc,.slice pad pn pc] 25) = wa at k1 t1 s1 |-
 have k2:=kA wa (.cells D 48)
 have e2:=heap_new wa (.cells D 48)
 have s2:(wa.alloc (.cells D 48)).heap.size = wa.heap.size + 1:=by simp
 have t2:=rk t1 k2;generalize wa.alloc (.cells D 48) = wb at k2 e2 s2 t2 |-
 have k3:=kA wb (.cells #[.slice none 0 0,.slice none 0 0] 25)
 have r3:=heap_new wb (.cells #[.slice none 0 0,.slice none 0 0] 25)
 have s3:(wb.alloc (.cells #[.slice none 0 0,.slice none 0 0] 25)).heap.size = wb.heap.size + 1:=by simp
 have t3:=rk t2 k3;have e3:=rk e2 k3;generalize wb.alloc (.cells #[.slice none 0 0,.slice none 0 0] 25) = w1 at k3 r3 s3 t3 e3 |-
 have K1:=hid ((k1.next1 k2).next1 k3);rw [s2,s1] at r3 s3;rw [s1] at e3
 (try rw [s2])
 (try rw [s1])
 obtain⟨tb,htb⟩:∃ tb,tb = w.heap.size:=⟨_,rfl⟩;obtain⟨lb,hlb⟩:∃ lb,lb = w.heap.size + 1:=⟨_,rfl⟩;obtain⟨rb,hrb⟩:∃ rb,rb = w.heap.size + 1 + 1:=⟨_,rfl⟩;rw [<- hrb] at r3
 (try rw [<- hrb])
 rw [<- hlb] at e3
 (try rw [<- hlb])
 rw [<- htb] at t3
 (try rw [<- htb])
 have HTR:=hid (show tb≠rb by omega)
 have HTL:=hid (show tb≠lb by omega)
 have HTB:=hid (show ¬ tb < w.heap.size by omega)
 have HRB:=hid (show ¬ rb < w.heap.size by omega)
 have HWS:=hid (show w.heap.size<=w1.heap.size by omega)
 have T1:=hid t3;have E1:=hid e3;have R1:=hid r3;have c0:w1.cell? ⟨lb,0,none⟩ = some (.int .i64 nm):=by rw [cell_of_row w1 lb 0 _ _ _ E1.out]; exact hD0
 clear k1 t1 s1 k2 e2 s2 t2 k3 r3 s3 t3 e3 htb hlb hrb;have hn1:¬ nm < 1:=by omega
 have hn2:¬ nm > 64:=by omega
 clear hnb hnn;refine wp_region_lit ?_;iterate 8 (refine wW λK hK=>?_;go_simp;apply hK;clear hK K)
 clear hn1 hn2;have hpge:pl>=0:=hix;have hpge2:(0:Int)<=pl:=hix;clear hix
 go_upto_region 3 with fail
 refine wp_region_lit ?_;refine wLk 25 (.tmp 2) rfl (tb) (0) rfl (.agg #[.slice lad ln lc,.slice pad pn pc]) (run_loadVar_row w1 tb 25 25 _ (0,0) _ T1.out Tryz.underlying25 rfl treeInfo) ?_
 simp only [Act.put,sA,sB,sC];iterate 2 (refine wW λK hK=>?_;go_simp;apply hK;clear hK K)
 refine wW λK hK=>?_;go_simp;go_at_call 38
 refine(HPL.out _ K1.out).mono ?_;rintro e w2 ⟨rfl,k2⟩;have K2:=hid (K1.out.next1 k2);have T2:=hid (rk T1.out k2);have R2:=hid (rk R1.out k2);have E2:=hid (rk E1.out k2);clear k2;clear c0;apply hK;clear hK K;refine wW λK hK=>?_;go_simp;apply hK;clear hK K
 go_upto_region 4 with fail
 refine wp_region_lit ?_;refine @wpL_build0 _ _ _ _ _ _ _ ?_ 25 rfl _ (build_tree0 _) ?_;kernel_rfl
 simp only [Act.put,sA,sB,sC];refine wpList_store_row rfl 25 _ _ rfl (rb) #[.slice none 0 0,.slice none 0 0] rfl rfl 25 #[.slice none 0 0,.slice none 0 0] R2.out treeInfo rfl (tree_all _ _ _ _ _ _) ?_
 simp only [Act.put];iterate 2 (refine wW λK hK=>?_;go_simp;apply hK;clear hK K)
 have RZ:=setRow_heap w2 rb _ #[.slice none 0 0,.slice none 0 0] _ _ R2.out;have KZ:=hid (K2.out.grown (grown_setRow w2 rb #[.slice none 0 0,.slice none 0 0]) K2.out.size (λk e=>by cases e; exact Nat.le_of_not_lt HRB.out))
 generalize w2.setRow rb #[.slice none 0 0,.slice none 0 0] = wz at RZ KZ |-;go_wp2;refine bodyPost_ret (results_row3 rfl _ _ rb 25 _ (0,0) _ rfl RZ Tryz.underlying25 rfl treeInfo) rfl ?_
 exact⟨rfl,KZ.out⟩
theorem refadd_bad9 (lv pv:Value)(L:List Lf)(P:List Pr)(l:Lf)(w:World)(hL:Lvs w lv L)(hP:Pts w pv P)(hn:L.length<=1000)(hp:P.length<=1000)(hpl:∀ p∈P,p.loose.length<=1000)(hlo:l.Ok)(hnn:(decide (1<=l.name) && decide (l.name<=64)) = true)(hix:Tt.index L l.name = -1)(hfb:Tt.firstBlank L = 64):
  Calls Tryz.prog 41 #[.agg #[lv,pv],.agg l.cells.toArray] w λe w'=>e = .returned (.tuple #[.agg #[.slice none 0 0,.slice none 0 0],.int .i64 0,.int .i64 9])/\Kept w.heap.size w.heap.size w w':=by
 have hnb:1<=l.name/\l.name<=64:=by
  rw [Bool.and_eq_true,decide_eq_true_eq,decide_eq_true_eq] at hnn;exact hnn
 have hpla:Tt.rplace L l.name = Tt.index L l.name:=by
  unfold Tt.rplace;rw [if_pos (by omega)]
 have HPL:=hid (λ(x:World) (k:Kept w.heap.size w.heap.size w x)=>refplace_calls lv pv L l.name x (hL.kept k) hn (by obtain⟨pad,pc,rfl⟩:=hP.shape; exact⟨_,_,_,rfl⟩))
 rw [hpla] at HPL;rw [hix] at HPL;have HCP:=hid (λ(u:World) (kk:Kept w.heap.size w.heap.size w u)=>refcopy_calls lv pv L P u (hL.kept kk) (hP.kept kk) hn hp hpl)
 have hfl:=Tt.firstBlank_le L;have HF1:=hid (Tt.firstBlank_lt L);have HF2:=hid (Tt.firstBlank_is L);clear hpla hix;obtain⟨fb,hfbe⟩:∃ fb,fb = Tt.firstBlank L:=⟨_,rfl⟩;rw [<- hfbe] at hfl HF1 HF2;have H64:=hid (show fb = 64 by rw [hfbe]; exact hfb)
 clear hfb hfbe;obtain⟨lad,lc,rfl⟩:=hL.shape;obtain⟨pad,pc,rfl⟩:=hP.shape;obtain⟨ln,hln⟩:∃ ln,ln = L.length:=⟨_,rfl⟩;obtain⟨pn,hpn⟩:∃ pn,pn = P.length:=⟨_,rfl⟩;obtain⟨nm,hnm⟩:∃ nm,nm = l.name:=⟨_,rfl⟩;rw [<- hln,<- hpn] at HPL HCP |-;rw [<- hln] at hfl;rw [<- hnm] at HPL hnb hnn;have hln9:(ln:Int)<=1000:=by omega
 have HLN:=hid hln;have HPN:=hid hpn;have HOK:=hid hlo;have hlsz:=Lf.size hlo;have hlal:=l.all;have hD0:l.cells.toArray[0]? = some (.int .i64 nm):=by rw [hnm]; exact l.at_name
 obtain⟨D,hD⟩:∃ D,D = l.cells.toArray:=⟨_,rfl⟩;rw [<- hD] at hlsz hlal hD0 |-;have HDE:=hid hD;have HSZ:=hid hlsz;have HAL:=hid hlal;clear hL hP hn hp hpl hlo hln hpn hnm hlsz hlal hD;have k1:=kA w (.cells #[.slice lad ln lc,.slice pad pn pc] 25)
 have t1:=heap_new w (.cells #[.slice lad ln lc,.slice pad pn pc] 25)
 have s1:(w.alloc (.cells #[.slice lad ln lc,.slice pad pn pc] 25)).heap.size = w.heap.size + 1:=by simp
 go_enter Tryz.func41,Tryz.ntmps41
 go_upto_region 1 with fail
 generalize w.alloc (.cells #[.slice lad ln lc,.slice pad pn pc] 25) = wa at k1 t1 s1 |-
 have k2:=kA wa (.cells D 48)
 have e2:=heap_new wa (.cells D 48)
 have s2:(wa.alloc (.cells D 48)).heap.size = wa.heap.size + 1:=by simp
 have t2:=rk t1 k2;generalize wa.alloc (.cells D 48) = wb at k2 e2 s2 t2 |-
 have k3:=kA wb (.cells #[.slice none 0 0,.slice none 0 0] 25)
 have r3:=heap_new wb (.cells #[.slice none 0 0,.slice none 0 0] 25)
 have s3:(wb.alloc (.cells #[.slice none 0 0,.slice none 0 0] 25)).heap.size = wb.heap.size + 1:=by simp
 have t3:=rk t2 k3;have e3:=rk e2 k3;generalize wb.alloc (.cells #[.slice none 0 0,.slice none 0 0] 25) = w1 at k3 r3 s3 t3 e3 |-
 have K1:=hid ((k1.next1 k2).next1 k3);rw [s2,s1] at r3 s3;rw [s1] at e3
 (try rw [s2])
 (try rw [s1])
 obtain⟨tb,htb⟩:∃ tb,tb = w.heap.size:=⟨_,rfl⟩;obtain⟨lb,hlb⟩:∃ lb,lb = w.heap.size + 1:=⟨_,rfl⟩;obtain⟨rb,hrb⟩:∃ rb,rb = w.heap.size + 1 + 1:=⟨_,rfl⟩;rw [<- hrb] at r3
 (try rw [<- hrb])
 rw [<- hlb] at e3
 (try rw [<- hlb])
 rw [<- htb] at t3
 (try rw [<- htb])
 have HTR:=hid (show tb≠rb by omega)
 have HTL:=hid (show tb≠lb by omega)
 have HTB:=hid (show ¬ tb < w.heap.size by omega)
 have HRB:=hid (show ¬ rb < w.heap.size by omega)
 have HWS:=hid (show w.heap.size<=w1.heap.size by omega)
 have T1:=hid t3;have E1:=hid e3;have R1:=hid r3;have c0:w1.cell? ⟨lb,0,none⟩ = some (.int .i64 nm):=by rw [cell_of_row w1 lb 0 _ _ _ E1.out]; exact hD0
 clear k1 t1 s1 k2 e2 s2 t2 k3 r3 s3 t3 e3 htb hlb hrb;have hn1:¬ nm < 1:=by omega
 have hn2:¬ nm > 64:=by omega
 clear hnb hnn;have HFL:=hid hfl;clear hfl;refine wp_region_lit ?_;iterate 8 (refine wW λK hK=>?_;go_simp;apply hK;clear hK K)
 clear hn1 hn2
 go_upto_region 3 with fail
 refine wp_region_lit ?_;refine wLk 25 (.tmp 2) rfl (tb) (0) rfl (.agg #[.slice lad ln lc,.slice pad pn pc]) (run_loadVar_row w1 tb 25 25 _ (0,0) _ T1.out Tryz.underlying25 rfl treeInfo) ?_
 simp only [Act.put,sA,sB,sC];iterate 2 (refine wW λK hK=>?_;go_simp;apply hK;clear hK K)
 refine wW λK hK=>?_;go_simp;go_at_call 38
 refine(HPL.out _ K1.out).mono ?_;rintro e w2 ⟨rfl,k2⟩;have K2:=hid (K1.out.next1 k2);have T2:=hid (rk T1.out k2);have R2:=hid (rk R1.out k2);have E2:=hid (rk E1.out k2);clear k2;clear c0;apply hK;clear hK K;refine wW λK hK=>?_;go_simp;apply hK;clear hK K
 go_upto_region 5 with fail
 refine wp_region_lit ?_;refine wLk 25 (.tmp 2) rfl (tb) (0) rfl (.agg #[.slice lad ln lc,.slice pad pn pc]) (run_loadVar_row w2 tb 25 25 _ (0,0) _ T2.out Tryz.underlying25 rfl treeInfo) ?_
 simp only [Act.put,sA,sB,sC];refine wW λK hK=>?_;go_simp;go_at_call 42
 refine(HCP.out _ K2.out).mono ?_;rintro e w6 ⟨lv6,pv6,rfl,k6,SL6,m6⟩;obtain⟨lad6,lc6,rfl⟩:=m6.lvs.shape;obtain⟨pad6,pc6,rfl⟩:=m6.pts.shape;rw [<- HLN.out,<- HPN.out] at m6 |-;have K6:=hid (K2.out.next1 k6);have T6:=hid (rk T2.out k6);have R6:=hid (rk R2.out k6);have E6:=hid (rk E2.out k6);clear k6;apply hK;clear hK K;refine wpList_store_row rfl 25 _ _ rfl (tb) #[.slice lad6 ln lc6,.slice pad6 pn pc6] rfl rfl 25 #[.slice lad ln lc,.slice pad pn pc] T6.out treeInfo rfl (tree_all _ _ _ _ _ _) ?_
 simp only [Act.put];obtain⟨sz,hsz⟩:∃ sz,sz = w2.heap.size:=⟨_,rfl⟩;have HTZ:=hid (show tb < sz by rw [hsz]; exact lt_of_block T2.out)
 have HRZ:=hid (show rb < sz by rw [hsz]; exact lt_of_block R2.out)
 have HLZ:=hid (show lb < sz by rw [hsz]; exact lt_of_block E2.out)
 have HWZ:=hid (show w.heap.size<=sz by rw [hsz]; exact K2.out.size)
 rw [<- hsz] at m6;have g7:=grown_setRow w6 tb #[.slice lad6 ln lc6,.slice pad6 pn pc6];have M7:=hid (m6.aside (b:=tb) HTZ.out g7);have F7:=hid ((K6.out.fr (B:=λk=>k < w.heap.size)).trans (grown_fr (B:=λk=>k < w.heap.size) g7 (λk e b=>by cases e; exact HTB.out b)))
 have R7:=hid ((g7.block rb (lt_of_block R6.out) (λe=>HTR.out (Option.some.inj e).symm)).trans R6.out)
 have E7:=hid ((g7.block lb (lt_of_block E6.out) (λe=>HTL.out (Option.some.inj e).symm)).trans E6.out)
 have T7:Hid ((w6.setRow tb #[.slice lad6 ln lc6,.slice pad6 pn pc6]).heap[tb]? = some (.cells #[.slice lad6 ln lc6,.slice pad6 pn pc6] 25 (0,0))):=hid (setRow_heap w6 tb _ #[.slice lad6 ln lc6,.slice pad6 pn pc6] _ _ T6.out)
 generalize w6.setRow tb #[.slice lad6 ln lc6,.slice pad6 pn pc6] = w7 at M7 F7 R7 E7 T7 |-;clear m6 hsz g7 K6 T6 R6 E6;go_wp2
 go_loopw [7] (λs7 wr=>∃ i:Nat,s7 = .int .i64 (i:Int)/\Hid (i<=fb)/\Hid (Mine (λk=>k < sz) wr (.slice lad6 ln lc6) (.slice pad6 pn pc6) L P SL6)/\Hid (Frm (λk=>k < w.heap.size) w wr)/\Hid (wr.heap[tb]? = some (.cells #[.slice lad6 ln lc6,.slice pad6 pn pc6] 25 (0,0)))/\Hid (wr.heap[rb]? = some (.cells #[.slice none 0 0,.slice none 0 0] 25 (0,0)))/\Hid (wr.heap[lb]? = some (.cells D 48 (0,0)))) (λs7 _=>fb - (RowKit.intOf s7).toNat)
 case atStart=>exact⟨0,rfl,hid (Nat.zero_le _),M7,F7,T7,R7,E7⟩
 case round=>
  clear M7 F7 T7 R7 E7;obtain⟨i,rfl,hi,HM,HF,HT,HR,HE⟩:=hrel;have t0:=two_cell0 HT.out
  by_cases hlt:i < fb
  ·obtain⟨lx,hlx,hnx⟩:=HF1.out i hlt
   have hiL:i < L.length:=(List.getElem?_eq_some_iff.1 hlx).1;have hlti:(i:Int) < (ln:Int):=by have:=HFL.out; omega
   have hi0:¬ (i:Int) < 0:=by omega
   obtain⟨g1,had1,hg1,hokx,hr1⟩:=HM.out.leafRow i hiL;subst had1;rw [(List.getElem?_eq_some_iff.1 hlx).2] at hr1
   have c0:wr.cell? ⟨g1,i * 97,none⟩ = some (.int .i64 lx.name):=by
    have h8:=hr1 0 (.int .i64 lx.name) (by simp [Lf.cells])
    simpa using h8
   obtain⟨nx,hnx2⟩:∃ nx,nx = lx.name:=⟨_,rfl⟩;rw [<- hnx2] at c0 hnx;have HNB:=hid (show(nx != 0) = true by rw [bne_iff_ne]; exact hnx)
   have HLT:=hid hlt;clear hlt hi hokx hlx hnx hiL hg1 hr1 hnx2
   go_upto_region 7 with fail
   refine wp_region_lit ?_;iterate 12 (refine wW λK hK=>?_;go_simp;apply hK;clear hK K)
   refine wW λK hK=>?_;go_simp;rw [HNB.out];apply hK;clear hK K;refine wW λK hK=>?_;go_simp;apply hK;clear hK K;clear c0 t0;go_wp2
   go_roundw
   case rel=>exact⟨i + 1,by simp,hid HLT.out,HM,HF,HT,HR,HE⟩
   case measure=>have:=HLT.out; simp [RowKit.intOf]; omega
  ·have HIE:=hid (show i = fb by have:=hi.out; omega)
   clear hlt hi;obtain rfl:=HIE.out
   by_cases hf:i < ln
   ·obtain⟨lx,hlx,hnx⟩:=HF2.out (by rw [<- HLN.out]; exact hf)
    have hiL:i < L.length:=(List.getElem?_eq_some_iff.1 hlx).1;have hlti:(i:Int) < (ln:Int):=by omega
    have hi0:¬ (i:Int) < 0:=by omega
    obtain⟨g1,had1,hg1,hokx,hr1⟩:=HM.out.leafRow i hiL;subst had1;rw [(List.getElem?_eq_some_iff.1 hlx).2] at hr1
    have c0:wr.cell? ⟨g1,i * 97,none⟩ = some (.int .i64 lx.name):=by
     have h8:=hr1 0 (.int .i64 lx.name) (by simp [Lf.cells])
     simpa using h8
    obtain⟨nx,hnx2⟩:∃ nx,nx = lx.name:=⟨_,rfl⟩;rw [<- hnx2] at c0 hnx;have HNB:=hid (show(nx != 0) = false by rw [hnx]; rfl)
    have HHF:=hid hf;clear hf hokx hlx hnx hiL hg1 hr1 hnx2
    go_upto_region 7 with fail
    refine wp_region_lit ?_;iterate 12 (refine wW λK hK=>?_;go_simp;apply hK;clear hK K)
    refine wW λK hK=>?_;go_simp;rw [HNB.out];apply hK;clear hK K;refine wW λK hK=>?_;go_simp;apply hK;clear hK K;clear c0 hi0 hlti;have hf64:((i:Int) == 64) = true:=by rw [beq_iff_eq]; have:=H64.out; omega
    go_upto_region 9 with fail
    refine wp_region_lit ?_;iterate 2 (refine wW λK hK=>?_;go_simp;apply hK;clear hK K)
    clear t0
    go_upto_region 10 with fail
    refine wp_region_lit ?_;refine @wpL_build0 _ _ _ _ _ _ _ ?_ 25 rfl _ (build_tree0 _) ?_;kernel_rfl
    simp only [Act.put,sA,sB,sC];refine wpList_store_row rfl 25 _ _ rfl (rb) #[.slice none 0 0,.slice none 0 0] rfl rfl 25 #[.slice none 0 0,.slice none 0 0] HR.out treeInfo rfl (tree_all _ _ _ _ _ _) ?_
    simp only [Act.put];iterate 2 (refine wW λK hK=>?_;go_simp;apply hK;clear hK K)
    have RZ:=setRow_heap wr rb _ #[.slice none 0 0,.slice none 0 0] _ _ HR.out;have gz:=grown_setRow wr rb #[.slice none 0 0,.slice none 0 0];have KZ:=hid ((HF.out.trans (grown_fr (B:=λk=>k < w.heap.size) gz (λk e b=>by cases e; exact HRB.out b))).kept (λk hk=>hk))
    generalize wr.setRow rb #[.slice none 0 0,.slice none 0 0] = wz at RZ KZ gz |-;go_wp2;refine bodyPost_ret (results_row3 rfl _ _ rb 25 _ (0,0) _ rfl RZ Tryz.underlying25 rfl treeInfo) rfl ?_
    exact⟨rfl,KZ.out⟩
   ·have hlti:¬ (i:Int) < (ln:Int):=by omega
    have HHF:=hid (show i = ln by have:=HFL.out; omega)
    clear hf
    go_upto_region 7 with fail
    refine wp_region_lit ?_;iterate 6 (refine wW λK hK=>?_;go_simp;apply hK;clear hK K)
    (iterate 7 (refine @wpList_skip _ _ _ _ _ _ _ ?_ ?_;kernel_rfl;simp only [Act.put,sA,sB,sC]));refine wW λK hK=>?_;go_simp;apply hK;clear hK K;clear hlti;have hf64:((i:Int) == 64) = true:=by rw [beq_iff_eq]; have:=H64.out; omega
    go_upto_region 9 with fail
    refine wp_region_lit ?_;iterate 2 (refine wW λK hK=>?_;go_simp;apply hK;clear hK K)
    clear t0
    go_upto_region 10 with fail
    refine wp_region_lit ?_;refine @wpL_build0 _ _ _ _ _ _ _ ?_ 25 rfl _ (build_tree0 _) ?_;kernel_rfl
    simp only [Act.put,sA,sB,sC];refine wpList_store_row rfl 25 _ _ rfl (rb) #[.slice none 0 0,.slice none 0 0] rfl rfl 25 #[.slice none 0 0,.slice none 0 0] HR.out treeInfo rfl (tree_all _ _ _ _ _ _) ?_
    simp only [Act.put];iterate 2 (refine wW λK hK=>?_;go_simp;apply hK;clear hK K)
    have RZ:=setRow_heap wr rb _ #[.slice none 0 0,.slice none 0 0] _ _ HR.out;have gz:=grown_setRow wr rb #[.slice none 0 0,.slice none 0 0];have KZ:=hid ((HF.out.trans (grown_fr (B:=λk=>k < w.heap.size) gz (λk e b=>by cases e; exact HRB.out b))).kept (λk hk=>hk))
    generalize wr.setRow rb #[.slice none 0 0,.slice none 0 0] = wz at RZ KZ gz |-;go_wp2;refine bodyPost_ret (results_row3 rfl _ _ rb 25 _ (0,0) _ rfl RZ Tryz.underlying25 rfl treeInfo) rfl ?_
    exact⟨rfl,KZ.out⟩
end Go.Proofs.YtinebhdilnndaaaGreatDoor
