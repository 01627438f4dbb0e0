/-
 TreeRefBlank; TreeRefRenew; TreeRefRemove: several texts in one.
-/
import Derived.Test.YtinebhdilnndaaaGreatDoorHA
import Derived.Test.YtinebhdilnndaaaGreatDoorHB
import Derived.Test.YtinebhdilnndaaaGreatDoorHK
set_option maxRecDepth 100000
set_option maxHeartbeats 6400000
namespace Go.Proofs.YtinebhdilnndaaaGreatDoor
open Go.RowKit Go.Lib
open List renaming setIfInBounds_toArray -> sA, set_cons_zero -> sB, set_cons_succ -> sC
open BigFrame renaming wpList_want -> wQ
theorem refblank_calls (lv pv:Value)(L:List Lf)(P:List Pr)(x:Int)(w:World)(hL:Lvs w lv L)(hP:Pts w pv P)(hn:L.length<=1000)(hp:P.length<=1000)(hpl:∀ p∈P,p.loose.length<=1000):
  Calls Tryz.prog 63 #[.agg #[lv,pv],.int .i64 x] w λe w'=>∃ lv' pv',e = .returned (.agg #[lv',pv'])/\Kept w.heap.size w.heap.size w w'/\∃ SL,Mine (λk=>k < w.heap.size) w' lv' pv' L (Tt.holdsTo (L.length:Int) x P P.length) SL:=by
 have HCP:=hid (λ(u:World) (kk:Kept w.heap.size w.heap.size w u)=>refcopy_calls lv pv L P u (hL.kept kk) (hP.kept kk) hn hp hpl)
 obtain⟨lad,lc,rfl⟩:=hL.shape;obtain⟨pad,pc,rfl⟩:=hP.shape;obtain⟨ln,hln⟩:∃ ln,ln = L.length:=⟨_,rfl⟩;obtain⟨pn,hpn⟩:∃ pn,pn = P.length:=⟨_,rfl⟩;rw [<- hln,<- hpn] at HCP |-;have hln9:(ln:Int)<=1000:=by omega
 have hpn9:(pn:Int)<=1000:=by omega
 have HLN:=hid hln;have HPN:=hid hpn;have HPB:=hid (show pn<=1000 by omega)
 clear hL hP hn hp hpl hln hpn;have k1:=kA w (.cells #[.slice lad ln lc,.slice pad pn pc] 25)
 have t1:=heap_new w (.cells #[.slice lad ln lc,.slice pad pn pc] 25)
 have s1:(w.alloc (.cells #[.slice lad ln lc,.slice pad pn pc] 25)).heap.size = w.heap.size + 1:=by simp
 go_enter Tryz.func63,Tryz.ntmps63
 go_upto_region 1 with fail
 generalize w.alloc (.cells #[.slice lad ln lc,.slice pad pn pc] 25) = wa at k1 t1 s1 |-
 have k2:=kA wa (.cells #[.slice none 0 0,.slice none 0 0] 25)
 have r2:=heap_new wa (.cells #[.slice none 0 0,.slice none 0 0] 25)
 have s2:(wa.alloc (.cells #[.slice none 0 0,.slice none 0 0] 25)).heap.size = wa.heap.size + 1:=by simp
 have t2:=rk t1 k2;generalize wa.alloc (.cells #[.slice none 0 0,.slice none 0 0] 25) = w1 at k2 r2 s2 t2 |-
 have K1:=hid (k1.next1 k2);rw [s1] at r2 s2
 (try rw [s1])
 obtain⟨tb,htb⟩:∃ tb,tb = w.heap.size:=⟨_,rfl⟩;obtain⟨rb,hrb⟩:∃ rb,rb = w.heap.size + 1:=⟨_,rfl⟩;rw [<- hrb] at r2
 (try rw [<- hrb])
 rw [<- htb] at t2
 (try rw [<- htb])
 have HTR:=hid (show tb≠rb by omega)
 have HWT:=hid (show ¬ tb < w.heap.size by omega)
 have HWR:=hid (show ¬ rb < w.heap.size by omega)
 have HWS:=hid (show w.heap.size<=w1.heap.size by omega)
 have T1:=hid t2;have R1:=hid r2;clear k1 t1 s1 k2 r2 s2 t2 htb hrb;refine wp_region_lit ?_;refine wLk 25 (.tmp 2) rfl (tb) (0) rfl (.agg #[.slice lad ln lc,.slice pad pn pc]) (run_loadVar_row w1 tb 25 25 _ (0,0) _ T1.out Tryz.underlying25 rfl treeInfo) ?_
 simp only [Act.put,sA,sB,sC];refine wW λK hK=>?_;go_simp;go_at_call 42
 refine(HCP.out _ K1.out).mono ?_;rintro e w6 ⟨lv6,pv6,rfl,k6,SL6,m6⟩;obtain⟨lad6,lc6,rfl⟩:=m6.lvs.shape;obtain⟨pad6,pc6,rfl⟩:=m6.pts.shape;rw [<- HLN.out,<- HPN.out] at m6 |-;have K6:=hid (K1.out.next1 k6);have T6:=hid (rk T1.out k6);have R6:=hid (rk R1.out k6);clear k6;apply hK;clear hK K;refine wpList_store_row rfl 25 _ _ rfl (tb) #[.slice lad6 ln lc6,.slice pad6 pn pc6] rfl rfl 25 #[.slice lad ln lc,.slice pad pn pc] T6.out treeInfo rfl (tree_all _ _ _ _ _ _) ?_
 simp only [Act.put];obtain⟨sz,hsz⟩:∃ sz,sz = w1.heap.size:=⟨_,rfl⟩;have HTB:=hid (show tb < sz by rw [hsz]; exact lt_of_block T1.out)
 have HRB:=hid (show rb < sz by rw [hsz]; exact lt_of_block R1.out)
 have HWZ:=hid (show w.heap.size<=sz by rw [hsz]; exact HWS.out)
 rw [<- hsz] at m6;have t7:=setRow_heap w6 tb _ #[.slice lad6 ln lc6,.slice pad6 pn pc6] _ _ T6.out;have g7:=grown_setRow w6 tb #[.slice lad6 ln lc6,.slice pad6 pn pc6];have m7:=m6.aside (b:=tb) HTB.out g7;have M7:Hid (Mine (λk=>k < sz) (w6.setRow tb #[.slice lad6 ln lc6,.slice pad6 pn pc6]) (.slice lad6 ln lc6) (.slice pad6 pn pc6) L (Tt.holdsTo (ln:Int) x P 0) SL6):=hid m7
 have K7:=hid (K6.out.grown g7 K6.out.size (λk e=>by cases e; exact Nat.le_of_not_lt HWT.out))
 have R7:=hid ((g7.block rb (lt_of_block R6.out) (λe=>HTR.out (Option.some.inj e).symm)).trans R6.out)
 have T7:Hid ((w6.setRow tb #[.slice lad6 ln lc6,.slice pad6 pn pc6]).heap[tb]? = some (.cells #[.slice lad6 ln lc6,.slice pad6 pn pc6] 25 (0,0))):=t7
 generalize w6.setRow tb #[.slice lad6 ln lc6,.slice pad6 pn pc6] = w7 at M7 K7 R7 T7 |-;clear m6 hsz t7 g7 m7 K6 T6 R6 K1 T1 R1 HCP HWS;go_wp2
 go_loopw [5] (λs5 wr=>∃ i:Nat,s5 = .int .i64 (i:Int)/\Hid (i<=pn)/\∃ SL,Hid (Mine (λk=>k < sz) wr (.slice lad6 ln lc6) (.slice pad6 pn pc6) L (Tt.holdsTo (ln:Int) x P i) SL)/\Hid (Kept w.heap.size w.heap.size w wr)/\Hid (wr.heap[tb]? = some (.cells #[.slice lad6 ln lc6,.slice pad6 pn pc6] 25 (0,0)))/\Hid (wr.heap[rb]? = some (.cells #[.slice none 0 0,.slice none 0 0] 25 (0,0)))) (λs5 _=>pn - (RowKit.intOf s5).toNat)
 case atStart=>exact⟨0,rfl,hid (Nat.zero_le _),_,M7,K7,T7,R7⟩
 case round=>
  clear M7 K7 T7 R7;obtain⟨i,rfl,hi,SL,HM,HK,HT,HR⟩:=hrel
  by_cases hlt:i < pn
  ·have hlti:(i:Int) < (pn:Int):=by omega
   have hi0:¬ (i:Int) < 0:=by omega
   have hnx:Tt.holdsTo (ln:Int) x P (i + 1) = Tt.hold1 (ln:Int) x (Tt.holdsTo (ln:Int) x P i) i:=rfl;have hlen:(Tt.holdsTo (ln:Int) x P i).length = pn:=by rw [Tt.holdsTo_length,HPN.out]
   have HW0:=hid (show IntKind.i64.wrap (2 * (i:Int)) = ((2 * i:Nat):Int) by rw [wrap_small _ (by omega) (by omega)]; omega)
   have HW1:=hid (show IntKind.i64.wrap (((2 * i:Nat):Int) + 1) = ((2 * i + 1:Nat):Int) by rw [wrap_small _ (by omega) (by omega)]; omega)
   obtain⟨z,hz⟩:∃ z,z = ((2 * i:Nat):Int):=⟨_,rfl⟩;obtain⟨y,hy⟩:∃ y,y = ((2 * i + 1:Nat):Int):=⟨_,rfl⟩;obtain⟨hd,hhd⟩:∃ hd,hd = Bo.Holds (ln:Int) ((2 * i + 1:Nat):Int) x:=⟨_,rfl⟩;rw [Tt.hold1,<- hhd] at hnx;have HRH:=hid (λu=>rholds_calls (ln:Int) ((2 * i + 1:Nat):Int) x u)
   rw [<- hhd] at HRH;rw [<- hy] at HRH HW1;rw [<- hz] at HW0 HW1;have HNX:=hid hnx;have HLEN:=hid hlen;have HLT:=hid hlt;have t0:=two_cell0 HT.out;have t1:=two_cell1 HT.out;clear hi hlt hnx hlen hz hy hhd
   go_upto_region 5 with fail
   refine wp_region_lit ?_;iterate 5 (refine wW λK hK=>?_;go_simp;apply hK;clear hK K)
   rw [HW0.out];refine wW λK hK=>?_;go_simp;apply hK;clear hK K;rw [HW1.out];refine wW λK hK=>?_;go_simp;apply hK;clear hK K;refine wW λK hK=>?_;go_simp;go_at_call 59
   refine(HRH.out _).mono ?_;rintro e wq ⟨rfl,hwq⟩;subst wq;apply hK;clear hK K
   cases hd with
   | true=>
    obtain⟨g,cap,hpv,hgb,hth,hm2,hg2⟩:=HM.out.blank i (by rw [HLEN.out]; exact HLT.out)
    rw [HLEN.out] at hpv;injection hpv with hpa hpx hpc
    subst hpa; subst hpc;clear hpx;have M3:=hid hm2;have K3:=hid (HK.out.grown hg2 HK.out.size (λk2 e=>by cases e; have:=HWZ.out; exact Nat.le_of_not_lt (λh=>hgb (by omega))))
    have T3:=hid ((hg2.block tb (lt_of_block HT.out) (λe=>hgb (by rw [<- Option.some.inj e]; exact HTB.out))).trans HT.out)
    have R3:=hid ((hg2.block rb (lt_of_block HR.out) (λe=>hgb (by rw [<- Option.some.inj e]; exact HRB.out))).trans HR.out)
    have HTH:=hid hth;clear hgb hth hm2 hg2 HM HK
    go_upto_region 6 with fail
    refine wp_region_lit ?_;iterate 3 (refine wW λK hK=>?_;go_simp;apply hK;clear hK K)
    refine @wpL_build0 _ _ _ _ _ _ _ ?_ 68 rfl _ (build_parent0 _) ?_;kernel_rfl
    simp only [Act.put,sA,sB,sC];refine wW λK hK=>?_;go_simp;apply hK;clear hK K;refine @wpL_store_mid _ _ _ _ _ _ _ ?_ 68 _ _ rfl (g) (i * 66) (Pr.zero.cells (.slice none 0 0)).toArray rfl rfl (by rw [Pr.size Pr.zero_ok]; exact HTH.out) (parentInfo (Pr.size Pr.zero_ok _)) (Pr.all _ _ _ _) ?_;kernel_rfl
    simp only [Act.put];generalize wr.setCells g (i * 66) (Pr.zero.cells (.slice none 0 0)).toArray.toList = w5 at *;go_wp2
    go_roundw
    case rel=>exact⟨i + 1,by simp,hid HLT.out,_,by rw [HNX.out,if_pos rfl]; exact M3,K3,T3,R3⟩
    case measure=>have:=HLT.out; simp [RowKit.intOf]; omega
   | false=>
    go_wp2
    go_roundw
    case rel=>exact⟨i + 1,by simp,hid HLT.out,_,by rw [HNX.out,if_neg (by decide)]; exact HM,HK,HT,HR⟩
    case measure=>have:=HLT.out; simp [RowKit.intOf]; omega
  ·have hnl:¬ (i:Int) < (pn:Int):=by omega
   have HE:=hid (show i = pn by have:=hi.out; omega)
   have t1:=two_cell1 HT.out;clear hlt hi
   go_upto_region 7 with fail
   clear t1;refine wp_region_lit ?_;refine wLk 25 (.tmp 2) rfl (tb) (0) rfl (.agg #[.slice lad6 ln lc6,.slice pad6 pn pc6]) (run_loadVar_row wr tb 25 25 _ (0,0) _ HT.out Tryz.underlying25 rfl treeInfo) ?_
   simp only [Act.put,sA,sB,sC];refine wpList_store_row rfl 25 _ _ rfl (rb) #[.slice lad6 ln lc6,.slice pad6 pn pc6] rfl rfl 25 #[.slice none 0 0,.slice none 0 0] HR.out treeInfo rfl (tree_all _ _ _ _ _ _) ?_
   simp only [Act.put];have R9:=setRow_heap wr rb _ #[.slice lad6 ln lc6,.slice pad6 pn pc6] _ _ HR.out;have g9:=grown_setRow wr rb #[.slice lad6 ln lc6,.slice pad6 pn pc6];have M9:=hid (HM.out.aside (b:=rb) HRB.out g9);have K9:=hid (HK.out.grown g9 HK.out.size (λk e=>by cases e; exact Nat.le_of_not_lt HWR.out))
   generalize wr.setRow rb #[.slice lad6 ln lc6,.slice pad6 pn pc6] = w9 at R9 g9 M9 K9 |-;go_wp2;refine bodyPost_ret (results_cell_row rfl _ _ rb 25 _ (0,0) _ rfl R9 Tryz.underlying25 rfl treeInfo) rfl ?_
   refine⟨_,_,rfl,K9.out,SL,?_⟩;have hm:=M9.out;rw [HE.out] at hm;exact hm.mono (λk b=>Nat.lt_of_lt_of_le b HWZ.out)
theorem refrenew_ok (lv pv:Value)(L:List Lf)(P:List Pr)(k:Nat)(pub:List UInt8)(hpub:pub.length = 32)(w:World)(hL:Lvs w lv L)(hP:Pts w pv P)(hn:L.length<=1000)(hp:P.length<=1000)(hpl:∀ p∈P,p.loose.length<=1000)(hn64:L.length<=64)(hk:k < L.length)(hpe:P.length = L.length - 1)(hno:Tt.none L (k:Int) = false):
  Calls Tryz.prog 37 #[.agg #[lv,pv],.int .i64 (k:Int),.agg (bcells pub).toArray] w λe w'=>∃ lv' pv',e = .returned (.tuple #[.agg #[lv',pv'],.int .i64 0])/\Kept w.heap.size w.heap.size w w'/\∃ SL,Mine (λk=>k < w.heap.size) w' lv' pv' (L.set k (Tt.renewed L[k] pub)) (Tt.blanks (Bo.Direct L.length (k:Int)) P) SL:=by
 have HLK:=hid (λ(u:World) (kk:Kept w.heap.size w.heap.size w u)=>refnone_calls lv pv L (k:Int) u (hL.kept kk) hn (by obtain⟨pad,pc,rfl⟩:=hP.shape; exact⟨_,_,_,rfl⟩))
 rw [hno] at HLK;have HBK:=hid (λ(u:World) (kk:Kept w.heap.size w.heap.size w u)=>refblank_calls lv pv L P (k:Int) u (hL.kept kk) (hP.kept kk) hn hp hpl)
 rw [Tt.holds_blanks hn64 hk hpe] at HBK;obtain⟨P1,hP1⟩:∃ P1,P1 = Tt.blanks (Bo.Direct (L.length:Int) (k:Int)) P:=⟨_,rfl⟩;have hpn1:P1.length = P.length:=by rw [hP1,Tt.blanks_length]
 rw [<- hP1] at HBK;have HP1:=hid hP1;have HPN1:=hid hpn1;have HPE:=hid hpe;have HKL:=hid hk
 have hlok:L[k].Ok:=by
  obtain⟨_,_,_,_,_,h1,_⟩:=hL;exact(h1 k hk).2.2.1
 obtain⟨l,hl⟩:∃ l,l = L[k]:=⟨_,rfl⟩;rw [<- hl] at hlok;have HL:=hid (show ∀ h:k < L.length,l = L[k] from λ_=>hl)
 have HOK:=hid hlok;obtain⟨lad,lc,rfl⟩:=hL.shape;obtain⟨pad,pc,rfl⟩:=hP.shape;obtain⟨ln,hln⟩:∃ ln,ln = L.length:=⟨_,rfl⟩;obtain⟨pn,hpn⟩:∃ pn,pn = P.length:=⟨_,rfl⟩;have hkl:(k:Int) < (ln:Int):=by omega
 have hk0:¬ (k:Int) < 0:=by omega
 rw [<- hln,<- hpn] at HLK
 (try rw [<- hln] at HBK)
 (try rw [<- hpn] at HBK)
 rw [<- hln] at HP1;rw [<- hln,<- hpn];clear hno hn64 hpe hP1 hpn1 hlok hl;have hln9:(ln:Int)<=1000:=by omega
 have HLN:=hid hln;have HPN:=hid hpn;have HPB:=hid hpub;obtain⟨D,hD⟩:∃ D,D = (bcells pub).toArray:=⟨_,rfl⟩;have HDE:=hid hD;have hsz:D.size = 32:=by rw [hD,List.size_toArray,bcells_length,hpub]
 have HSZ:=hid hsz;have hinf:(Tryz.prog.info? 30).map (·.size) = some D.size:=by rw [hD]; exact hashInfoT (by rw [bcells_length,hpub])
 have HINF:=hid hinf;have HALL:=hid (show D.all (·.oneCell') = true by rw [hD]; exact bytesAll pub)
 rw [<- hD];clear hpub hD hsz hinf;clear hL hP hn hp hpl hln hpn;have k1:=kA w (.cells #[.slice lad ln lc,.slice pad pn pc] 25)
 have t1:=heap_new w (.cells #[.slice lad ln lc,.slice pad pn pc] 25)
 have s1:(w.alloc (.cells #[.slice lad ln lc,.slice pad pn pc] 25)).heap.size = w.heap.size + 1:=by simp
 go_enter Tryz.func37,Tryz.ntmps37
 go_upto_region 1 with fail
 generalize w.alloc (.cells #[.slice lad ln lc,.slice pad pn pc] 25) = wa at k1 t1 s1 |-
 have k2:=kA wa (.cells D 30)
 have e2:=heap_new wa (.cells D 30)
 have s2:(wa.alloc (.cells D 30)).heap.size = wa.heap.size + 1:=by simp
 have t2:=rk t1 k2;generalize wa.alloc (.cells D 30) = wb at k2 e2 s2 t2 |-
 have k3:=kA wb (.cells #[.slice none 0 0,.slice none 0 0] 25)
 have r3:=heap_new wb (.cells #[.slice none 0 0,.slice none 0 0] 25)
 have s3:(wb.alloc (.cells #[.slice none 0 0,.slice none 0 0] 25)).heap.size = wb.heap.size + 1:=by simp
 have t3:=rk t2 k3;have e3:=rk e2 k3;generalize wb.alloc (.cells #[.slice none 0 0,.slice none 0 0] 25) = w1 at k3 r3 s3 t3 e3 |-
 have K1:=hid ((k1.next1 k2).next1 k3);rw [s2,s1] at r3 s3;rw [s1] at e3
 (try rw [s2])
 (try rw [s1])
 obtain⟨tb,htb⟩:∃ tb,tb = w.heap.size:=⟨_,rfl⟩;obtain⟨lb,hlb⟩:∃ lb,lb = w.heap.size + 1:=⟨_,rfl⟩;obtain⟨rb,hrb⟩:∃ rb,rb = w.heap.size + 1 + 1:=⟨_,rfl⟩;rw [<- hrb] at r3
 (try rw [<- hrb])
 rw [<- hlb] at e3
 (try rw [<- hlb])
 rw [<- htb] at t3
 (try rw [<- htb])
 have HTL:=hid (show tb≠lb by omega)
 have HTR:=hid (show tb≠rb by omega)
 have HTB:=hid (show ¬ tb < w.heap.size by omega)
 have HRB:=hid (show ¬ rb < w.heap.size by omega)
 have HWS:=hid (show w.heap.size<=w1.heap.size by omega)
 have T1:=hid t3;have R1:=hid r3;have E1:=hid e3;clear k1 t1 s1 k2 e2 s2 t2 k3 r3 s3 t3 e3 htb hlb hrb;refine wp_region_lit ?_;refine wLk 25 (.tmp 3) rfl (tb) (0) rfl (.agg #[.slice lad ln lc,.slice pad pn pc]) (run_loadVar_row w1 tb 25 25 _ (0,0) _ T1.out Tryz.underlying25 rfl treeInfo) ?_
 simp only [Act.put,sA,sB,sC];refine wW λK hK=>?_;go_simp;apply hK;clear hK K;refine wW λK hK=>?_;go_simp;go_at_call 62
 refine(HLK.out _ K1.out).mono ?_;rintro e w2 ⟨rfl,k2⟩;have K2:=hid (K1.out.next1 k2);have T2:=hid (rk T1.out k2);have R2:=hid (rk R1.out k2);have E2:=hid (rk E1.out k2);clear k2;apply hK;clear hK K
 go_upto_region 3 with fail
 refine wp_region_lit ?_;refine wLk 25 (.tmp 3) rfl (tb) (0) rfl (.agg #[.slice lad ln lc,.slice pad pn pc]) (run_loadVar_row w2 tb 25 25 _ (0,0) _ T2.out Tryz.underlying25 rfl treeInfo) ?_
 simp only [Act.put,sA,sB,sC];refine wW λK hK=>?_;go_simp;apply hK;clear hK K;refine wW λK hK=>?_;go_simp;go_at_call 63
 refine(HBK.out _ K2.out).mono ?_;rintro e w6 ⟨lv6,pv6,rfl,k6,SL6,m6⟩;obtain⟨lad6,lc6,rfl⟩:=m6.lvs.shape;obtain⟨pad6,pc6,rfl⟩:=m6.pts.shape;rw [HPN1.out] at m6 |-;rw [<- HLN.out,<- HPN.out] at m6 |-;have K6:=hid (K2.out.next1 k6);have T6:=hid (rk T2.out k6);have R6:=hid (rk R2.out k6);have E6:=hid (rk E2.out k6);clear k6;apply hK;clear hK K;refine wpList_store_row rfl 25 _ _ rfl (tb) #[.slice lad6 ln lc6,.slice pad6 pn pc6] rfl rfl 25 #[.slice lad ln lc,.slice pad pn pc] T6.out treeInfo rfl (tree_all _ _ _ _ _ _) ?_
 simp only [Act.put];obtain⟨sz,hsz⟩:∃ sz,sz = w2.heap.size:=⟨_,rfl⟩;have HTZ:=hid (show tb < sz by rw [hsz]; exact lt_of_block T2.out)
 have HRZ:=hid (show rb < sz by rw [hsz]; exact lt_of_block R2.out)
 have HWZ:=hid (show w.heap.size<=sz by rw [hsz]; exact K2.out.size)
 rw [<- hsz] at m6;have t7:=setRow_heap w6 tb _ #[.slice lad6 ln lc6,.slice pad6 pn pc6] _ _ T6.out;have g7:=grown_setRow w6 tb #[.slice lad6 ln lc6,.slice pad6 pn pc6];have m7:=m6.aside (b:=tb) HTZ.out g7;have F7:=hid ((K6.out.fr (B:=λk=>k < w.heap.size)).trans (grown_fr (B:=λk=>k < w.heap.size) g7 (λk e b=>by cases e; exact HTB.out b)))
 have R7:=hid ((g7.block rb (lt_of_block R6.out) (λe=>HTR.out (Option.some.inj e).symm)).trans R6.out)
 have HLZ:=hid (show lb < sz by rw [hsz]; exact lt_of_block E2.out)
 have E7:=hid ((g7.block lb (lt_of_block E6.out) (λe=>HTL.out (Option.some.inj e).symm)).trans E6.out)
 generalize w6.setRow tb #[.slice lad6 ln lc6,.slice pad6 pn pc6] = w7 at t7 m7 F7 R7 E7 |-;clear m6 hsz g7 K6 T6 R6 E6;obtain⟨g8,cap8,he8,hgb8,hth8,hm8,hg8⟩:=m7.leafPart k HKL.out (.mk l.name pub l.ver l.abv) ⟨HPB.out,HOK.out.2.1,HOK.out.2.2⟩ 1 (bcells pub) (by rw [bcells_length,HPB.out]; decide) (bcells_one pub) (by rw [<- HL.out HKL.out]; exact Lf.put_pub HOK.out pub HPB.out)
 rw [<- HLN.out] at he8;injection he8 with hea hez hec
 subst hea;clear hez hec;obtain⟨g9,cap9,he9,hgb9,hth9,hm9,hg9⟩:=hm8.leafPart k (by rw [List.length_set]; exact HKL.out) (Tt.renewed l pub) ⟨HPB.out,HOK.out.2.1,rfl⟩ 65 (bcells Tt.z32) (by decide) (bcells_one _) (by rw [List.getElem_set_self]; exact Lf.put_abv (l:=.mk l.name pub l.ver l.abv) ⟨HPB.out,HOK.out.2.1,HOK.out.2.2⟩ Tt.z32 rfl)
 rw [List.set_set] at hm9;injection he9 with hea hez hec
 injection hea with hea
 injection hea with hea heo hes
 subst hea;clear hez hec;rw [bcells_length,HPB.out] at hth8;have HTH8:=hid hth8;have HTH9:=hid (show(w7.setCells g8 (k * 97 + 1) (bcells pub)).there g8 (k * 97 + 65) 32 from hth9);have hne:∀ b,b < sz->some b≠some g8:=λb hb e=>hgb8 (by rw [<- Option.some.inj e]; exact hb)
 have hb8:=(hg8.block tb (lt_of_block t7) (hne tb HTZ.out)).trans t7;have hr8:=(hg8.block rb (lt_of_block R7.out) (hne rb HRZ.out)).trans R7.out;have hf8:=F7.out.trans (grown_fr (B:=λk=>k < w.heap.size) hg8 (λk e b=>by cases e; exact hgb8 (Nat.lt_of_lt_of_le b HWZ.out)))
 have hb9:=(hg9.block tb (lt_of_block hb8) (hne tb HTZ.out)).trans hb8;have hr9:=(hg9.block rb (lt_of_block hr8) (hne rb HRZ.out)).trans hr8;have hf9:=hf8.trans (grown_fr (B:=λk=>k < w.heap.size) hg9 (λk e b=>by cases e; exact hgb8 (Nat.lt_of_lt_of_le b HWZ.out)))
 have hdl:bcells pub = D.toList:=by rw [HDE.out]
 rw [hdl] at hm9 hb8 hb9 hr9 hf9 HTH9;have B7:=hid t7;have B8:=hid hb8;have M9:=hid hm9;have B9:=hid hb9;have R9:=hid hr9;have F9:=hid hf9;have HLH:=hid (run_loadVar_row w7 lb 30 30 _ (0,0) _ E7.out Tryz.underlying30 rfl HINF.out)
 clear m7 t7 hgb8 hth8 hm8 hg8 hb8 hr8 hf8 hgb9 hth9 hm9 hg9 hb9 hr9 hf9 hdl heo hes hne;have t0:=two_cell0 B7.out
 go_upto_region 4 with fail
 refine wp_region_lit ?_;iterate 3 (refine wW λK hK=>?_;go_simp;apply hK;clear hK K)
 refine wLk 30 (.tmp 5) rfl (lb) (0) rfl (.agg D) (HLH.out) ?_
 simp only [Act.put,sA,sB,sC];iterate 2 (refine wW λK hK=>?_;go_simp;apply hK;clear hK K)
 refine @wpL_store_mid _ _ _ _ _ _ _ ?_ 30 _ _ rfl (g8) (k * 97 + 1) D rfl rfl (by rw [HSZ.out]; exact HTH8.out) HINF.out HALL.out ?_;kernel_rfl
 simp only [Act.put];generalize w7.setCells g8 (k * 97 + 1) D.toList = w8 at B8 M9 B9 R9 F9 HTH9 |-;clear t0 HTH8 HLH;have t0:=two_cell0 B8.out
 go_upto_region 5 with fail
 refine wp_region_lit ?_;iterate 3 (refine wW λK hK=>?_;go_simp;apply hK;clear hK K)
 refine @wpL_build0 _ _ _ _ _ _ _ ?_ 30 rfl _ (build_zh2 _) ?_;kernel_rfl
 simp only [Act.put,sA,sB,sC];iterate 2 (refine wW λK hK=>?_;go_simp;apply hK;clear hK K)
 refine @wpL_store_mid _ _ _ _ _ _ _ ?_ 30 _ _ rfl (g8) (k * 97 + 65) (bcells Tt.z32).toArray rfl rfl (by exact HTH9.out) (hashInfoT rfl) (bytesAll _) ?_;kernel_rfl
 simp only [Act.put];generalize w8.setCells g8 (k * 97 + 65) (bcells Tt.z32) = w9 at M9 B9 R9 F9 |-;clear t0 HTH9
 go_upto_region 6 with fail
 refine wp_region_lit ?_;refine wLk 25 (.tmp 3) rfl (tb) (0) rfl (.agg #[.slice (some ⟨g8,0,none⟩) ln lc6,.slice pad6 pn pc6]) (run_loadVar_row w9 tb 25 25 _ (0,0) _ B9.out Tryz.underlying25 rfl treeInfo) ?_
 simp only [Act.put,sA,sB,sC];refine wpList_store_row rfl 25 _ _ rfl (rb) #[.slice (some ⟨g8,0,none⟩) ln lc6,.slice pad6 pn pc6] rfl rfl 25 #[.slice none 0 0,.slice none 0 0] R9.out treeInfo rfl (tree_all _ _ _ _ _ _) ?_
 simp only [Act.put];refine wW λK hK=>?_;go_simp;apply hK;clear hK K;have R12:=setRow_heap w9 rb _ #[.slice (some ⟨g8,0,none⟩) ln lc6,.slice pad6 pn pc6] _ _ R9.out;have g12:=grown_setRow w9 rb #[.slice (some ⟨g8,0,none⟩) ln lc6,.slice pad6 pn pc6];have M12:=hid (M9.out.aside (b:=rb) HRZ.out g12);have F12:=hid ((F9.out.trans (grown_fr (B:=λk=>k < w.heap.size) g12 (λk e b=>by cases e; exact HRB.out b))).kept (λk hk=>hk))
 generalize w9.setRow rb #[.slice (some ⟨g8,0,none⟩) ln lc6,.slice pad6 pn pc6] = wz at R12 g12 M12 F12 |-;go_wp2;refine bodyPost_ret (results_row2 rfl _ _ rb 25 _ (0,0) _ rfl R12 Tryz.underlying25 rfl treeInfo) rfl ?_
 have hm:=M12.out;rw [HP1.out,HL.out HKL.out] at hm;exact⟨_,_,rfl,F12.out,SL6,hm.mono (λ_ b=>Nat.lt_of_lt_of_le b HWZ.out)⟩
def lenAt (w:World)(b:Nat):Nat:=
 match w.heap[b]? with
 | some (Obj.cells cs _ _)=>(match cs[0]? with | some (Value.slice _ n _)=>n | _=>0)
 | _=>0
theorem lenAt_row {w:World}{b n c:Nat}{ad:Option Addr}{v:Value}{t:TypeId}{fr:Nat × Nat}(h:w.heap[b]? = some (.cells #[.slice ad n c,v] t fr)):lenAt w b = n:=by
 unfold lenAt;rw [h]
 rfl
theorem refremove_ok (lv pv:Value)(L:List Lf)(P:List Pr)(k:Nat)(w:World)(hL:Lvs w lv L)(hP:Pts w pv P)(hn:L.length<=1000)(hp:P.length<=1000)(hpl:∀ p∈P,p.loose.length<=1000)(hn64:L.length<=64)(hk:k < L.length)(hpe:P.length = L.length - 1)(hno:Tt.none L (k:Int) = false):
  Calls Tryz.prog 39 #[.agg #[lv,pv],.int .i64 (k:Int)] w λe w'=>∃ lv' pv',e = .returned (.tuple #[.agg #[lv',pv'],.int .i64 0])/\Kept w.heap.size w.heap.size w w'/\∃ SL,Mine (λk=>k < w.heap.size) w' lv' pv' (Tt.remL L k) (Tt.remP L P k) SL:=by
 have HLK:=hid (λ(u:World) (kk:Kept w.heap.size w.heap.size w u)=>refnone_calls lv pv L (k:Int) u (hL.kept kk) hn (by obtain⟨pad,pc,rfl⟩:=hP.shape; exact⟨_,_,_,rfl⟩))
 rw [hno] at HLK;have HBK:=hid (λ(u:World) (kk:Kept w.heap.size w.heap.size w u)=>refblank_calls lv pv L P (k:Int) u (hL.kept kk) (hP.kept kk) hn hp hpl)
 rw [Tt.holds_blanks hn64 hk hpe] at HBK;obtain⟨P1,hP1⟩:∃ P1,P1 = Tt.blanks (Bo.Direct (L.length:Int) (k:Int)) P:=⟨_,rfl⟩;have hpn1:P1.length = P.length:=by rw [hP1,Tt.blanks_length]
 rw [<- hP1] at HBK;have HP1:=hid hP1;have HPN1:=hid hpn1;have HPE:=hid hpe;have HKL:=hid hk
 have hlok:L[k].Ok:=by
  obtain⟨_,_,_,_,_,h1,_⟩:=hL;exact(h1 k hk).2.2.1
 obtain⟨l,hl⟩:∃ l,l = L[k]:=⟨_,rfl⟩;rw [<- hl] at hlok;have HL:=hid (show ∀ h:k < L.length,l = L[k] from λ_=>hl)
 have HOK:=hid hlok;obtain⟨lad,lc,rfl⟩:=hL.shape;obtain⟨pad,pc,rfl⟩:=hP.shape;obtain⟨ln,hln⟩:∃ ln,ln = L.length:=⟨_,rfl⟩;obtain⟨pn,hpn⟩:∃ pn,pn = P.length:=⟨_,rfl⟩;have hkl:(k:Int) < (ln:Int):=by omega
 have hk0:¬ (k:Int) < 0:=by omega
 rw [<- hln,<- hpn] at HLK
 (try rw [<- hln] at HBK)
 (try rw [<- hpn] at HBK)
 rw [<- hln] at HP1;rw [<- hln,<- hpn];clear hno hn64 hpe hP1 hpn1 hlok hl;have hln9:(ln:Int)<=1000:=by omega
 have HLN:=hid hln;have HPN:=hid hpn;clear hL hP hn hp hpl hln hpn;have k1:=kA w (.cells #[.slice lad ln lc,.slice pad pn pc] 25)
 have t1:=heap_new w (.cells #[.slice lad ln lc,.slice pad pn pc] 25)
 have s1:(w.alloc (.cells #[.slice lad ln lc,.slice pad pn pc] 25)).heap.size = w.heap.size + 1:=by simp
 go_enter Tryz.func39,Tryz.ntmps39
 go_upto_region 1 with fail
 generalize w.alloc (.cells #[.slice lad ln lc,.slice pad pn pc] 25) = wa at k1 t1 s1 |-
 have k3:=kA wa (.cells #[.slice none 0 0,.slice none 0 0] 25)
 have r3:=heap_new wa (.cells #[.slice none 0 0,.slice none 0 0] 25)
 have s3:(wa.alloc (.cells #[.slice none 0 0,.slice none 0 0] 25)).heap.size = wa.heap.size + 1:=by simp
 have t3:=rk t1 k3;generalize wa.alloc (.cells #[.slice none 0 0,.slice none 0 0] 25) = w1 at k3 r3 s3 t3 |-
 have K1:=hid (k1.next1 k3);rw [s1] at r3 s3
 (try rw [s1])
 obtain⟨tb,htb⟩:∃ tb,tb = w.heap.size:=⟨_,rfl⟩;obtain⟨rb,hrb⟩:∃ rb,rb = w.heap.size + 1:=⟨_,rfl⟩;rw [<- hrb] at r3
 (try rw [<- hrb])
 rw [<- htb] at t3
 (try rw [<- htb])
 have HTR:=hid (show tb≠rb by omega)
 have HTB:=hid (show ¬ tb < w.heap.size by omega)
 have HRB:=hid (show ¬ rb < w.heap.size by omega)
 have HWS:=hid (show w.heap.size<=w1.heap.size by omega)
 have T1:=hid t3;have R1:=hid r3;clear k1 t1 s1 k3 r3 s3 t3 htb hrb;refine wp_region_lit ?_;refine wLk 25 (.tmp 2) rfl (tb) (0) rfl (.agg #[.slice lad ln lc,.slice pad pn pc]) (run_loadVar_row w1 tb 25 25 _ (0,0) _ T1.out Tryz.underlying25 rfl treeInfo) ?_
 simp only [Act.put,sA,sB,sC];refine wW λK hK=>?_;go_simp;apply hK;clear hK K;refine wW λK hK=>?_;go_simp;go_at_call 62
 refine(HLK.out _ K1.out).mono ?_;rintro e w2 ⟨rfl,k2⟩;have K2:=hid (K1.out.next1 k2);have T2:=hid (rk T1.out k2);have R2:=hid (rk R1.out k2);clear k2;apply hK;clear hK K
 go_upto_region 3 with fail
 refine wp_region_lit ?_;refine wLk 25 (.tmp 2) rfl (tb) (0) rfl (.agg #[.slice lad ln lc,.slice pad pn pc]) (run_loadVar_row w2 tb 25 25 _ (0,0) _ T2.out Tryz.underlying25 rfl treeInfo) ?_
 simp only [Act.put,sA,sB,sC];refine wW λK hK=>?_;go_simp;apply hK;clear hK K;refine wW λK hK=>?_;go_simp;go_at_call 63
 refine(HBK.out _ K2.out).mono ?_;rintro e w6 ⟨lv6,pv6,rfl,k6,SL6,m6⟩;obtain⟨lad6,lc6,rfl⟩:=m6.lvs.shape;obtain⟨pad6,pc6,rfl⟩:=m6.pts.shape;rw [HPN1.out] at m6 |-;rw [<- HLN.out,<- HPN.out] at m6 |-;have K6:=hid (K2.out.next1 k6);have T6:=hid (rk T2.out k6);have R6:=hid (rk R2.out k6);clear k6;apply hK;clear hK K;refine wpList_store_row rfl 25 _ _ rfl (tb) #[.slice lad6 ln lc6,.slice pad6 pn pc6] rfl rfl 25 #[.slice lad ln lc,.slice pad pn pc] T6.out treeInfo rfl (tree_all _ _ _ _ _ _) ?_
 simp only [Act.put];obtain⟨sz,hsz⟩:∃ sz,sz = w2.heap.size:=⟨_,rfl⟩;have HTZ:=hid (show tb < sz by rw [hsz]; exact lt_of_block T2.out)
 have HRZ:=hid (show rb < sz by rw [hsz]; exact lt_of_block R2.out)
 have HWZ:=hid (show w.heap.size<=sz by rw [hsz]; exact K2.out.size)
 rw [<- hsz] at m6;have t7:=setRow_heap w6 tb _ #[.slice lad6 ln lc6,.slice pad6 pn pc6] _ _ T6.out;have g7:=grown_setRow w6 tb #[.slice lad6 ln lc6,.slice pad6 pn pc6];have m7:=m6.aside (b:=tb) HTZ.out g7;have F7:=hid ((K6.out.fr (B:=λk=>k < w.heap.size)).trans (grown_fr (B:=λk=>k < w.heap.size) g7 (λk e b=>by cases e; exact HTB.out b)))
 have R7:=hid ((g7.block rb (lt_of_block R6.out) (λe=>HTR.out (Option.some.inj e).symm)).trans R6.out)
 generalize w6.setRow tb #[.slice lad6 ln lc6,.slice pad6 pn pc6] = w7 at t7 m7 F7 R7 |-;clear m6 hsz g7 K6 T6 R6;obtain⟨g8,cap8,he8,hgb8,hth8,hm8,hg8⟩:=m7.leaf k HKL.out Lf.zero Lf.zero_ok;rw [<- HLN.out] at he8;injection he8 with hea hez hec
 subst hea;clear hez hec;have HTH:=hid hth8;have hne:∀ b,b < sz->some b≠some g8:=λb hb e=>hgb8 (by rw [<- Option.some.inj e]; exact hb)
 have hb8:=(hg8.block tb (lt_of_block t7) (hne tb HTZ.out)).trans t7;have hr8:=(hg8.block rb (lt_of_block R7.out) (hne rb HRZ.out)).trans R7.out;have hf8:=F7.out.trans (grown_fr (B:=λk=>k < w.heap.size) hg8 (λk e b=>by cases e; exact hgb8 (Nat.lt_of_lt_of_le b HWZ.out)))
 have B7:=hid t7;have M8:=hid hm8;have B8:=hid hb8;have R8:=hid hr8;have F8:=hid hf8;clear m7 t7 hgb8 hth8 hm8 hg8 hb8 hr8 hf8 hne;have t0:=two_cell0 B7.out
 go_upto_region 4 with fail
 refine wp_region_lit ?_;iterate 3 (refine wW λK hK=>?_;go_simp;apply hK;clear hK K)
 refine @wpL_build0 _ _ _ _ _ _ _ ?_ 48 rfl _ (build_leaf0 _) ?_;kernel_rfl
 simp only [Act.put,sA,sB,sC];refine wW λK hK=>?_;go_simp;apply hK;clear hK K;refine @wpL_store_mid _ _ _ _ _ _ _ ?_ 48 _ _ rfl (g8) (k * 97) Lf.zero.cells.toArray rfl rfl (by rw [Lf.size Lf.zero_ok]; exact HTH.out) (leafInfo (Lf.size Lf.zero_ok)) Lf.zero.all ?_;kernel_rfl
 simp only [Act.put];generalize w7.setCells g8 (k * 97) Lf.zero.cells = w8 at M8 B8 R8 F8 |-;clear t0 HTH;obtain⟨L1,hL1⟩:∃ L1,L1 = L.set k Lf.zero:=⟨_,rfl⟩;rw [<- hL1] at M8;have HLN1:=hid (show L1.length = ln by rw [hL1,List.length_set,HLN.out])
 have HL1:=hid hL1;have HPN2:=hid (show P1.length = pn by rw [HPN1.out,HPN.out])
 have HPQ:=hid (show pn = ln - 1 by rw [HPN.out,HLN.out]; exact HPE.out)
 have hla:=OwnC.addr M8.out.lo;have hpa:=OwnC.addr M8.out.po;rw [List.length_map,HLN1.out] at hla;rw [zip_len M8.out,HPN2.out] at hpa;have HLA:=hid hla;have HPA:=hid hpa;have B8:Hid (w8.heap[tb]? = some (.cells #[.slice (some ⟨g8,0,none⟩) ln lc6,.slice pad6 (ln - 1) pc6] 25 (0,0))):=hid (by rw [<- HPQ.out]; exact B8.out)
 clear hL1 hla hpa;go_wp2
 go_loopw [18] (λ_ wr=>∃ m:Nat,Hid (m<=ln)/\Hid (Tt.ends L1 ln = Tt.ends L1 m)/\Hid (Mine (λk=>k < sz) wr (.slice (some ⟨g8,0,none⟩) ln lc6) (.slice pad6 pn pc6) L1 P1 SL6)/\Hid (Frm (λk=>k < w.heap.size) w wr)/\Hid (wr.heap[tb]? = some (.cells #[.slice (some ⟨g8,0,none⟩) m lc6,.slice pad6 (m - 1) pc6] 25 (0,0)))/\Hid (wr.heap[rb]? = some (.cells #[.slice none 0 0,.slice none 0 0] 25 (0,0)))) (λ_ wr=>lenAt wr tb)
 case atStart=>exact⟨ln,hid (Nat.le_refl _),hid rfl,M8,F8,B8,R8⟩
 case round=>
  clear M8 F8 B8 R8;obtain⟨m,hi,HEN,HM,HF,HB,HR⟩:=hrel;obtain⟨n,hn⟩:∃ n,n = m - 1:=⟨_,rfl⟩;rw [<- hn] at HB;have t0:=two_cell0 HB.out
  by_cases hm0:m = 0
  ·have HMZ:=hid hm0
   have HE:=hid (show Tt.ends L1 ln = m by rw [HEN.out,hm0]; rfl)
   have HNQ:=hid hn;have hgt:¬ (0:Int) < (m:Int):=by omega
   have hgt2:¬ 0 < m:=by omega
   clear hm0 hn HEN
   go_upto_region 5 with fail
   refine wp_region_lit ?_;iterate 5 (refine wW λK hK=>?_;go_simp;apply hK;clear hK K)
   (iterate 10 (refine @wpList_skip _ _ _ _ _ _ _ ?_ ?_;kernel_rfl;simp only [Act.put,sA,sB,sC]));refine wW λK hK=>?_;go_simp;apply hK;clear hK K;clear hgt hgt2
   have HCM:=hid (show Mine (λk=>k < sz) wr (.slice (some ⟨g8,0,none⟩) m lc6) (.slice pad6 n pc6) (L1.take m) (P1.take n) (SL6.take n) from by
    have hcm:=HM.out;rw [<- HLN1.out,<- HPN2.out] at hcm;have h1:=HLN1.out;have h2:=HPN2.out;have h3:=HPQ.out;have h4:=HNQ.out;have h5:=hi.out
    exact hcm.cut m n (by omega) (by omega))
   clear t0
   go_upto_region 9 with fail
   refine wp_region_lit ?_;refine wLk 25 (.tmp 2) rfl (tb) (0) rfl (.agg #[.slice (some ⟨g8,0,none⟩) m lc6,.slice pad6 n pc6]) (run_loadVar_row wr tb 25 25 _ (0,0) _ HB.out Tryz.underlying25 rfl treeInfo) ?_
   simp only [Act.put,sA,sB,sC];refine wpList_store_row rfl 25 _ _ rfl (rb) #[.slice (some ⟨g8,0,none⟩) m lc6,.slice pad6 n pc6] rfl rfl 25 #[.slice none 0 0,.slice none 0 0] HR.out treeInfo rfl (tree_all _ _ _ _ _ _) ?_
   simp only [Act.put];refine wW λK hK=>?_;go_simp;apply hK;clear hK K;have R12:=setRow_heap wr rb _ #[.slice (some ⟨g8,0,none⟩) m lc6,.slice pad6 n pc6] _ _ HR.out;have g12:=grown_setRow wr rb #[.slice (some ⟨g8,0,none⟩) m lc6,.slice pad6 n pc6];have M12:=hid (HCM.out.aside (b:=rb) HRZ.out g12);have F12:=hid ((HF.out.trans (grown_fr (B:=λk=>k < w.heap.size) g12 (λk e b=>by cases e; exact HRB.out b))).kept (λk hk=>hk))
   generalize wr.setRow rb #[.slice (some ⟨g8,0,none⟩) m lc6,.slice pad6 n pc6] = wz at R12 g12 M12 F12 |-;go_wp2;refine bodyPost_ret (results_row2 rfl _ _ rb 25 _ (0,0) _ rfl R12 Tryz.underlying25 rfl treeInfo) rfl ?_
   refine⟨_,_,rfl,F12.out,SL6.take n,?_⟩;have hm:=M12.out;have hre:Tt.ends (L.set k Lf.zero) L.length = m:=by rw [<- HL1.out,<- HLN.out]; exact HE.out
   have e1:Tt.remL L k = L1.take m:=by rw [Tt.remL,hre,<- HL1.out]
   have e2:Tt.remP L P k = P1.take n:=by rw [Tt.remP,hre,HNQ.out,HP1.out,HLN.out]
   rw [e1,e2];exact hm.mono (λ_ b=>Nat.lt_of_lt_of_le b HWZ.out)
  ·have hmn:m = n + 1:=by omega
   have hgt:(0:Int) < (m:Int):=by omega
   have hgt2:0 < m:=by omega
   have hnm:(n:Int) < (m:Int):=by omega
   have hn0:¬ (n:Int) < 0:=by omega
   have hnL:n < L1.length:=by rw [HLN1.out]; have:=hi.out; omega
   obtain⟨ad0,g0,c0,hv0,hc0,_⟩:=HM.out.lo.at;obtain⟨ha0,_,hg0,hr0⟩:=hc0 n (by rw [List.length_map]; exact hnL)
   subst ha0;injection hv0 with hx9 hy9 hz9
   injection hx9 with hx9
   injection hx9 with hx9 hw9 hu9
   subst hx9;rw [List.getElem_map] at hr0
   have c0:wr.cell? ⟨g8,n * 97,none⟩ = some (.int .i64 (Tt.nameAt L1 (n:Int))):=by
    have h8:=hr0 0 (.int .i64 L1[n].name) (by simp [Lf.cells])
    rw [nameAt_of hnL]
    simpa using h8
   obtain⟨nm,hN⟩:∃ nm,nm = Tt.nameAt L1 (n:Int):=⟨_,rfl⟩;rw [<- hN] at c0;have hen:Tt.ends L1 m = if nm == 0 then Tt.ends L1 n else m:=by rw [hmn,Tt.ends,<- hN]
   have HEN2:=hid (HEN.out.trans hen);have HJW:=hid (show IntKind.i64.wrap ((m:Int) - 1) = (n:Int) by rw [IntKind.wrap_i64]; have:=hi.out; omega)
   have HMN:=hid hmn;have HI:=hid hi.out;have HNQ:=hid hn;clear hm0 hmn hnL hc0 hg0 hr0 hN hen HEN hy9 hz9 hw9 hu9 hi hn
   cases hnb:(nm == 0) with
   | true=>
    have HNB:=hid hnb;have HEN3:=hid (show Tt.ends L1 ln = Tt.ends L1 n by have:=HEN2.out; rw [if_pos hnb] at this; exact this)
    clear hnb HEN2;have HS1:=hid (λw=>run_cut (P:=Tryz.prog) w 22 48 97 Tryz.underlying22 (by kernel_rfl) (by kernel_rfl) (some ⟨g8,0,none⟩) (.inr ⟨g8,rfl⟩) m lc6 n (by have:=HLA.out.2; have:=HI.out; have:=HMN.out; omega))
    go_upto_region 5 with fail
    refine wp_region_lit ?_;iterate 11 (refine wW λK hK=>?_;go_simp;apply hK;clear hK K)
    rw [HJW.out];iterate 3 (refine wW λK hK=>?_;go_simp;apply hK;clear hK K)
    refine wW λK hK=>?_;go_simp;rw [HNB.out];apply hK;clear hK K;refine wW λK hK=>?_;go_simp;apply hK;clear hK K;have HB0:=HB;have HJW0:=HJW;clear c0 hn0
    go_upto_region 6 with fail
    refine wp_region_lit ?_;iterate 6 (refine wW λK hK=>?_;go_simp;apply hK;clear hK K)
    rw [HJW0.out];refine @wpL_slice _ _ _ _ _ _ _ ?_ 22 (.tmp 35) (.tmp 39) rfl (.slice (some ⟨g8,0,none⟩) m lc6) (.int .i64 (n:Int)) (.slice (some ⟨g8,0,none⟩) n lc6) rfl rfl (HS1.out _) ?_;kernel_rfl
    simp only [Act.put,sA,sB,sC];refine wW λK hK=>?_;go_simp;apply hK;clear hK K;refine @wpL_store_part _ _ _ _ _ _ _ ?hw43115b 22 _ _ rfl (tb) 0 [.slice (some ⟨g8,0,none⟩) m lc6,.slice pad6 n pc6] 25 (.slice (some ⟨g8,0,none⟩) n lc6) rfl rfl (HB0.out) (by simp) rfl (by kernel_rfl) ?_
    case hw43115b=>kernel_rfl
    simp only [Act.put];have hb3:=cells_set (cs:=[.slice (some ⟨g8,0,none⟩) m lc6,.slice pad6 n pc6]) HB.out 0 (.slice (some ⟨g8,0,none⟩) n lc6);have g3:=grown_set wr tb 0 (.slice (some ⟨g8,0,none⟩) n lc6);have R3:=hid ((g3.block rb (lt_of_block HR.out) (λe=>HTR.out (Option.some.inj e).symm)).trans HR.out)
    have M3:=hid (HM.out.aside (b:=tb) HTZ.out g3);have F3:=hid (HF.out.trans (grown_fr (B:=λk=>k < w.heap.size) g3 (λk e b=>by cases e; exact HTB.out b)))
    have B3:Hid ((wr.setCell ⟨tb,0,none⟩ (.slice (some ⟨g8,0,none⟩) n lc6)).heap[tb]? = some (.cells #[.slice (some ⟨g8,0,none⟩) n lc6,.slice pad6 n pc6] 25 (0,0))):=hb3
    have HLM:=hid (show lenAt wr tb = m from lenAt_row HB.out);generalize wr.setCell ⟨tb,0,none⟩ (.slice (some ⟨g8,0,none⟩) n lc6) = w3 at R3 M3 F3 B3 |-;clear hb3 g3 t0 hgt hgt2 hnm;have t1:=two_cell1 B3.out
    by_cases hz:n = 0
    ·have HZ:=hid hz
     have hgt:¬ (0:Int) < (n:Int):=by omega
     have hgt2:¬ 0 < n:=by omega
     clear hz
     go_upto_region 7 with fail
     refine wp_region_lit ?_;iterate 4 (refine wW λK hK=>?_;go_simp;apply hK;clear hK K)
     clear t1 hgt hgt2;go_wp2
     go_roundw
     case rel=>exact⟨n,hid (by have:=HI.out; have:=HMN.out; omega),HEN3,M3,F3,by have:=B3.out; rw [HZ.out] at this |-; exact hid this,R3⟩
     case measure=>rw [HLM.out,lenAt_row B3.out]; have:=HMN.out; omega
    ·have HZ:=hid hz
     have hgt:(0:Int) < (n:Int):=by omega
     have hgt2:0 < n:=by omega
     have HJW1:=hid (show IntKind.i64.wrap ((n:Int) - 1) = ((n - 1:Nat):Int) by rw [IntKind.wrap_i64]; have:=HI.out; have:=HMN.out; omega)
     have HS2:=hid (λw=>run_cut (P:=Tryz.prog) w 23 68 66 Tryz.underlying23 (by kernel_rfl) (by kernel_rfl) pad6 HPA.out.1 n pc6 (n - 1) (by have:=HPA.out.2; have:=HI.out; have:=HMN.out; have:=HPQ.out; omega))
     obtain⟨q,hq⟩:∃ q,q = n - 1:=⟨_,rfl⟩;rw [<- hq] at HJW1 HS2;have HQ:=hid hq;clear hz hq
     go_upto_region 7 with fail
     refine wp_region_lit ?_;iterate 4 (refine wW λK hK=>?_;go_simp;apply hK;clear hK K)
     clear hgt hgt2;have HB1:=B3
     go_upto_region 8 with fail
     refine wp_region_lit ?_;iterate 6 (refine wW λK hK=>?_;go_simp;apply hK;clear hK K)
     rw [HJW1.out];refine @wpL_slice _ _ _ _ _ _ _ ?_ 23 (.tmp 47) (.tmp 51) rfl (.slice pad6 n pc6) (.int .i64 (q:Int)) (.slice pad6 q pc6) rfl rfl (HS2.out _) ?_;kernel_rfl
     simp only [Act.put,sA,sB,sC];refine wW λK hK=>?_;go_simp;apply hK;clear hK K;refine @wpL_store_part _ _ _ _ _ _ _ ?hw43131b 23 _ _ rfl (tb) 1 [.slice (some ⟨g8,0,none⟩) n lc6,.slice pad6 n pc6] 25 (.slice pad6 q pc6) rfl rfl (HB1.out) (by simp) rfl (by kernel_rfl) ?_
     case hw43131b=>kernel_rfl
     simp only [Act.put];have hb4:=cells_set (cs:=[.slice (some ⟨g8,0,none⟩) n lc6,.slice pad6 n pc6]) B3.out 1 (.slice pad6 q pc6);have g4:=grown_set w3 tb 1 (.slice pad6 q pc6);have R4:=hid ((g4.block rb (lt_of_block R3.out) (λe=>HTR.out (Option.some.inj e).symm)).trans R3.out)
     have M4:=hid (M3.out.aside (b:=tb) HTZ.out g4);have F4:=hid (F3.out.trans (grown_fr (B:=λk=>k < w.heap.size) g4 (λk e b=>by cases e; exact HTB.out b)))
     have B4:Hid ((w3.setCell ⟨tb,1,none⟩ (.slice pad6 q pc6)).heap[tb]? = some (.cells #[.slice (some ⟨g8,0,none⟩) n lc6,.slice pad6 q pc6] 25 (0,0))):=hb4
     generalize w3.setCell ⟨tb,1,none⟩ (.slice pad6 q pc6) = w4 at R4 M4 F4 B4 |-;clear hb4 g4 t1;go_wp2
     go_roundw
     case rel=>exact⟨n,hid (by have:=HI.out; have:=HMN.out; omega),HEN3,M4,F4,by have:=B4.out; rw [HQ.out] at this; exact hid this,R4⟩
     case measure=>rw [HLM.out,lenAt_row B4.out]; have:=HMN.out; omega
   | false=>
    have HNB:=hid hnb;have HE:=hid (show Tt.ends L1 ln = m by have:=HEN2.out; rw [if_neg (by rw [hnb]; decide)] at this; exact this)
    clear hnb HEN2
    go_upto_region 5 with fail
    refine wp_region_lit ?_;iterate 11 (refine wW λK hK=>?_;go_simp;apply hK;clear hK K)
    rw [HJW.out];iterate 3 (refine wW λK hK=>?_;go_simp;apply hK;clear hK K)
    refine wW λK hK=>?_;go_simp;rw [HNB.out];apply hK;clear hK K;refine wW λK hK=>?_;go_simp;apply hK;clear hK K;clear hgt hgt2 c0 hnm hn0
    have HCM:=hid (show Mine (λk=>k < sz) wr (.slice (some ⟨g8,0,none⟩) m lc6) (.slice pad6 n pc6) (L1.take m) (P1.take n) (SL6.take n) from by
     have hcm:=HM.out;rw [<- HLN1.out,<- HPN2.out] at hcm;have h1:=HLN1.out;have h2:=HPN2.out;have h3:=HPQ.out;have h4:=HNQ.out;have h5:=HI.out
     exact hcm.cut m n (by omega) (by omega))
    clear t0
    go_upto_region 9 with fail
    refine wp_region_lit ?_;refine wLk 25 (.tmp 2) rfl (tb) (0) rfl (.agg #[.slice (some ⟨g8,0,none⟩) m lc6,.slice pad6 n pc6]) (run_loadVar_row wr tb 25 25 _ (0,0) _ HB.out Tryz.underlying25 rfl treeInfo) ?_
    simp only [Act.put,sA,sB,sC];refine wpList_store_row rfl 25 _ _ rfl (rb) #[.slice (some ⟨g8,0,none⟩) m lc6,.slice pad6 n pc6] rfl rfl 25 #[.slice none 0 0,.slice none 0 0] HR.out treeInfo rfl (tree_all _ _ _ _ _ _) ?_
    simp only [Act.put];refine wW λK hK=>?_;go_simp;apply hK;clear hK K;have R12:=setRow_heap wr rb _ #[.slice (some ⟨g8,0,none⟩) m lc6,.slice pad6 n pc6] _ _ HR.out;have g12:=grown_setRow wr rb #[.slice (some ⟨g8,0,none⟩) m lc6,.slice pad6 n pc6];have M12:=hid (HCM.out.aside (b:=rb) HRZ.out g12);have F12:=hid ((HF.out.trans (grown_fr (B:=λk=>k < w.heap.size) g12 (λk e b=>by cases e; exact HRB.out b))).kept (λk hk=>hk))
    generalize wr.setRow rb #[.slice (some ⟨g8,0,none⟩) m lc6,.slice pad6 n pc6] = wz at R12 g12 M12 F12 |-;go_wp2;refine bodyPost_ret (results_row2 rfl _ _ rb 25 _ (0,0) _ rfl R12 Tryz.underlying25 rfl treeInfo) rfl ?_
    refine⟨_,_,rfl,F12.out,SL6.take n,?_⟩;have hm:=M12.out;have hre:Tt.ends (L.set k Lf.zero) L.length = m:=by rw [<- HL1.out,<- HLN.out]; exact HE.out
    have e1:Tt.remL L k = L1.take m:=by rw [Tt.remL,hre,<- HL1.out]
    have e2:Tt.remP L P k = P1.take n:=by rw [Tt.remP,hre,HNQ.out,HP1.out,HLN.out]
    rw [e1,e2];exact hm.mono (λ_ b=>Nat.lt_of_lt_of_le b HWZ.out)
end Go.Proofs.YtinebhdilnndaaaGreatDoor
