/-
 The document's Add, where a leaf is put in.
-/
import Derived.Test.YtinebhdilnndaaaGreatDoorTreeAddBad
import Derived.Test.YtinebhdilnndaaaGreatDoorHD
set_option maxRecDepth 100000
set_option maxHeartbeats 6400000
namespace Go.Proofs.YtinebhdilnndaaaGreatDoor
open Go.RowKit Go.Lib
open List renaming setIfInBounds_toArray -> sA, set_cons_zero -> sB, set_cons_succ -> sC
open BigFrame renaming wpList_want -> wQ
theorem refadd_ok (lv pv:Value)(L:List Lf)(P:List Pr)(l:Lf)(w:World)(hL:Lvs w lv L)(hP:Pts w pv P)(hn:L.length<=1000)(hp:P.length<=1000)(hpl:∀ p∈P,p.loose.length<=1000)(hlo:l.Ok)(hn64:L.length<=64)(hpe:P.length = L.length - 1)(hpl9:∀ p∈P,p.loose.length<=64)(hnn:(decide (1<=l.name) && decide (l.name<=64)) = true)(hix:Tt.index L l.name = -1)(hfb:Tt.firstBlank L≠64):
  Calls Tryz.prog 41 #[.agg #[lv,pv],.agg l.cells.toArray] w λe w'=>∃ lv' pv',e = .returned (.tuple #[.agg #[lv',pv'],.int .i64 (Tt.firstBlank L:Int),.int .i64 0])/\Kept w.heap.size w.heap.size w w'/\∃ SL,Mine (λk=>k < w.heap.size) w' lv' pv' (Tt.addL L l) (Tt.addP L P) SL:=by
 have hnb:1<=l.name/\l.name<=64:=by
  rw [Bool.and_eq_true,decide_eq_true_eq,decide_eq_true_eq] at hnn;exact hnn
 have hpla:Tt.rplace L l.name = Tt.index L l.name:=by
  unfold Tt.rplace;rw [if_pos (by omega)]
 have HPL:=hid (λ(x:World) (k:Kept w.heap.size w.heap.size w x)=>refplace_calls lv pv L l.name x (hL.kept k) hn (by obtain⟨pad,pc,rfl⟩:=hP.shape; exact⟨_,_,_,rfl⟩))
 rw [hpla] at HPL;rw [hix] at HPL;have HCP:=hid (λ(u:World) (kk:Kept w.heap.size w.heap.size w u)=>refcopy_calls lv pv L P u (hL.kept kk) (hP.kept kk) hn hp hpl)
 have hfl:=Tt.firstBlank_le L;have HF1:=hid (Tt.firstBlank_lt L);have HF2:=hid (Tt.firstBlank_is L);clear hpla hix;obtain⟨fb,hfbe⟩:∃ fb,fb = Tt.firstBlank L:=⟨_,rfl⟩;rw [<- hfbe] at hfl HF1 HF2;have H64:=hid (show fb≠64 by rw [hfbe]; exact hfb)
 have HFE:=hid hfbe;have HPEQ:=hid hpe;have HN0:=hid hn64;have HPLX:=hid (show ∀ p∈P,p.loose.length<=999 from λp hp=>Nat.le_trans (hpl9 p hp) (by decide))
 rw [<- hfbe];clear hfb hfbe hpe hn64 hpl9;obtain⟨lad,lc,rfl⟩:=hL.shape;obtain⟨pad,pc,rfl⟩:=hP.shape;obtain⟨ln,hln⟩:∃ ln,ln = L.length:=⟨_,rfl⟩;obtain⟨pn,hpn⟩:∃ pn,pn = P.length:=⟨_,rfl⟩;obtain⟨nm,hnm⟩:∃ nm,nm = l.name:=⟨_,rfl⟩;rw [<- hln,<- hpn] at HPL HCP |-;rw [<- hln] at hfl;rw [<- hnm] at HPL hnb hnn;have hln9:(ln:Int)<=1000:=by omega
 have HLN:=hid hln;have HPN:=hid hpn;have HOK:=hid hlo;have hlsz:=Lf.size hlo;have hlal:=l.all;have hD0:l.cells.toArray[0]? = some (.int .i64 nm):=by rw [hnm]; exact l.at_name
 obtain⟨D,hD⟩:∃ D,D = l.cells.toArray:=⟨_,rfl⟩;rw [<- hD] at hlsz hlal hD0 |-;have HDE:=hid hD;have HSZ:=hid hlsz;have HAL:=hid hlal;clear hL hP hn hp hpl hlo hln hpn hnm hlsz hlal hD;have k1:=kA w (.cells #[.slice lad ln lc,.slice pad pn pc] 25)
 have t1:=heap_new w (.cells #[.slice lad ln lc,.slice pad pn pc] 25)
 have s1:(w.alloc (.cells #[.slice lad ln lc,.slice pad pn pc] 25)).heap.size = w.heap.size + 1:=by simp
 go_enter Tryz.func41,Tryz.ntmps41
 go_upto_region 1 with fail
 generalize w.alloc (.cells #[.slice lad ln lc,.slice pad pn pc] 25) = wa at k1 t1 s1 |-
 have k2:=kA wa (.cells D 48)
 have e2:=heap_new wa (.cells D 48)
 have s2:(wa.alloc (.cells D 48)).heap.size = wa.heap.size + 1:=by simp
 have t2:=rk t1 k2;generalize wa.alloc (.cells D 48) = wb at k2 e2 s2 t2 |-
 have k3:=kA wb (.cells #[.slice none 0 0,.slice none 0 0] 25)
 have r3:=heap_new wb (.cells #[.slice none 0 0,.slice none 0 0] 25)
 have s3:(wb.alloc (.cells #[.slice none 0 0,.slice none 0 0] 25)).heap.size = wb.heap.size + 1:=by simp
 have t3:=rk t2 k3;have e3:=rk e2 k3;generalize wb.alloc (.cells #[.slice none 0 0,.slice none 0 0] 25) = w1 at k3 r3 s3 t3 e3 |-
 have K1:=hid ((k1.next1 k2).next1 k3);rw [s2,s1] at r3 s3;rw [s1] at e3
 (try rw [s2])
 (try rw [s1])
 obtain⟨tb,htb⟩:∃ tb,tb = w.heap.size:=⟨_,rfl⟩;obtain⟨lb,hlb⟩:∃ lb,lb = w.heap.size + 1:=⟨_,rfl⟩;obtain⟨rb,hrb⟩:∃ rb,rb = w.heap.size + 1 + 1:=⟨_,rfl⟩;rw [<- hrb] at r3
 (try rw [<- hrb])
 rw [<- hlb] at e3
 (try rw [<- hlb])
 rw [<- htb] at t3
 (try rw [<- htb])
 have HTR:=hid (show tb≠rb by omega)
 have HTL:=hid (show tb≠lb by omega)
 have HTB:=hid (show ¬ tb < w.heap.size by omega)
 have HRB:=hid (show ¬ rb < w.heap.size by omega)
 have HWS:=hid (show w.heap.size<=w1.heap.size by omega)
 have T1:=hid t3;have E1:=hid e3;have R1:=hid r3;have c0:w1.cell? ⟨lb,0,none⟩ = some (.int .i64 nm):=by rw [cell_of_row w1 lb 0 _ _ _ E1.out]; exact hD0
 clear k1 t1 s1 k2 e2 s2 t2 k3 r3 s3 t3 e3 htb hlb hrb;have hn1:¬ nm < 1:=by omega
 have hn2:¬ nm > 64:=by omega
 clear hnb hnn;have HFL:=hid hfl;clear hfl;refine wp_region_lit ?_;iterate 8 (refine wW λK hK=>?_;go_simp;apply hK;clear hK K)
 clear hn1 hn2
 go_upto_region 3 with fail
 refine wp_region_lit ?_;refine wLk 25 (.tmp 2) rfl (tb) (0) rfl (.agg #[.slice lad ln lc,.slice pad pn pc]) (run_loadVar_row w1 tb 25 25 _ (0,0) _ T1.out Tryz.underlying25 rfl treeInfo) ?_
 simp only [Act.put,sA,sB,sC];iterate 2 (refine wW λK hK=>?_;go_simp;apply hK;clear hK K)
 refine wW λK hK=>?_;go_simp;go_at_call 38
 refine(HPL.out _ K1.out).mono ?_;rintro e w2 ⟨rfl,k2⟩;have K2:=hid (K1.out.next1 k2);have T2:=hid (rk T1.out k2);have R2:=hid (rk R1.out k2);have E2:=hid (rk E1.out k2);clear k2;clear c0;apply hK;clear hK K;refine wW λK hK=>?_;go_simp;apply hK;clear hK K
 go_upto_region 5 with fail
 refine wp_region_lit ?_;refine wLk 25 (.tmp 2) rfl (tb) (0) rfl (.agg #[.slice lad ln lc,.slice pad pn pc]) (run_loadVar_row w2 tb 25 25 _ (0,0) _ T2.out Tryz.underlying25 rfl treeInfo) ?_
 simp only [Act.put,sA,sB,sC];refine wW λK hK=>?_;go_simp;go_at_call 42
 refine(HCP.out _ K2.out).mono ?_;rintro e w6 ⟨lv6,pv6,rfl,k6,SL6,m6⟩;obtain⟨lad6,lc6,rfl⟩:=m6.lvs.shape;obtain⟨pad6,pc6,rfl⟩:=m6.pts.shape;rw [<- HLN.out,<- HPN.out] at m6 |-;have K6:=hid (K2.out.next1 k6);have T6:=hid (rk T2.out k6);have R6:=hid (rk R2.out k6);have E6:=hid (rk E2.out k6);clear k6;apply hK;clear hK K;refine wpList_store_row rfl 25 _ _ rfl (tb) #[.slice lad6 ln lc6,.slice pad6 pn pc6] rfl rfl 25 #[.slice lad ln lc,.slice pad pn pc] T6.out treeInfo rfl (tree_all _ _ _ _ _ _) ?_
 simp only [Act.put];obtain⟨sz,hsz⟩:∃ sz,sz = w2.heap.size:=⟨_,rfl⟩;have HTZ:=hid (show tb < sz by rw [hsz]; exact lt_of_block T2.out)
 have HRZ:=hid (show rb < sz by rw [hsz]; exact lt_of_block R2.out)
 have HLZ:=hid (show lb < sz by rw [hsz]; exact lt_of_block E2.out)
 have HWZ:=hid (show w.heap.size<=sz by rw [hsz]; exact K2.out.size)
 rw [<- hsz] at m6;have g7:=grown_setRow w6 tb #[.slice lad6 ln lc6,.slice pad6 pn pc6];have M7:=hid (m6.aside (b:=tb) HTZ.out g7);have F7:=hid ((K6.out.fr (B:=λk=>k < w.heap.size)).trans (grown_fr (B:=λk=>k < w.heap.size) g7 (λk e b=>by cases e; exact HTB.out b)))
 have R7:=hid ((g7.block rb (lt_of_block R6.out) (λe=>HTR.out (Option.some.inj e).symm)).trans R6.out)
 have E7:=hid ((g7.block lb (lt_of_block E6.out) (λe=>HTL.out (Option.some.inj e).symm)).trans E6.out)
 have T7:Hid ((w6.setRow tb #[.slice lad6 ln lc6,.slice pad6 pn pc6]).heap[tb]? = some (.cells #[.slice lad6 ln lc6,.slice pad6 pn pc6] 25 (0,0))):=hid (setRow_heap w6 tb _ #[.slice lad6 ln lc6,.slice pad6 pn pc6] _ _ T6.out)
 generalize w6.setRow tb #[.slice lad6 ln lc6,.slice pad6 pn pc6] = w7 at M7 F7 R7 E7 T7 |-;clear m6 hsz g7 K6 T6 R6 E6;go_wp2
 go_loopw [7] (λs7 wr=>∃ i:Nat,s7 = .int .i64 (i:Int)/\Hid (i<=fb)/\Hid (Mine (λk=>k < sz) wr (.slice lad6 ln lc6) (.slice pad6 pn pc6) L P SL6)/\Hid (Frm (λk=>k < w.heap.size) w wr)/\Hid (wr.heap[tb]? = some (.cells #[.slice lad6 ln lc6,.slice pad6 pn pc6] 25 (0,0)))/\Hid (wr.heap[rb]? = some (.cells #[.slice none 0 0,.slice none 0 0] 25 (0,0)))/\Hid (wr.heap[lb]? = some (.cells D 48 (0,0)))) (λs7 _=>fb - (RowKit.intOf s7).toNat)
 case atStart=>exact⟨0,rfl,hid (Nat.zero_le _),M7,F7,T7,R7,E7⟩
 case round=>
  clear M7 F7 T7 R7 E7;obtain⟨i,rfl,hi,HM,HF,HT,HR,HE⟩:=hrel;have t0:=two_cell0 HT.out
  by_cases hlt:i < fb
  ·obtain⟨lx,hlx,hnx⟩:=HF1.out i hlt
   have hiL:i < L.length:=(List.getElem?_eq_some_iff.1 hlx).1;have hlti:(i:Int) < (ln:Int):=by have:=HFL.out; omega
   have hi0:¬ (i:Int) < 0:=by omega
   obtain⟨g1,had1,hg1,hokx,hr1⟩:=HM.out.leafRow i hiL;subst had1;rw [(List.getElem?_eq_some_iff.1 hlx).2] at hr1
   have c0:wr.cell? ⟨g1,i * 97,none⟩ = some (.int .i64 lx.name):=by
    have h8:=hr1 0 (.int .i64 lx.name) (by simp [Lf.cells])
    simpa using h8
   obtain⟨nx,hnx2⟩:∃ nx,nx = lx.name:=⟨_,rfl⟩;rw [<- hnx2] at c0 hnx;have HNB:=hid (show(nx != 0) = true by rw [bne_iff_ne]; exact hnx)
   have HLT:=hid hlt;clear hlt hi hokx hlx hnx hiL hg1 hr1 hnx2
   go_upto_region 7 with fail
   refine wp_region_lit ?_;iterate 12 (refine wW λK hK=>?_;go_simp;apply hK;clear hK K)
   refine wW λK hK=>?_;go_simp;rw [HNB.out];apply hK;clear hK K;refine wW λK hK=>?_;go_simp;apply hK;clear hK K;clear c0 t0;go_wp2
   go_roundw
   case rel=>exact⟨i + 1,by simp,hid HLT.out,HM,HF,HT,HR,HE⟩
   case measure=>have:=HLT.out; simp [RowKit.intOf]; omega
  ·have HIE:=hid (show i = fb by have:=hi.out; omega)
   clear hlt hi;obtain rfl:=HIE.out
   by_cases hf:i < ln
   ·obtain⟨lx,hlx,hnx⟩:=HF2.out (by rw [<- HLN.out]; exact hf)
    have hiL:i < L.length:=(List.getElem?_eq_some_iff.1 hlx).1;have hlti:(i:Int) < (ln:Int):=by omega
    have hi0:¬ (i:Int) < 0:=by omega
    obtain⟨g1,had1,hg1,hokx,hr1⟩:=HM.out.leafRow i hiL;subst had1;rw [(List.getElem?_eq_some_iff.1 hlx).2] at hr1
    have c0:wr.cell? ⟨g1,i * 97,none⟩ = some (.int .i64 lx.name):=by
     have h8:=hr1 0 (.int .i64 lx.name) (by simp [Lf.cells])
     simpa using h8
    obtain⟨nx,hnx2⟩:∃ nx,nx = lx.name:=⟨_,rfl⟩;rw [<- hnx2] at c0 hnx;have HNB:=hid (show(nx != 0) = false by rw [hnx]; rfl)
    have HHF:=hid hf;clear hf hokx hlx hnx hiL hg1 hr1 hnx2
    go_upto_region 7 with fail
    refine wp_region_lit ?_;iterate 12 (refine wW λK hK=>?_;go_simp;apply hK;clear hK K)
    refine wW λK hK=>?_;go_simp;rw [HNB.out];apply hK;clear hK K;refine wW λK hK=>?_;go_simp;apply hK;clear hK K;clear c0 hi0 hlti;have hf64:((i:Int) == 64) = false:=by rw [beq_eq_false_iff_ne]; have:=H64.out; omega
    go_upto_region 9 with fail
    refine wp_region_lit ?_;iterate 2 (refine wW λK hK=>?_;go_simp;apply hK;clear hK K)
    clear hf64;have hnq:((i:Int) == (ln:Int)) = false:=by rw [beq_eq_false_iff_ne]; have:=HHF.out; omega
    go_upto_region 11 with fail
    refine wp_region_lit ?_;iterate 5 (refine wW λK hK=>?_;go_simp;apply hK;clear hK K)
    clear t0 hnq;have HLN2:=HLN;have HPN2:=HPN;have HQE:=HPEQ;have HN64:=hid (show ln<=64 by rw [HLN.out]; exact HN0.out)
    have HFN:=HHF;have HWD:=hid (show Tt.firstBlank L≠L.length by rw [<- HFE.out,<- HLN.out]; have:=HHF.out; omega)
    have HAL1:=hid (show Tt.addL L l = L.set i l by rw [Tt.addL,Tt.wide,if_neg HWD.out,<- HFE.out])
    have HAP1:=hid (show Tt.addP L P = Tt.loosens i (Bo.Direct (L.length:Int) (i:Int)) P by rw [Tt.addP,Tt.wide,Tt.wideP,if_neg HWD.out,if_neg HWD.out,<- HFE.out])
    have HPL2:=HPLX;obtain⟨g8,cap8,he8,hgb8,hth8,hm8,hg8⟩:=HM.out.leaf i (by rw [<- HLN2.out]; exact HFN.out) l HOK.out
    rw [<- HLN2.out] at he8;injection he8 with hea hez hec
    first
     | subst hea
     | (injection hea with hea; injection hea with hea hq1 hq2; have heb:=hea.symm; clear hea; subst heb; clear hq1 hq2)
    clear hez hec;have HLD:=hid (run_loadVar_row wr lb 48 48 _ (0,0) _ HE.out Tryz.underlying48 rfl (leafInfo HSZ.out))
    have HTH:=hid hth8;have hne:∀ b,b < sz->some b≠some g8:=λb hb e=>hgb8 (by rw [<- Option.some.inj e]; exact hb)
    have hb8:=(hg8.block tb (lt_of_block HT.out) (hne tb HTZ.out)).trans HT.out;have hr8:=(hg8.block rb (lt_of_block HR.out) (hne rb HRZ.out)).trans HR.out;have hf8:=HF.out.trans (grown_fr (B:=λk=>k < w.heap.size) hg8 (λk e b=>by cases e; exact hgb8 (Nat.lt_of_lt_of_le b HWZ.out)))
    have hdl:l.cells = D.toList:=by rw [HDE.out]
    rw [hdl] at hm8 hg8 hb8 hr8 hf8;obtain⟨L9,hL9⟩:∃ L9,L9 = L.set i l:=⟨_,rfl⟩;rw [<- hL9] at hm8;have HL9:=hid (show Tt.addL L l = L9 by rw [hL9]; exact HAL1.out)
    have M8:Hid (Mine (λk=>k < sz) (wr.setCells g8 (i * 97) D.toList) (.slice (some ⟨g8,0,none⟩) ln lc6) (.slice pad6 pn pc6) L9 (Tt.holdPuts (ln:Int) i P 0) SL6):=hid hm8
    have B8:=hid hb8;have R8:=hid hr8;have F8:=hid hf8;clear hgb8 hth8 hm8 hg8 hb8 hr8 hf8 hdl hne hL9;have t0:=two_cell0 HT.out;have hflw:(i:Int) < (ln:Int):=by have:=HFN.out; omega
    have hfl0:¬ (i:Int) < 0:=by omega
    go_upto_region 15 with fail
    refine wp_region_lit ?_;iterate 3 (refine wW λK hK=>?_;go_simp;apply hK;clear hK K)
    refine wLk 48 (.tmp 3) rfl (lb) (0) rfl (.agg D) (HLD.out) ?_
    simp only [Act.put,sA,sB,sC];refine wW λK hK=>?_;go_simp;apply hK;clear hK K;refine @wpL_store_mid _ _ _ _ _ _ _ ?_ 48 _ _ rfl (g8) (i * 97) D rfl rfl (by rw [HSZ.out]; exact HTH.out) (leafInfo HSZ.out) HAL.out ?_;kernel_rfl
    simp only [Act.put];generalize wr.setCells g8 (i * 97) D.toList = w8 at M8 B8 R8 F8 |-;clear t0 hflw hfl0 HTH HLD HM HF HT HR HE;have HQ2:=hid (show pn<=64 by have:=HPN2.out; have:=HQE.out; have:=HLN2.out; have:=HN64.out; omega)
    have hnl9:(ln:Int)<=1000:=by have:=HN64.out; omega
    have hnp9:(pn:Int)<=1000:=by have:=HQ2.out; omega
    go_wp2
    go_loopw [8] (λs8 wr=>∃ j:Nat,s8 = .int .i64 (j:Int)/\Hid (j<=pn)/\∃ SL,Hid (Mine (λk=>k < sz) wr (.slice (some ⟨g8,0,none⟩) ln lc6) (.slice pad6 pn pc6) L9 (Tt.holdPuts (ln:Int) i P j) SL)/\Hid (Frm (λk=>k < w.heap.size) w wr)/\Hid (wr.heap[tb]? = some (.cells #[.slice (some ⟨g8,0,none⟩) ln lc6,.slice pad6 pn pc6] 25 (0,0)))/\Hid (wr.heap[rb]? = some (.cells #[.slice none 0 0,.slice none 0 0] 25 (0,0)))) (λs8 _=>pn - (RowKit.intOf s8).toNat)
    case atStart=>exact⟨0,rfl,hid (Nat.zero_le _),_,M8,F8,B8,R8⟩
    case round=>
     clear M8 F8 B8 R8;obtain⟨j,rfl,hj,SL,HM,HF,HT,HR⟩:=hrel;have t1:=two_cell1 HT.out
     by_cases hlt:j < pn
     ·have hQl:(Tt.holdPuts (ln:Int) i P j).length = pn:=by rw [Tt.holdPuts_length,HPN2.out]
      have hjQ:j < (Tt.holdPuts (ln:Int) i P j).length:=by rw [hQl]; exact hlt
      have hltj:(j:Int) < (pn:Int):=by omega
      have hj0:¬ (j:Int) < 0:=by omega
      obtain⟨g,s,hade,hg,hok,hr,hints⟩:=HM.out.parentRow j hjQ;obtain⟨cur,hcur,hcs⟩:=Mine.prow (g:=g) (by rw [<- hade]; exact HM.out) j hjQ
      have hsS:SL[j]? = some s:=by
       have hjS:j < SL.length:=by rw [HM.out.len]; exact hjQ
       have hh:=HM.out.so j _ SL[j] (List.getElem?_eq_getElem hjQ) (List.getElem?_eq_getElem hjS);obtain⟨ad2,g2,c2,hv2,hc2,_⟩:=HM.out.po.at;obtain⟨ha2,_,_,hr2⟩:=hc2 j (by rw [zip_len HM.out]; exact hjQ)
       injection hv2 with hx2 _ _
       have hgg:g = g2:=by
        have:=hade.symm.trans (hx2.trans ha2);injection this with this
        injection this
       rw [List.getElem_zipWith,Nat.zero_add] at hr2;have e1:=hr 65 s (by simp [Pr.cells,bcells_length,hok.1,hok.2])
       have e2:=hr2 65 SL[j] (by simp [Pr.cells,bcells_length,hok.1,hok.2])
       rw [hgg] at e1;rw [List.getElem?_eq_getElem hjS,<- Option.some.inj (e1.symm.trans e2)]
      have c0a:wr.cell? ⟨g,j * 66,none⟩ = some (.bool ((Tt.holdPuts (ln:Int) i P j)[j]).set):=by
       have:=hr 0 (.bool ((Tt.holdPuts (ln:Int) i P j)[j]).set) rfl
       simpa using this
      have c65:=hr 65 s (by simp [Pr.cells,bcells_length,hok.1,hok.2])
      have hll:((Tt.holdPuts (ln:Int) i P j)[j]).loose.length<=1000:=Tt.holdPuts_loose (b:=999) HPL2.out j _ (List.getElem_mem hjQ)
      have hnx:Tt.holdPuts (ln:Int) i P (j + 1) = if (((Tt.holdPuts (ln:Int) i P j)[j]).set && Bo.Holds (ln:Int) ((2 * j + 1:Nat):Int) (i:Int)) = true then (Tt.holdPuts (ln:Int) i P j).set j (Tt.loosened i (Tt.holdPuts (ln:Int) i P j)[j]) else Tt.holdPuts (ln:Int) i P j:=by
       show Tt.holdPut1 (ln:Int) i _ j = _;unfold Tt.holdPut1;rw [List.getElem?_eq_getElem hjQ]
      obtain⟨Q,hQ⟩:∃ Q,Q = Tt.holdPuts (ln:Int) i P j:=⟨_,rfl⟩;rw [<- hQ] at HM;have HNX:Hid (∀ h:j < Q.length,Tt.holdPuts (ln:Int) i P (j + 1) = if (Q[j].set && Bo.Holds (ln:Int) ((2 * j + 1:Nat):Int) (i:Int)) = true then Q.set j (Tt.loosened i Q[j]) else Q):=hid (by subst hQ; exact λ_=>hnx)
      have HJQ:=hid (show j < Q.length by rw [hQ]; exact hjQ)
      have HIN2:Hid (Ints wr 0 s (Q[j]'HJQ.out).loose):=hid (by subst hQ; exact hints)
      have HLL:Hid ((Q[j]'HJQ.out).loose.length<=1000):=hid (by subst hQ; exact hll)
      have c0:wr.cell? ⟨g,j * 66,none⟩ = some (.bool (Q[j]'HJQ.out).set):=by subst hQ; exact c0a
      obtain⟨st,hst⟩:∃ st,st = (Q[j]'HJQ.out).set:=⟨_,rfl⟩;rw [<- hst] at c0;have HST:=hid hst;have HSS:=hid hsS;have HCU:=hid hcur;have HCS:=hid hcs;have HLT:=hid hlt;have HAD:=hid hade;have C65:=hid c65;obtain⟨sad,sn,sc,rfl⟩:=one_slice HIN2.out;rw [hade] at HT t1 HM;have HW0:=hid (show IntKind.i64.wrap (2 * (j:Int)) = ((2 * j:Nat):Int) by rw [wrap_small _ (by omega) (by omega)]; omega)
      have HW1:=hid (show IntKind.i64.wrap (((2 * j:Nat):Int) + 1) = ((2 * j + 1:Nat):Int) by rw [wrap_small _ (by omega) (by omega)]; omega)
      obtain⟨z,hz⟩:∃ z,z = ((2 * j:Nat):Int):=⟨_,rfl⟩;obtain⟨y,hy⟩:∃ y,y = ((2 * j + 1:Nat):Int):=⟨_,rfl⟩;have HRH:=hid (λu=>rholds_calls (ln:Int) ((2 * j + 1:Nat):Int) (i:Int) u)
      obtain⟨hd,hhd⟩:∃ hd,hd = Bo.Holds (ln:Int) ((2 * j + 1:Nat):Int) (i:Int):=⟨_,rfl⟩;rw [<- hhd] at HRH HNX;rw [<- hy] at HRH HW1;rw [<- hz] at HW0 HW1;clear hade c0a hj hlt hQl hjQ hg hok hr hints hcur hcs hsS hll hnx hQ hst hz hy hhd c65;have t0:=two_cell0 HT.out
      cases st with
      | false=>
       go_upto_region 19 with fail
       refine wp_region_lit ?_;iterate 7 (refine wW λK hK=>?_;go_simp;apply hK;clear hK K)
       (iterate 8 (refine @wpList_skip _ _ _ _ _ _ _ ?_ ?_;kernel_rfl;simp only [Act.put,sA,sB,sC]));refine wW λK hK=>?_;go_simp;apply hK;clear hK K;clear c0 t0 t1;go_wp2
       go_roundw
       case rel=>exact⟨j + 1,by simp,hid HLT.out,_,by rw [HNX.out HJQ.out,if_neg (by rw [<- HST.out,Bool.false_and]; decide)]; have:=HM.out; rw [<- HAD.out] at this; exact hid this,HF,by have:=HT.out; rw [<- HAD.out] at this; exact hid this,HR⟩
       case measure=>have:=HLT.out; simp [RowKit.intOf]; omega
      | true=>
       cases hd with
       | false=>
        go_upto_region 19 with fail
        refine wp_region_lit ?_;iterate 12 (refine wW λK hK=>?_;go_simp;apply hK;clear hK K)
        rw [HW0.out];refine wW λK hK=>?_;go_simp;apply hK;clear hK K;rw [HW1.out];refine wW λK hK=>?_;go_simp;apply hK;clear hK K;refine wW λK hK=>?_;go_simp;go_at_call 59
        refine(HRH.out _).mono ?_;rintro e wq ⟨rfl,hwq⟩;subst wq;apply hK;clear hK K;refine wW λK hK=>?_;go_simp;apply hK;clear hK K;clear c0 t0 t1;go_wp2
        go_roundw
        case rel=>exact⟨j + 1,by simp,hid HLT.out,_,by rw [HNX.out HJQ.out,if_neg (by rw [<- HST.out]; decide)]; have:=HM.out; rw [<- HAD.out] at this; exact hid this,HF,by have:=HT.out; rw [<- HAD.out] at this; exact hid this,HR⟩
        case measure=>have:=HLT.out; simp [RowKit.intOf]; omega
       | true=>
        go_upto_region 19 with fail
        refine wp_region_lit ?_;iterate 12 (refine wW λK hK=>?_;go_simp;apply hK;clear hK K)
        rw [HW0.out];refine wW λK hK=>?_;go_simp;apply hK;clear hK K;rw [HW1.out];refine wW λK hK=>?_;go_simp;apply hK;clear hK K;refine wW λK hK=>?_;go_simp;go_at_call 59
        refine(HRH.out _).mono ?_;rintro e wq ⟨rfl,hwq⟩;subst wq;apply hK;clear hK K;refine wW λK hK=>?_;go_simp;apply hK;clear hK K;clear c0 t0 t1
        go_upto_region 20 with fail
        refine wp_region_noPanic ?_;obtain⟨wd,hwd⟩:∃ wd,wd = wr.drew:=⟨_,rfl⟩;have hkd:Kept wr.heap.size wr.heap.size wr wd:=by rw [hwd]; exact(Kept.refl _ _ _).drew
        have MD:=hid (HM.out.kept hkd);have FD:=hid (HF.out.trans hkd.fr);have TD:=hid (rk HT.out hkd);have RD:=hid (rk HR.out hkd);have CD:=hid (rk HCU.out hkd);have hgw:=lt_of_block HCU.out;have c65d:=(hkd.cell (p:=⟨g,j * 66 + 65,none⟩) hgw (Nat.ne_of_lt hgw)).trans C65.out;have hgd:=lt_of_block CD.out;have HT2:=hid (λ(w':World) (k:Kept wd.heap.size wd.heap.size wd w')=>load_slice (d:=.int .u8) (two_cell1 (rk TD.out k)) (.inr rfl) rfl)
        have HS2:=hid (λ(w':World) (k:Kept wd.heap.size wd.heap.size wd w')=>load_ints ((k.cell (p:=⟨g,j * 66 + 65,none⟩) hgd (Nat.ne_of_lt hgd)).trans c65d))
        have HPU:=hid (λ(w':World) (k:Kept wd.heap.size wd.heap.size wd w')=>refput_calls _ _ (i:Int) w' (ints_nums ((HIN2.out.kept hkd).kept k)) HLL.out)
        clear hkd c65d hgw hgd;refine wp_region_heldTo 13 (S:=λw'=>Kept wd.heap.size wd.heap.size wd w') (by kernel_rfl) (by rw [hwd]; exact Kept.refl _ _ _) (λhH=>?_)
        rw [<- hwd] at hH |-;clear hwd;refine tkT (i:=0) 92 (.pointer (some ⟨tb,1,none⟩)) rfl (.inl ⟨by kernel_rfl,λw9 _=>by go_simp; first | done | rfl⟩) hH ?_
        simp only [sA,sB,sC];refine tkT (i:=1) 93 (.slice (some ⟨g,0,none⟩) pn pc6) rfl (yieldsIf_load_known (by kernel_rfl) 23 _ rfl (tb) (1) rfl (.slice (some ⟨g,0,none⟩) pn pc6) (HT2.out)) hH ?_
        simp only [sA,sB,sC];refine tkT (i:=2) 94 (.int .i64 (j:Int)) rfl (.inl ⟨by kernel_rfl,λw9 _=>by go_simp; first | done | rfl⟩) hH ?_
        simp only [sA,sB,sC];refine tkT (i:=3) 95 (.pointer (some ⟨tb,1,none⟩)) rfl (.inl ⟨by kernel_rfl,λw9 _=>by go_simp; first | done | rfl⟩) hH ?_
        simp only [sA,sB,sC];refine tkT (i:=4) 96 (.slice (some ⟨g,0,none⟩) pn pc6) rfl (yieldsIf_load_known (by kernel_rfl) 23 _ rfl (tb) (1) rfl (.slice (some ⟨g,0,none⟩) pn pc6) (HT2.out)) hH ?_
        simp only [sA,sB,sC];refine tkT (i:=5) 97 (.int .i64 (j:Int)) rfl (.inl ⟨by kernel_rfl,λw9 _=>by go_simp; first | done | rfl⟩) hH ?_
        simp only [sA,sB,sC];refine tkT (i:=6) 98 (.pointer (some ⟨g,j * 66,none⟩)) rfl (.inl ⟨by kernel_rfl,λw9 _=>by go_simp; first | done | rfl⟩) hH ?_
        simp only [sA,sB,sC];refine tkT (i:=7) 99 (.pointer (some ⟨g,j * 66 + 65,none⟩)) rfl (.inl ⟨by kernel_rfl,λw9 _=>by go_simp; first | done | rfl⟩) hH ?_
        simp only [sA,sB,sC];refine tkT (i:=8) 100 (.slice sad sn sc) rfl (yieldsIf_load_known (by kernel_rfl) 38 _ rfl (g) (j * 66 + 65) rfl (.slice sad sn sc) (HS2.out)) hH ?_
        simp only [sA,sB,sC];refine tkT (i:=9) 101 (.int .i64 (i:Int)) rfl (.inl ⟨by kernel_rfl,λw9 _=>by go_simp; first | done | rfl⟩) hH ?_
        simp only [sA,sB,sC];refine heldTo_one (i:=10) (by kernel_rfl) rfl (λK hK=>?_)
        rw [if_pos (by rfl)]
        go_simp
        go_wp2_with (go_at_call 64; refine(HPU.out _ (Kept.refl _ _ _)).mono ?_; rintro e wx ⟨v3,rfl,i3,k3⟩)
        obtain⟨vad,vn,vc,rfl⟩:=one_slice i3;refine hK.out _ _ k3 (λhH=>?_)
        clear hK K;refine heldTo_one (i:=11) (by kernel_rfl) rfl (λK hK=>?_)
        rw [if_pos (by rfl)]
        go_simp;refine hK.out _ _ hH (λhH=>?_)
        clear hK K;refine tkT (i:=12) 104 (.pointer (some ⟨g,j * 66 + 65,none⟩)) rfl (.inl ⟨by kernel_rfl,λw9 _=>by go_simp; first | done | rfl⟩) hH ?_
        simp only [sA,sB,sC];have hcx:=(k3.block g (lt_of_block CD.out) (Nat.ne_of_lt (lt_of_block CD.out))).trans CD.out;have hjS:j < SL.length:=(List.getElem?_eq_some_iff.1 HSS.out).1;have hSe:SL[j] = .slice sad sn sc:=(List.getElem?_eq_some_iff.1 HSS.out).2;obtain⟨m4,g4⟩:=Mine.loose MD.out j HJQ.out hjS (.slice vad vn vc) _ (w1:=wx) ⟨k3.os,k3.tape,k3.output,k3.size,λb hb _=>k3.block b hb (Nat.ne_of_lt hb)⟩ (owns_lower i3 (Nat.zero_le _)) (.inr λb hb=>(World.ownsRow.lt i3 b hb).1)
        have hne:∀ b,b < sz->some b≠some g:=λb hb e=>MD.out.op g rfl (by rw [<- Option.some.inj e]; exact hb)
        have F4:=hid ((FD.out.trans k3.fr).trans (grown_fr (B:=λk=>k < w.heap.size) g4 (λk e b=>MD.out.op g rfl (by rw [Option.some.inj e]; exact Nat.lt_of_lt_of_le b HWZ.out))))
        have tx:=(k3.block tb (lt_of_block TD.out) (Nat.ne_of_lt (lt_of_block TD.out))).trans TD.out;have rx:=(k3.block rb (lt_of_block RD.out) (Nat.ne_of_lt (lt_of_block RD.out))).trans RD.out;have T4:=hid ((g4.block tb (lt_of_block tx) (hne tb HTZ.out)).trans tx);have R4:=hid ((g4.block rb (lt_of_block rx) (hne rb HRZ.out)).trans rx);have hnx:=HNX.out HJQ.out;rw [<- HST.out,if_pos (by decide),show Tt.loosened i (Q[j]'HJQ.out) = { (Q[j]'HJQ.out) with loose:=Tt.put (Q[j]'HJQ.out).loose (i:Int) } by unfold Tt.loosened; rw [if_pos HST.out.symm]] at hnx
        rw [<- hnx] at m4;have M4:=hid m4;have HCX:=hid hcx;clear hcx hSe m4 g4 hne tx rx hnx i3 k3;refine heldTo_last (by kernel_rfl) rfl (λK hK=>?_)
        rw [if_pos (by rfl)]
        refine wp_store_part_none 38 _ _ rfl rfl g (j * 66 + 65) cur 68 (.slice vad vn vc) rfl rfl HCX.out HCS.out rfl (by kernel_rfl) ?_
        refine hK.out _ _ ?_;clear hK K;refine heldTo_done (by kernel_rfl) ?_ _
        refine NoPanic.normal ?_;generalize wx.setCell ⟨g,j * 66 + 65,none⟩ (.slice vad vn vc) = wy at M4 F4 T4 R4 |-;go_wp2
        go_roundw
        case rel=>exact⟨j + 1,by simp,hid HLT.out,_,by have:=M4.out; rw [<- HAD.out] at this; exact hid this,F4,by have:=T4.out; rw [<- HAD.out] at this; exact hid this,R4⟩
        case measure=>have:=HLT.out; simp [RowKit.intOf]; omega
     ·have HE:=hid (show j = pn by have:=hj.out; omega)
      have hnl:¬ (j:Int) < (pn:Int):=by omega
      clear hlt hj
      go_upto_region 21 with fail
      clear t1;refine wp_region_lit ?_;refine wLk 25 (.tmp 2) rfl (tb) (0) rfl (.agg #[.slice (some ⟨g8,0,none⟩) ln lc6,.slice pad6 pn pc6]) (run_loadVar_row wr tb 25 25 _ (0,0) _ HT.out Tryz.underlying25 rfl treeInfo) ?_
      simp only [Act.put,sA,sB,sC];refine wW λK hK=>?_;go_simp;apply hK;clear hK K;refine wpList_store_row rfl 25 _ _ rfl (rb) #[.slice (some ⟨g8,0,none⟩) ln lc6,.slice pad6 pn pc6] rfl rfl 25 #[.slice none 0 0,.slice none 0 0] HR.out treeInfo rfl (tree_all _ _ _ _ _ _) ?_
      simp only [Act.put];iterate 2 (refine wW λK hK=>?_;go_simp;apply hK;clear hK K)
      have R12:=setRow_heap wr rb _ #[.slice (some ⟨g8,0,none⟩) ln lc6,.slice pad6 pn pc6] _ _ HR.out;have g12:=grown_setRow wr rb #[.slice (some ⟨g8,0,none⟩) ln lc6,.slice pad6 pn pc6];have M12:=hid (HM.out.aside (b:=rb) HRZ.out g12);have F12:=hid ((HF.out.trans (grown_fr (B:=λk=>k < w.heap.size) g12 (λk e b=>by cases e; exact HRB.out b))).kept (λk hk=>hk))
      generalize wr.setRow rb #[.slice (some ⟨g8,0,none⟩) ln lc6,.slice pad6 pn pc6] = wz at R12 g12 M12 F12 |-;go_wp2;refine bodyPost_ret (results_row3 rfl _ _ rb 25 _ (0,0) _ rfl R12 Tryz.underlying25 rfl treeInfo) rfl ?_
      have hm:=M12.out
      have hq:Tt.holdPuts (ln:Int) i P j = Tt.addP L P:=by
       rw [HE.out,HPN2.out,HLN2.out,Tt.holdPuts_loosens (by rw [<- HLN2.out]; exact HN64.out) (by rw [<- HLN2.out]; exact HFN.out) HQE.out,<- HAP1.out]
      rw [hq,<- HL9.out] at hm;exact⟨_,_,rfl,F12.out,SL,hm.mono (λ_ b=>Nat.lt_of_lt_of_le b HWZ.out)⟩
   ·have hlti:¬ (i:Int) < (ln:Int):=by omega
    have HHF:=hid (show i = ln by have:=HFL.out; omega)
    clear hf
    go_upto_region 7 with fail
    refine wp_region_lit ?_;iterate 6 (refine wW λK hK=>?_;go_simp;apply hK;clear hK K)
    (iterate 7 (refine @wpList_skip _ _ _ _ _ _ _ ?_ ?_;kernel_rfl;simp only [Act.put,sA,sB,sC]));refine wW λK hK=>?_;go_simp;apply hK;clear hK K;clear hlti;have hf64:((i:Int) == 64) = false:=by rw [beq_eq_false_iff_ne]; have:=H64.out; omega
    by_cases hz:i = 0
    ·have HNZ:=hid hz
     have hgt:¬ (0:Int) < (i:Int):=by omega
     have hgt2:¬ 0 < i:=by omega
     clear hz
     go_upto_region 9 with fail
     refine wp_region_lit ?_;iterate 2 (refine wW λK hK=>?_;go_simp;apply hK;clear hK K)
     clear hf64;have hnq:((i:Int) == (ln:Int)) = true:=by rw [beq_iff_eq]; have:=HHF.out; omega
     go_upto_region 11 with fail
     refine wp_region_lit ?_;iterate 5 (refine wW λK hK=>?_;go_simp;apply hK;clear hK K)
     clear t0 hnq
     go_upto_region 12 with fail
     refine wp_region_lit ?_;iterate 2 (refine wW λK hK=>?_;go_simp;apply hK;clear hK K)
     clear hgt hgt2;have HPN2:=HPN;have HLX:=hid (run_loadVar_row wr lb 48 48 _ (0,0) _ HE.out Tryz.underlying48 rfl (leafInfo HSZ.out))
     have mb:=HM.out.alloc (.cells l.cells.toArray 48)
     have kb:=kA wr (.cells l.cells.toArray 48)
     have hnb:=heap_new wr (.cells l.cells.toArray 48)
     have eb:=build_leaf1 wr l HOK.out;obtain⟨v8,w8,e8,m8,g8⟩:=mb.moreLeaf wr.heap.size 1 l HOK.out (rangeAt_row hnb) (by have:=HN0.out; omega)
     obtain⟨xad,xc,hxs⟩:=m8.lvs.shape;subst hxs;obtain⟨L2,hL2⟩:∃ L2,L2 = L ++ [l]:=⟨_,rfl⟩;rw [<- hL2] at e8 m8;obtain⟨n2,hn2⟩:∃ n2,n2 = L2.length:=⟨_,rfl⟩;rw [<- hn2] at e8 m8;have fb8:=kb.fr (B:=λk=>k < sz)
     have f8:=fb8.trans (grown_fr (B:=λk=>k < sz) g8 (λg e=>mb.ol g e))
     have fw8:=(HF.out.trans (kb.fr (B:=λk=>k < w.heap.size))).trans (grown_fr (B:=λk=>k < w.heap.size) g8 (λg e b=>mb.ol g e (Nat.lt_of_lt_of_le b HWZ.out)))
     have tt8:=(f8.block tb (lt_of_block HT.out) HTZ.out).trans HT.out;have rr8:=(f8.block rb (lt_of_block HR.out) HRZ.out).trans HR.out;have ee8:=(f8.block lb (lt_of_block HE.out) HLZ.out).trans HE.out;have g9:=grown_set w8 tb 0 (.slice xad n2 xc);have M9:=hid (m8.aside (b:=tb) HTZ.out g9);have F9:=hid (fw8.trans (grown_fr (B:=λk=>k < w.heap.size) g9 (λk e b=>by cases e; exact HTB.out b)))
     have R9:=hid ((g9.block rb (lt_of_block rr8) (λe=>HTR.out (Option.some.inj e).symm)).trans rr8)
     have E9:=hid ((g9.block lb (lt_of_block ee8) (λe=>HTL.out (Option.some.inj e).symm)).trans ee8)
     have T9:Hid ((w8.setCell ⟨tb,0,none⟩ (.slice xad n2 xc)).heap[tb]? = some (.cells #[.slice xad n2 xc,.slice pad6 pn pc6] 25 (0,0))):=hid (cells_set (cs:=[.slice lad6 ln lc6,.slice pad6 pn pc6]) tt8 0 (.slice xad n2 xc))
     rw [<- HDE.out] at eb e8;have EB:=hid eb;have E8:=hid e8;have TT8:=hid tt8;have HL2:=hid hL2;have HLN2:=hid hn2;have t0:=two_cell0 HT.out;clear mb kb hnb eb e8 m8 g8 fb8 f8 fw8 tt8 rr8 ee8 g9 hL2 hn2
     go_upto_region 14 with fail
     refine wp_region_lit ?_;iterate 2 (refine wW λK hK=>?_;go_simp;apply hK;clear hK K)
     refine wLk 48 (.tmp 3) rfl (lb) (0) rfl (.agg D) (HLX.out) ?_
     simp only [Act.put,sA,sB,sC];refine @wpL_build_known _ _ _ _ _ _ _ _ ?_ 22 (.tmp 60) rfl (.agg D) _ rfl EB.out ?_;kernel_rfl
     simp only [Act.put,sA,sB,sC];refine wpList_append_known rfl (.tmp 59) (.tmp 61) 22 22 22 rfl rfl (.slice lad6 ln lc6) (.slice (some ⟨wr.heap.size,0,none⟩) 1 1) rfl rfl E8.out ?_
     simp only [Act.put,sA,sB,sC];refine wW λK hK=>?_;go_simp;apply hK;clear hK K;refine @wpL_store_part _ _ _ _ _ _ _ ?hw48227b 22 _ _ rfl tb 0 [.slice lad6 ln lc6,.slice pad6 pn pc6] 25 (.slice xad n2 xc) rfl rfl TT8.out (by simp) rfl (by kernel_rfl) ?_
     case hw48227b=>kernel_rfl
     simp only [Act.put];generalize w8.setCell ⟨tb,0,none⟩ (.slice xad n2 xc) = w9 at M9 F9 R9 E9 T9 |-;clear t0 EB E8 TT8 HLX HM HF HT HR HE;have HWD:=hid (show Tt.firstBlank L = L.length by rw [<- HFE.out,<- HLN.out]; exact HHF.out)
     have HLL2:=hid (show L2.length = L.length + 1 by rw [HL2.out]; exact List.length_append)
     have HQE:=hid (show P.length = L2.length - 1 by rw [HLL2.out,HPEQ.out]; have:=HNZ.out; have:=HHF.out; have:=HLN.out; omega)
     have HN64:=hid (show n2<=64 by have:=HLN2.out; have:=HLL2.out; have:=HN0.out; have:=H64.out; have:=HHF.out; have:=HLN.out; omega)
     have HFN:=hid (show i < n2 by have:=HLN2.out; have:=HLL2.out; have:=HHF.out; have:=HLN.out; omega)
     have HAL1:=hid (show Tt.addL L l = L2.set i l by
      have hi2:i = L.length:=by rw [HHF.out,HLN.out]
      rw [Tt.addL,Tt.wide,if_pos HWD.out,HL2.out,HWD.out,hi2,List.set_append_right (h:=Nat.le_refl _),List.set_append_right (h:=Nat.le_refl _),Nat.sub_self]
      rfl)
     have HAP1:=hid (show Tt.addP L P = Tt.loosens i (Bo.Direct (L2.length:Int) (i:Int)) P by
      have hi2:i = L.length:=by rw [HHF.out,HLN.out]
      have hw:(Tt.wide L).length = L2.length:=by
       rw [Tt.wide,if_pos HWD.out,HLL2.out];exact List.length_append
      have hwp:Tt.wideP L P = P:=by
       rw [Tt.wideP,if_pos HWD.out];rw [if_pos (by have:=HNZ.out; omega)]
      rw [Tt.addP,hw,hwp,HWD.out,<- hi2])
     have HPL2:=hid (show ∀ p∈P,p.loose.length<=999 from HPLX.out);obtain⟨g8,cap8,he8,hgb8,hth8,hm8,hg8⟩:=M9.out.leaf i (by rw [<- HLN2.out]; exact HFN.out) l HOK.out
     rw [<- HLN2.out] at he8;injection he8 with hea hez hec
     first
      | subst hea
      | (injection hea with hea; injection hea with hea hq1 hq2; have heb:=hea.symm; clear hea; subst heb; clear hq1 hq2)
     clear hez hec;have HLD:=hid (run_loadVar_row w9 lb 48 48 _ (0,0) _ E9.out Tryz.underlying48 rfl (leafInfo HSZ.out))
     have HTH:=hid hth8;have hne:∀ b,b < sz->some b≠some g8:=λb hb e=>hgb8 (by rw [<- Option.some.inj e]; exact hb)
     have hb8:=(hg8.block tb (lt_of_block T9.out) (hne tb HTZ.out)).trans T9.out;have hr8:=(hg8.block rb (lt_of_block R9.out) (hne rb HRZ.out)).trans R9.out;have hf8:=F9.out.trans (grown_fr (B:=λk=>k < w.heap.size) hg8 (λk e b=>by cases e; exact hgb8 (Nat.lt_of_lt_of_le b HWZ.out)))
     have hdl:l.cells = D.toList:=by rw [HDE.out]
     rw [hdl] at hm8 hg8 hb8 hr8 hf8;obtain⟨L9,hL9⟩:∃ L9,L9 = L2.set i l:=⟨_,rfl⟩;rw [<- hL9] at hm8;have HL9:=hid (show Tt.addL L l = L9 by rw [hL9]; exact HAL1.out)
     have M8:Hid (Mine (λk=>k < sz) (w9.setCells g8 (i * 97) D.toList) (.slice (some ⟨g8,0,none⟩) n2 xc) (.slice pad6 pn pc6) L9 (Tt.holdPuts (n2:Int) i P 0) SL6):=hid hm8
     have B8:=hid hb8;have R8:=hid hr8;have F8:=hid hf8;clear hgb8 hth8 hm8 hg8 hb8 hr8 hf8 hdl hne hL9;have t0:=two_cell0 T9.out;have hflw:(i:Int) < (n2:Int):=by have:=HFN.out; omega
     have hfl0:¬ (i:Int) < 0:=by omega
     go_upto_region 15 with fail
     refine wp_region_lit ?_;iterate 3 (refine wW λK hK=>?_;go_simp;apply hK;clear hK K)
     refine wLk 48 (.tmp 3) rfl (lb) (0) rfl (.agg D) (HLD.out) ?_
     simp only [Act.put,sA,sB,sC];refine wW λK hK=>?_;go_simp;apply hK;clear hK K;refine @wpL_store_mid _ _ _ _ _ _ _ ?_ 48 _ _ rfl (g8) (i * 97) D rfl rfl (by rw [HSZ.out]; exact HTH.out) (leafInfo HSZ.out) HAL.out ?_;kernel_rfl
     simp only [Act.put];generalize w9.setCells g8 (i * 97) D.toList = w8 at M8 B8 R8 F8 |-;clear t0 hflw hfl0 HTH HLD M9 F9 T9 R9 E9;have HQ2:=hid (show pn<=64 by have:=HPN2.out; have:=HQE.out; have:=HLN2.out; have:=HN64.out; omega)
     have hnl9:(n2:Int)<=1000:=by have:=HN64.out; omega
     have hnp9:(pn:Int)<=1000:=by have:=HQ2.out; omega
     go_wp2
     go_loopw [8] (λs8 wr=>∃ j:Nat,s8 = .int .i64 (j:Int)/\Hid (j<=pn)/\∃ SL,Hid (Mine (λk=>k < sz) wr (.slice (some ⟨g8,0,none⟩) n2 xc) (.slice pad6 pn pc6) L9 (Tt.holdPuts (n2:Int) i P j) SL)/\Hid (Frm (λk=>k < w.heap.size) w wr)/\Hid (wr.heap[tb]? = some (.cells #[.slice (some ⟨g8,0,none⟩) n2 xc,.slice pad6 pn pc6] 25 (0,0)))/\Hid (wr.heap[rb]? = some (.cells #[.slice none 0 0,.slice none 0 0] 25 (0,0)))) (λs8 _=>pn - (RowKit.intOf s8).toNat)
     case atStart=>exact⟨0,rfl,hid (Nat.zero_le _),_,M8,F8,B8,R8⟩
     case round=>
      clear M8 F8 B8 R8;obtain⟨j,rfl,hj,SL,HM,HF,HT,HR⟩:=hrel;have t1:=two_cell1 HT.out
      by_cases hlt:j < pn
      ·have hQl:(Tt.holdPuts (n2:Int) i P j).length = pn:=by rw [Tt.holdPuts_length,HPN2.out]
       have hjQ:j < (Tt.holdPuts (n2:Int) i P j).length:=by rw [hQl]; exact hlt
       have hltj:(j:Int) < (pn:Int):=by omega
       have hj0:¬ (j:Int) < 0:=by omega
       obtain⟨g,s,hade,hg,hok,hr,hints⟩:=HM.out.parentRow j hjQ;obtain⟨cur,hcur,hcs⟩:=Mine.prow (g:=g) (by rw [<- hade]; exact HM.out) j hjQ
       have hsS:SL[j]? = some s:=by
        have hjS:j < SL.length:=by rw [HM.out.len]; exact hjQ
        have hh:=HM.out.so j _ SL[j] (List.getElem?_eq_getElem hjQ) (List.getElem?_eq_getElem hjS);obtain⟨ad2,g2,c2,hv2,hc2,_⟩:=HM.out.po.at;obtain⟨ha2,_,_,hr2⟩:=hc2 j (by rw [zip_len HM.out]; exact hjQ)
        injection hv2 with hx2 _ _
        have hgg:g = g2:=by
         have:=hade.symm.trans (hx2.trans ha2);injection this with this
         injection this
        rw [List.getElem_zipWith,Nat.zero_add] at hr2;have e1:=hr 65 s (by simp [Pr.cells,bcells_length,hok.1,hok.2])
        have e2:=hr2 65 SL[j] (by simp [Pr.cells,bcells_length,hok.1,hok.2])
        rw [hgg] at e1;rw [List.getElem?_eq_getElem hjS,<- Option.some.inj (e1.symm.trans e2)]
       have c0a:wr.cell? ⟨g,j * 66,none⟩ = some (.bool ((Tt.holdPuts (n2:Int) i P j)[j]).set):=by
        have:=hr 0 (.bool ((Tt.holdPuts (n2:Int) i P j)[j]).set) rfl
        simpa using this
       have c65:=hr 65 s (by simp [Pr.cells,bcells_length,hok.1,hok.2])
       have hll:((Tt.holdPuts (n2:Int) i P j)[j]).loose.length<=1000:=Tt.holdPuts_loose (b:=999) HPL2.out j _ (List.getElem_mem hjQ)
       have hnx:Tt.holdPuts (n2:Int) i P (j + 1) = if (((Tt.holdPuts (n2:Int) i P j)[j]).set && Bo.Holds (n2:Int) ((2 * j + 1:Nat):Int) (i:Int)) = true then (Tt.holdPuts (n2:Int) i P j).set j (Tt.loosened i (Tt.holdPuts (n2:Int) i P j)[j]) else Tt.holdPuts (n2:Int) i P j:=by
        show Tt.holdPut1 (n2:Int) i _ j = _;unfold Tt.holdPut1;rw [List.getElem?_eq_getElem hjQ]
       obtain⟨Q,hQ⟩:∃ Q,Q = Tt.holdPuts (n2:Int) i P j:=⟨_,rfl⟩;rw [<- hQ] at HM;have HNX:Hid (∀ h:j < Q.length,Tt.holdPuts (n2:Int) i P (j + 1) = if (Q[j].set && Bo.Holds (n2:Int) ((2 * j + 1:Nat):Int) (i:Int)) = true then Q.set j (Tt.loosened i Q[j]) else Q):=hid (by subst hQ; exact λ_=>hnx)
       have HJQ:=hid (show j < Q.length by rw [hQ]; exact hjQ)
       have HIN2:Hid (Ints wr 0 s (Q[j]'HJQ.out).loose):=hid (by subst hQ; exact hints)
       have HLL:Hid ((Q[j]'HJQ.out).loose.length<=1000):=hid (by subst hQ; exact hll)
       have c0:wr.cell? ⟨g,j * 66,none⟩ = some (.bool (Q[j]'HJQ.out).set):=by subst hQ; exact c0a
       obtain⟨st,hst⟩:∃ st,st = (Q[j]'HJQ.out).set:=⟨_,rfl⟩;rw [<- hst] at c0;have HST:=hid hst;have HSS:=hid hsS;have HCU:=hid hcur;have HCS:=hid hcs;have HLT:=hid hlt;have HAD:=hid hade;have C65:=hid c65;obtain⟨sad,sn,sc,rfl⟩:=one_slice HIN2.out;rw [hade] at HT t1 HM;have HW0:=hid (show IntKind.i64.wrap (2 * (j:Int)) = ((2 * j:Nat):Int) by rw [wrap_small _ (by omega) (by omega)]; omega)
       have HW1:=hid (show IntKind.i64.wrap (((2 * j:Nat):Int) + 1) = ((2 * j + 1:Nat):Int) by rw [wrap_small _ (by omega) (by omega)]; omega)
       obtain⟨z,hz⟩:∃ z,z = ((2 * j:Nat):Int):=⟨_,rfl⟩;obtain⟨y,hy⟩:∃ y,y = ((2 * j + 1:Nat):Int):=⟨_,rfl⟩;have HRH:=hid (λu=>rholds_calls (n2:Int) ((2 * j + 1:Nat):Int) (i:Int) u)
       obtain⟨hd,hhd⟩:∃ hd,hd = Bo.Holds (n2:Int) ((2 * j + 1:Nat):Int) (i:Int):=⟨_,rfl⟩;rw [<- hhd] at HRH HNX;rw [<- hy] at HRH HW1;rw [<- hz] at HW0 HW1;clear hade c0a hj hlt hQl hjQ hg hok hr hints hcur hcs hsS hll hnx hQ hst hz hy hhd c65;have t0:=two_cell0 HT.out
       cases st with
       | false=>
        go_upto_region 19 with fail
        refine wp_region_lit ?_;iterate 7 (refine wW λK hK=>?_;go_simp;apply hK;clear hK K)
        (iterate 8 (refine @wpList_skip _ _ _ _ _ _ _ ?_ ?_;kernel_rfl;simp only [Act.put,sA,sB,sC]));refine wW λK hK=>?_;go_simp;apply hK;clear hK K;clear c0 t0 t1;go_wp2
        go_roundw
        case rel=>exact⟨j + 1,by simp,hid HLT.out,_,by rw [HNX.out HJQ.out,if_neg (by rw [<- HST.out,Bool.false_and]; decide)]; have:=HM.out; rw [<- HAD.out] at this; exact hid this,HF,by have:=HT.out; rw [<- HAD.out] at this; exact hid this,HR⟩
        case measure=>have:=HLT.out; simp [RowKit.intOf]; omega
       | true=>
        cases hd with
        | false=>
         go_upto_region 19 with fail
         refine wp_region_lit ?_;iterate 12 (refine wW λK hK=>?_;go_simp;apply hK;clear hK K)
         rw [HW0.out];refine wW λK hK=>?_;go_simp;apply hK;clear hK K;rw [HW1.out];refine wW λK hK=>?_;go_simp;apply hK;clear hK K;refine wW λK hK=>?_;go_simp;go_at_call 59
         refine(HRH.out _).mono ?_;rintro e wq ⟨rfl,hwq⟩;subst wq;apply hK;clear hK K;refine wW λK hK=>?_;go_simp;apply hK;clear hK K;clear c0 t0 t1;go_wp2
         go_roundw
         case rel=>exact⟨j + 1,by simp,hid HLT.out,_,by rw [HNX.out HJQ.out,if_neg (by rw [<- HST.out]; decide)]; have:=HM.out; rw [<- HAD.out] at this; exact hid this,HF,by have:=HT.out; rw [<- HAD.out] at this; exact hid this,HR⟩
         case measure=>have:=HLT.out; simp [RowKit.intOf]; omega
        | true=>
         go_upto_region 19 with fail
         refine wp_region_lit ?_;iterate 12 (refine wW λK hK=>?_;go_simp;apply hK;clear hK K)
         rw [HW0.out];refine wW λK hK=>?_;go_simp;apply hK;clear hK K;rw [HW1.out];refine wW λK hK=>?_;go_simp;apply hK;clear hK K;refine wW λK hK=>?_;go_simp;go_at_call 59
         refine(HRH.out _).mono ?_;rintro e wq ⟨rfl,hwq⟩;subst wq;apply hK;clear hK K;refine wW λK hK=>?_;go_simp;apply hK;clear hK K;clear c0 t0 t1
         go_upto_region 20 with fail
         refine wp_region_noPanic ?_;obtain⟨wd,hwd⟩:∃ wd,wd = wr.drew:=⟨_,rfl⟩;have hkd:Kept wr.heap.size wr.heap.size wr wd:=by rw [hwd]; exact(Kept.refl _ _ _).drew
         have MD:=hid (HM.out.kept hkd);have FD:=hid (HF.out.trans hkd.fr);have TD:=hid (rk HT.out hkd);have RD:=hid (rk HR.out hkd);have CD:=hid (rk HCU.out hkd);have hgw:=lt_of_block HCU.out;have c65d:=(hkd.cell (p:=⟨g,j * 66 + 65,none⟩) hgw (Nat.ne_of_lt hgw)).trans C65.out;have hgd:=lt_of_block CD.out;have HT2:=hid (λ(w':World) (k:Kept wd.heap.size wd.heap.size wd w')=>load_slice (d:=.int .u8) (two_cell1 (rk TD.out k)) (.inr rfl) rfl)
         have HS2:=hid (λ(w':World) (k:Kept wd.heap.size wd.heap.size wd w')=>load_ints ((k.cell (p:=⟨g,j * 66 + 65,none⟩) hgd (Nat.ne_of_lt hgd)).trans c65d))
         have HPU:=hid (λ(w':World) (k:Kept wd.heap.size wd.heap.size wd w')=>refput_calls _ _ (i:Int) w' (ints_nums ((HIN2.out.kept hkd).kept k)) HLL.out)
         clear hkd c65d hgw hgd;refine wp_region_heldTo 13 (S:=λw'=>Kept wd.heap.size wd.heap.size wd w') (by kernel_rfl) (by rw [hwd]; exact Kept.refl _ _ _) (λhH=>?_)
         rw [<- hwd] at hH |-;clear hwd;refine tkT (i:=0) 92 (.pointer (some ⟨tb,1,none⟩)) rfl (.inl ⟨by kernel_rfl,λw9 _=>by go_simp; first | done | rfl⟩) hH ?_
         simp only [sA,sB,sC];refine tkT (i:=1) 93 (.slice (some ⟨g,0,none⟩) pn pc6) rfl (yieldsIf_load_known (by kernel_rfl) 23 _ rfl (tb) (1) rfl (.slice (some ⟨g,0,none⟩) pn pc6) (HT2.out)) hH ?_
         simp only [sA,sB,sC];refine tkT (i:=2) 94 (.int .i64 (j:Int)) rfl (.inl ⟨by kernel_rfl,λw9 _=>by go_simp; first | done | rfl⟩) hH ?_
         simp only [sA,sB,sC];refine tkT (i:=3) 95 (.pointer (some ⟨tb,1,none⟩)) rfl (.inl ⟨by kernel_rfl,λw9 _=>by go_simp; first | done | rfl⟩) hH ?_
         simp only [sA,sB,sC];refine tkT (i:=4) 96 (.slice (some ⟨g,0,none⟩) pn pc6) rfl (yieldsIf_load_known (by kernel_rfl) 23 _ rfl (tb) (1) rfl (.slice (some ⟨g,0,none⟩) pn pc6) (HT2.out)) hH ?_
         simp only [sA,sB,sC];refine tkT (i:=5) 97 (.int .i64 (j:Int)) rfl (.inl ⟨by kernel_rfl,λw9 _=>by go_simp; first | done | rfl⟩) hH ?_
         simp only [sA,sB,sC];refine tkT (i:=6) 98 (.pointer (some ⟨g,j * 66,none⟩)) rfl (.inl ⟨by kernel_rfl,λw9 _=>by go_simp; first | done | rfl⟩) hH ?_
         simp only [sA,sB,sC];refine tkT (i:=7) 99 (.pointer (some ⟨g,j * 66 + 65,none⟩)) rfl (.inl ⟨by kernel_rfl,λw9 _=>by go_simp; first | done | rfl⟩) hH ?_
         simp only [sA,sB,sC];refine tkT (i:=8) 100 (.slice sad sn sc) rfl (yieldsIf_load_known (by kernel_rfl) 38 _ rfl (g) (j * 66 + 65) rfl (.slice sad sn sc) (HS2.out)) hH ?_
         simp only [sA,sB,sC];refine tkT (i:=9) 101 (.int .i64 (i:Int)) rfl (.inl ⟨by kernel_rfl,λw9 _=>by go_simp; first | done | rfl⟩) hH ?_
         simp only [sA,sB,sC];refine heldTo_one (i:=10) (by kernel_rfl) rfl (λK hK=>?_)
         rw [if_pos (by rfl)]
         go_simp
         go_wp2_with (go_at_call 64; refine(HPU.out _ (Kept.refl _ _ _)).mono ?_; rintro e wx ⟨v3,rfl,i3,k3⟩)
         obtain⟨vad,vn,vc,rfl⟩:=one_slice i3;refine hK.out _ _ k3 (λhH=>?_)
         clear hK K;refine heldTo_one (i:=11) (by kernel_rfl) rfl (λK hK=>?_)
         rw [if_pos (by rfl)]
         go_simp;refine hK.out _ _ hH (λhH=>?_)
         clear hK K;refine tkT (i:=12) 104 (.pointer (some ⟨g,j * 66 + 65,none⟩)) rfl (.inl ⟨by kernel_rfl,λw9 _=>by go_simp; first | done | rfl⟩) hH ?_
         simp only [sA,sB,sC];have hcx:=(k3.block g (lt_of_block CD.out) (Nat.ne_of_lt (lt_of_block CD.out))).trans CD.out;have hjS:j < SL.length:=(List.getElem?_eq_some_iff.1 HSS.out).1;have hSe:SL[j] = .slice sad sn sc:=(List.getElem?_eq_some_iff.1 HSS.out).2;obtain⟨m4,g4⟩:=Mine.loose MD.out j HJQ.out hjS (.slice vad vn vc) _ (w1:=wx) ⟨k3.os,k3.tape,k3.output,k3.size,λb hb _=>k3.block b hb (Nat.ne_of_lt hb)⟩ (owns_lower i3 (Nat.zero_le _)) (.inr λb hb=>(World.ownsRow.lt i3 b hb).1)
         have hne:∀ b,b < sz->some b≠some g:=λb hb e=>MD.out.op g rfl (by rw [<- Option.some.inj e]; exact hb)
         have F4:=hid ((FD.out.trans k3.fr).trans (grown_fr (B:=λk=>k < w.heap.size) g4 (λk e b=>MD.out.op g rfl (by rw [Option.some.inj e]; exact Nat.lt_of_lt_of_le b HWZ.out))))
         have tx:=(k3.block tb (lt_of_block TD.out) (Nat.ne_of_lt (lt_of_block TD.out))).trans TD.out;have rx:=(k3.block rb (lt_of_block RD.out) (Nat.ne_of_lt (lt_of_block RD.out))).trans RD.out;have T4:=hid ((g4.block tb (lt_of_block tx) (hne tb HTZ.out)).trans tx);have R4:=hid ((g4.block rb (lt_of_block rx) (hne rb HRZ.out)).trans rx);have hnx:=HNX.out HJQ.out;rw [<- HST.out,if_pos (by decide),show Tt.loosened i (Q[j]'HJQ.out) = { (Q[j]'HJQ.out) with loose:=Tt.put (Q[j]'HJQ.out).loose (i:Int) } by unfold Tt.loosened; rw [if_pos HST.out.symm]] at hnx
         rw [<- hnx] at m4;have M4:=hid m4;have HCX:=hid hcx;clear hcx hSe m4 g4 hne tx rx hnx i3 k3;refine heldTo_last (by kernel_rfl) rfl (λK hK=>?_)
         rw [if_pos (by rfl)]
         refine wp_store_part_none 38 _ _ rfl rfl g (j * 66 + 65) cur 68 (.slice vad vn vc) rfl rfl HCX.out HCS.out rfl (by kernel_rfl) ?_
         refine hK.out _ _ ?_;clear hK K;refine heldTo_done (by kernel_rfl) ?_ _
         refine NoPanic.normal ?_;generalize wx.setCell ⟨g,j * 66 + 65,none⟩ (.slice vad vn vc) = wy at M4 F4 T4 R4 |-;go_wp2
         go_roundw
         case rel=>exact⟨j + 1,by simp,hid HLT.out,_,by have:=M4.out; rw [<- HAD.out] at this; exact hid this,F4,by have:=T4.out; rw [<- HAD.out] at this; exact hid this,R4⟩
         case measure=>have:=HLT.out; simp [RowKit.intOf]; omega
      ·have HE:=hid (show j = pn by have:=hj.out; omega)
       have hnl:¬ (j:Int) < (pn:Int):=by omega
       clear hlt hj
       go_upto_region 21 with fail
       clear t1;refine wp_region_lit ?_;refine wLk 25 (.tmp 2) rfl (tb) (0) rfl (.agg #[.slice (some ⟨g8,0,none⟩) n2 xc,.slice pad6 pn pc6]) (run_loadVar_row wr tb 25 25 _ (0,0) _ HT.out Tryz.underlying25 rfl treeInfo) ?_
       simp only [Act.put,sA,sB,sC];refine wW λK hK=>?_;go_simp;apply hK;clear hK K;refine wpList_store_row rfl 25 _ _ rfl (rb) #[.slice (some ⟨g8,0,none⟩) n2 xc,.slice pad6 pn pc6] rfl rfl 25 #[.slice none 0 0,.slice none 0 0] HR.out treeInfo rfl (tree_all _ _ _ _ _ _) ?_
       simp only [Act.put];iterate 2 (refine wW λK hK=>?_;go_simp;apply hK;clear hK K)
       have R12:=setRow_heap wr rb _ #[.slice (some ⟨g8,0,none⟩) n2 xc,.slice pad6 pn pc6] _ _ HR.out;have g12:=grown_setRow wr rb #[.slice (some ⟨g8,0,none⟩) n2 xc,.slice pad6 pn pc6];have M12:=hid (HM.out.aside (b:=rb) HRZ.out g12);have F12:=hid ((HF.out.trans (grown_fr (B:=λk=>k < w.heap.size) g12 (λk e b=>by cases e; exact HRB.out b))).kept (λk hk=>hk))
       generalize wr.setRow rb #[.slice (some ⟨g8,0,none⟩) n2 xc,.slice pad6 pn pc6] = wz at R12 g12 M12 F12 |-;go_wp2;refine bodyPost_ret (results_row3 rfl _ _ rb 25 _ (0,0) _ rfl R12 Tryz.underlying25 rfl treeInfo) rfl ?_
       have hm:=M12.out
       have hq:Tt.holdPuts (n2:Int) i P j = Tt.addP L P:=by
        rw [HE.out,HPN2.out,HLN2.out,Tt.holdPuts_loosens (by rw [<- HLN2.out]; exact HN64.out) (by rw [<- HLN2.out]; exact HFN.out) HQE.out,<- HAP1.out]
       rw [hq,<- HL9.out] at hm;exact⟨_,_,rfl,F12.out,SL,hm.mono (λ_ b=>Nat.lt_of_lt_of_le b HWZ.out)⟩
    ·have HNZ:=hid hz
     have hgt:(0:Int) < (i:Int):=by omega
     have hgt2:0 < i:=by omega
     clear hz
     go_upto_region 9 with fail
     refine wp_region_lit ?_;iterate 2 (refine wW λK hK=>?_;go_simp;apply hK;clear hK K)
     clear hf64;have hnq:((i:Int) == (ln:Int)) = true:=by rw [beq_iff_eq]; have:=HHF.out; omega
     go_upto_region 11 with fail
     refine wp_region_lit ?_;iterate 5 (refine wW λK hK=>?_;go_simp;apply hK;clear hK K)
     clear t0 hnq
     go_upto_region 12 with fail
     refine wp_region_lit ?_;iterate 2 (refine wW λK hK=>?_;go_simp;apply hK;clear hK K)
     clear hgt hgt2;have ma:=HM.out.alloc (.cells (Pr.zero.cells (.slice none 0 0)).toArray 68)
     have ka:=kA wr (.cells (Pr.zero.cells (.slice none 0 0)).toArray 68)
     have hna:=heap_new wr (.cells (Pr.zero.cells (.slice none 0 0)).toArray 68)
     have ea:=build_parent1 wr Pr.zero Pr.zero_ok (.slice none 0 0);obtain⟨v5,w5,e5,m5,g5⟩:=ma.moreParent wr.heap.size 1 (rangeAt_row hna) (by have:=HPN.out; have:=HPEQ.out; have:=HN0.out; omega)
     obtain⟨yad,yc,hys⟩:=m5.pts.shape;subst hys;obtain⟨P2,hP2⟩:∃ P2,P2 = P ++ [Pr.zero]:=⟨_,rfl⟩;rw [<- hP2] at e5 m5;obtain⟨q2,hq2⟩:∃ q2,q2 = P2.length:=⟨_,rfl⟩;rw [<- hq2] at e5 m5;obtain⟨SL7,hSL7⟩:∃ SL7,SL7 = SL6 ++ [Value.slice none 0 0]:=⟨_,rfl⟩;rw [<- hSL7] at m5;have fa:=ka.fr (B:=λk=>k < sz)
     have f5:=fa.trans (grown_fr (B:=λk=>k < sz) g5 (λg e=>ma.op g e))
     have fw5:=(HF.out.trans (ka.fr (B:=λk=>k < w.heap.size))).trans (grown_fr (B:=λk=>k < w.heap.size) g5 (λg e b=>ma.op g e (Nat.lt_of_lt_of_le b HWZ.out)))
     have tt5:=(f5.block tb (lt_of_block HT.out) HTZ.out).trans HT.out;have rr5:=(f5.block rb (lt_of_block HR.out) HRZ.out).trans HR.out;have ee5:=(f5.block lb (lt_of_block HE.out) HLZ.out).trans HE.out;have g6:=grown_set w5 tb 1 (.slice yad q2 yc);have M6:=hid (m5.aside (b:=tb) HTZ.out g6);have F6:=hid (fw5.trans (grown_fr (B:=λk=>k < w.heap.size) g6 (λk e b=>by cases e; exact HTB.out b)))
     have R6:=hid ((g6.block rb (lt_of_block rr5) (λe=>HTR.out (Option.some.inj e).symm)).trans rr5)
     have E6:=hid ((g6.block lb (lt_of_block ee5) (λe=>HTL.out (Option.some.inj e).symm)).trans ee5)
     have T6:Hid ((w5.setCell ⟨tb,1,none⟩ (.slice yad q2 yc)).heap[tb]? = some (.cells #[.slice lad6 ln lc6,.slice yad q2 yc] 25 (0,0))):=hid (cells_set (cs:=[.slice lad6 ln lc6,.slice pad6 pn pc6]) tt5 1 (.slice yad q2 yc))
     have EA:=hid ea;have E5:=hid e5;have TT5:=hid tt5;have HP2:=hid hP2;have HPN2:=hid hq2;have t1:=two_cell1 HT.out;clear ma ka hna ea e5 m5 g5 fa f5 fw5 tt5 rr5 ee5 g6 hP2 hq2 hSL7
     go_upto_region 13 with fail
     refine wp_region_lit ?_;iterate 2 (refine wW λK hK=>?_;go_simp;apply hK;clear hK K)
     refine @wpL_build0 _ _ _ _ _ _ _ ?_ 68 rfl _ (build_parent0 _) ?_;kernel_rfl
     simp only [Act.put,sA,sB,sC];refine @wpL_build_known _ _ _ _ _ _ _ _ ?_ 23 (.tmp 54) rfl (.agg (Pr.zero.cells (.slice none 0 0)).toArray) _ rfl EA.out ?_;kernel_rfl
     simp only [Act.put,sA,sB,sC];refine wpList_append_known rfl (.tmp 53) (.tmp 55) 23 23 23 rfl rfl (.slice pad6 pn pc6) (.slice (some ⟨wr.heap.size,0,none⟩) 1 1) rfl rfl E5.out ?_
     simp only [Act.put,sA,sB,sC];refine wW λK hK=>?_;go_simp;apply hK;clear hK K;refine @wpL_store_part _ _ _ _ _ _ _ ?hw48299b 23 _ _ rfl tb 1 [.slice lad6 ln lc6,.slice pad6 pn pc6] 25 (.slice yad q2 yc) rfl rfl TT5.out (by simp) rfl (by kernel_rfl) ?_
     case hw48299b=>kernel_rfl
     simp only [Act.put];generalize w5.setCell ⟨tb,1,none⟩ (.slice yad q2 yc) = w6 at M6 F6 R6 E6 T6 |-;clear t1 EA E5 TT5 HM HF HT HR HE;have HLX:=hid (run_loadVar_row w6 lb 48 48 _ (0,0) _ E6.out Tryz.underlying48 rfl (leafInfo HSZ.out))
     have mb:=M6.out.alloc (.cells l.cells.toArray 48)
     have kb:=kA w6 (.cells l.cells.toArray 48)
     have hnb:=heap_new w6 (.cells l.cells.toArray 48)
     have eb:=build_leaf1 w6 l HOK.out;obtain⟨v8,w8,e8,m8,g8⟩:=mb.moreLeaf w6.heap.size 1 l HOK.out (rangeAt_row hnb) (by have:=HN0.out; omega)
     obtain⟨xad,xc,hxs⟩:=m8.lvs.shape;subst hxs;obtain⟨L2,hL2⟩:∃ L2,L2 = L ++ [l]:=⟨_,rfl⟩;rw [<- hL2] at e8 m8;obtain⟨n2,hn2⟩:∃ n2,n2 = L2.length:=⟨_,rfl⟩;rw [<- hn2] at e8 m8;have fb8:=kb.fr (B:=λk=>k < sz)
     have f8:=fb8.trans (grown_fr (B:=λk=>k < sz) g8 (λg e=>mb.ol g e))
     have fw8:=(F6.out.trans (kb.fr (B:=λk=>k < w.heap.size))).trans (grown_fr (B:=λk=>k < w.heap.size) g8 (λg e b=>mb.ol g e (Nat.lt_of_lt_of_le b HWZ.out)))
     have tt8:=(f8.block tb (lt_of_block T6.out) HTZ.out).trans T6.out;have rr8:=(f8.block rb (lt_of_block R6.out) HRZ.out).trans R6.out;have ee8:=(f8.block lb (lt_of_block E6.out) HLZ.out).trans E6.out;have g9:=grown_set w8 tb 0 (.slice xad n2 xc);have M9:=hid (m8.aside (b:=tb) HTZ.out g9);have F9:=hid (fw8.trans (grown_fr (B:=λk=>k < w.heap.size) g9 (λk e b=>by cases e; exact HTB.out b)))
     have R9:=hid ((g9.block rb (lt_of_block rr8) (λe=>HTR.out (Option.some.inj e).symm)).trans rr8)
     have E9:=hid ((g9.block lb (lt_of_block ee8) (λe=>HTL.out (Option.some.inj e).symm)).trans ee8)
     have T9:Hid ((w8.setCell ⟨tb,0,none⟩ (.slice xad n2 xc)).heap[tb]? = some (.cells #[.slice xad n2 xc,.slice yad q2 yc] 25 (0,0))):=hid (cells_set (cs:=[.slice lad6 ln lc6,.slice yad q2 yc]) tt8 0 (.slice xad n2 xc))
     rw [<- HDE.out] at eb e8;have EB:=hid eb;have E8:=hid e8;have TT8:=hid tt8;have HL2:=hid hL2;have HLN2:=hid hn2;have t0:=two_cell0 T6.out;clear mb kb hnb eb e8 m8 g8 fb8 f8 fw8 tt8 rr8 ee8 g9 hL2 hn2
     go_upto_region 14 with fail
     refine wp_region_lit ?_;iterate 2 (refine wW λK hK=>?_;go_simp;apply hK;clear hK K)
     refine wLk 48 (.tmp 3) rfl (lb) (0) rfl (.agg D) (HLX.out) ?_
     simp only [Act.put,sA,sB,sC];refine @wpL_build_known _ _ _ _ _ _ _ _ ?_ 22 (.tmp 60) rfl (.agg D) _ rfl EB.out ?_;kernel_rfl
     simp only [Act.put,sA,sB,sC];refine wpList_append_known rfl (.tmp 59) (.tmp 61) 22 22 22 rfl rfl (.slice lad6 ln lc6) (.slice (some ⟨w6.heap.size,0,none⟩) 1 1) rfl rfl E8.out ?_
     simp only [Act.put,sA,sB,sC];refine wW λK hK=>?_;go_simp;apply hK;clear hK K;refine @wpL_store_part _ _ _ _ _ _ _ ?hw48304b 22 _ _ rfl tb 0 [.slice lad6 ln lc6,.slice yad q2 yc] 25 (.slice xad n2 xc) rfl rfl TT8.out (by simp) rfl (by kernel_rfl) ?_
     case hw48304b=>kernel_rfl
     simp only [Act.put];generalize w8.setCell ⟨tb,0,none⟩ (.slice xad n2 xc) = w9 at M9 F9 R9 E9 T9 |-;clear t0 EB E8 TT8 HLX M6 F6 T6 R6 E6;have HWD:=hid (show Tt.firstBlank L = L.length by rw [<- HFE.out,<- HLN.out]; exact HHF.out)
     have HLL2:=hid (show L2.length = L.length + 1 by rw [HL2.out]; exact List.length_append)
     have HQE:=hid (show P2.length = L2.length - 1 by rw [HP2.out,List.length_append,HLL2.out,HPEQ.out]; have:=HNZ.out; have:=HHF.out; have:=HLN.out; simp only [List.length_singleton]; omega)
     have HN64:=hid (show n2<=64 by have:=HLN2.out; have:=HLL2.out; have:=HN0.out; have:=H64.out; have:=HHF.out; have:=HLN.out; omega)
     have HFN:=hid (show i < n2 by have:=HLN2.out; have:=HLL2.out; have:=HHF.out; have:=HLN.out; omega)
     have HAL1:=hid (show Tt.addL L l = L2.set i l by
      have hi2:i = L.length:=by rw [HHF.out,HLN.out]
      rw [Tt.addL,Tt.wide,if_pos HWD.out,HL2.out,HWD.out,hi2,List.set_append_right (h:=Nat.le_refl _),List.set_append_right (h:=Nat.le_refl _),Nat.sub_self]
      rfl)
     have HAP1:=hid (show Tt.addP L P = Tt.loosens i (Bo.Direct (L2.length:Int) (i:Int)) P2 by
      have hi2:i = L.length:=by rw [HHF.out,HLN.out]
      have hw:(Tt.wide L).length = L2.length:=by
       rw [Tt.wide,if_pos HWD.out,HLL2.out];exact List.length_append
      have hwp:Tt.wideP L P = P2:=by
       rw [Tt.wideP,if_pos HWD.out];rw [if_neg (by have:=HNZ.out; omega),HP2.out]
      rw [Tt.addP,hw,hwp,HWD.out,<- hi2])
     have HPL2:=hid (show ∀ p∈P2,p.loose.length<=999 from by rw [HP2.out]; exact λp hp=>(List.mem_append.1 hp).elim (HPLX.out p) (λe=>by rw [List.mem_singleton.1 e]; exact Nat.zero_le _))
     obtain⟨g8,cap8,he8,hgb8,hth8,hm8,hg8⟩:=M9.out.leaf i (by rw [<- HLN2.out]; exact HFN.out) l HOK.out
     rw [<- HLN2.out] at he8;injection he8 with hea hez hec
     first
      | subst hea
      | (injection hea with hea; injection hea with hea hq1 hq2; have heb:=hea.symm; clear hea; subst heb; clear hq1 hq2)
     clear hez hec;have HLD:=hid (run_loadVar_row w9 lb 48 48 _ (0,0) _ E9.out Tryz.underlying48 rfl (leafInfo HSZ.out))
     have HTH:=hid hth8;have hne:∀ b,b < sz->some b≠some g8:=λb hb e=>hgb8 (by rw [<- Option.some.inj e]; exact hb)
     have hb8:=(hg8.block tb (lt_of_block T9.out) (hne tb HTZ.out)).trans T9.out;have hr8:=(hg8.block rb (lt_of_block R9.out) (hne rb HRZ.out)).trans R9.out;have hf8:=F9.out.trans (grown_fr (B:=λk=>k < w.heap.size) hg8 (λk e b=>by cases e; exact hgb8 (Nat.lt_of_lt_of_le b HWZ.out)))
     have hdl:l.cells = D.toList:=by rw [HDE.out]
     rw [hdl] at hm8 hg8 hb8 hr8 hf8;obtain⟨L9,hL9⟩:∃ L9,L9 = L2.set i l:=⟨_,rfl⟩;rw [<- hL9] at hm8;have HL9:=hid (show Tt.addL L l = L9 by rw [hL9]; exact HAL1.out)
     have M8:Hid (Mine (λk=>k < sz) (w9.setCells g8 (i * 97) D.toList) (.slice (some ⟨g8,0,none⟩) n2 xc) (.slice yad q2 yc) L9 (Tt.holdPuts (n2:Int) i P2 0) SL7):=hid hm8
     have B8:=hid hb8;have R8:=hid hr8;have F8:=hid hf8;clear hgb8 hth8 hm8 hg8 hb8 hr8 hf8 hdl hne hL9;have t0:=two_cell0 T9.out;have hflw:(i:Int) < (n2:Int):=by have:=HFN.out; omega
     have hfl0:¬ (i:Int) < 0:=by omega
     go_upto_region 15 with fail
     refine wp_region_lit ?_;iterate 3 (refine wW λK hK=>?_;go_simp;apply hK;clear hK K)
     refine wLk 48 (.tmp 3) rfl (lb) (0) rfl (.agg D) (HLD.out) ?_
     simp only [Act.put,sA,sB,sC];refine wW λK hK=>?_;go_simp;apply hK;clear hK K;refine @wpL_store_mid _ _ _ _ _ _ _ ?_ 48 _ _ rfl (g8) (i * 97) D rfl rfl (by rw [HSZ.out]; exact HTH.out) (leafInfo HSZ.out) HAL.out ?_;kernel_rfl
     simp only [Act.put];generalize w9.setCells g8 (i * 97) D.toList = w8 at M8 B8 R8 F8 |-;clear t0 hflw hfl0 HTH HLD M9 F9 T9 R9 E9;have HQ2:=hid (show q2<=64 by have:=HPN2.out; have:=HQE.out; have:=HLN2.out; have:=HN64.out; omega)
     have hnl9:(n2:Int)<=1000:=by have:=HN64.out; omega
     have hnp9:(q2:Int)<=1000:=by have:=HQ2.out; omega
     go_wp2
     go_loopw [8] (λs8 wr=>∃ j:Nat,s8 = .int .i64 (j:Int)/\Hid (j<=q2)/\∃ SL,Hid (Mine (λk=>k < sz) wr (.slice (some ⟨g8,0,none⟩) n2 xc) (.slice yad q2 yc) L9 (Tt.holdPuts (n2:Int) i P2 j) SL)/\Hid (Frm (λk=>k < w.heap.size) w wr)/\Hid (wr.heap[tb]? = some (.cells #[.slice (some ⟨g8,0,none⟩) n2 xc,.slice yad q2 yc] 25 (0,0)))/\Hid (wr.heap[rb]? = some (.cells #[.slice none 0 0,.slice none 0 0] 25 (0,0)))) (λs8 _=>q2 - (RowKit.intOf s8).toNat)
     case atStart=>exact⟨0,rfl,hid (Nat.zero_le _),_,M8,F8,B8,R8⟩
     case round=>
      clear M8 F8 B8 R8;obtain⟨j,rfl,hj,SL,HM,HF,HT,HR⟩:=hrel;have t1:=two_cell1 HT.out
      by_cases hlt:j < q2
      ·have hQl:(Tt.holdPuts (n2:Int) i P2 j).length = q2:=by rw [Tt.holdPuts_length,HPN2.out]
       have hjQ:j < (Tt.holdPuts (n2:Int) i P2 j).length:=by rw [hQl]; exact hlt
       have hltj:(j:Int) < (q2:Int):=by omega
       have hj0:¬ (j:Int) < 0:=by omega
       obtain⟨g,s,hade,hg,hok,hr,hints⟩:=HM.out.parentRow j hjQ;obtain⟨cur,hcur,hcs⟩:=Mine.prow (g:=g) (by rw [<- hade]; exact HM.out) j hjQ
       have hsS:SL[j]? = some s:=by
        have hjS:j < SL.length:=by rw [HM.out.len]; exact hjQ
        have hh:=HM.out.so j _ SL[j] (List.getElem?_eq_getElem hjQ) (List.getElem?_eq_getElem hjS);obtain⟨ad2,g2,c2,hv2,hc2,_⟩:=HM.out.po.at;obtain⟨ha2,_,_,hr2⟩:=hc2 j (by rw [zip_len HM.out]; exact hjQ)
        injection hv2 with hx2 _ _
        have hgg:g = g2:=by
         have:=hade.symm.trans (hx2.trans ha2);injection this with this
         injection this
        rw [List.getElem_zipWith,Nat.zero_add] at hr2;have e1:=hr 65 s (by simp [Pr.cells,bcells_length,hok.1,hok.2])
        have e2:=hr2 65 SL[j] (by simp [Pr.cells,bcells_length,hok.1,hok.2])
        rw [hgg] at e1;rw [List.getElem?_eq_getElem hjS,<- Option.some.inj (e1.symm.trans e2)]
       have c0a:wr.cell? ⟨g,j * 66,none⟩ = some (.bool ((Tt.holdPuts (n2:Int) i P2 j)[j]).set):=by
        have:=hr 0 (.bool ((Tt.holdPuts (n2:Int) i P2 j)[j]).set) rfl
        simpa using this
       have c65:=hr 65 s (by simp [Pr.cells,bcells_length,hok.1,hok.2])
       have hll:((Tt.holdPuts (n2:Int) i P2 j)[j]).loose.length<=1000:=Tt.holdPuts_loose (b:=999) HPL2.out j _ (List.getElem_mem hjQ)
       have hnx:Tt.holdPuts (n2:Int) i P2 (j + 1) = if (((Tt.holdPuts (n2:Int) i P2 j)[j]).set && Bo.Holds (n2:Int) ((2 * j + 1:Nat):Int) (i:Int)) = true then (Tt.holdPuts (n2:Int) i P2 j).set j (Tt.loosened i (Tt.holdPuts (n2:Int) i P2 j)[j]) else Tt.holdPuts (n2:Int) i P2 j:=by
        show Tt.holdPut1 (n2:Int) i _ j = _;unfold Tt.holdPut1;rw [List.getElem?_eq_getElem hjQ]
       obtain⟨Q,hQ⟩:∃ Q,Q = Tt.holdPuts (n2:Int) i P2 j:=⟨_,rfl⟩;rw [<- hQ] at HM;have HNX:Hid (∀ h:j < Q.length,Tt.holdPuts (n2:Int) i P2 (j + 1) = if (Q[j].set && Bo.Holds (n2:Int) ((2 * j + 1:Nat):Int) (i:Int)) = true then Q.set j (Tt.loosened i Q[j]) else Q):=hid (by subst hQ; exact λ_=>hnx)
       have HJQ:=hid (show j < Q.length by rw [hQ]; exact hjQ)
       have HIN2:Hid (Ints wr 0 s (Q[j]'HJQ.out).loose):=hid (by subst hQ; exact hints)
       have HLL:Hid ((Q[j]'HJQ.out).loose.length<=1000):=hid (by subst hQ; exact hll)
       have c0:wr.cell? ⟨g,j * 66,none⟩ = some (.bool (Q[j]'HJQ.out).set):=by subst hQ; exact c0a
       obtain⟨st,hst⟩:∃ st,st = (Q[j]'HJQ.out).set:=⟨_,rfl⟩;rw [<- hst] at c0;have HST:=hid hst;have HSS:=hid hsS;have HCU:=hid hcur;have HCS:=hid hcs;have HLT:=hid hlt;have HAD:=hid hade;have C65:=hid c65;obtain⟨sad,sn,sc,rfl⟩:=one_slice HIN2.out;rw [hade] at HT t1 HM;have HW0:=hid (show IntKind.i64.wrap (2 * (j:Int)) = ((2 * j:Nat):Int) by rw [wrap_small _ (by omega) (by omega)]; omega)
       have HW1:=hid (show IntKind.i64.wrap (((2 * j:Nat):Int) + 1) = ((2 * j + 1:Nat):Int) by rw [wrap_small _ (by omega) (by omega)]; omega)
       obtain⟨z,hz⟩:∃ z,z = ((2 * j:Nat):Int):=⟨_,rfl⟩;obtain⟨y,hy⟩:∃ y,y = ((2 * j + 1:Nat):Int):=⟨_,rfl⟩;have HRH:=hid (λu=>rholds_calls (n2:Int) ((2 * j + 1:Nat):Int) (i:Int) u)
       obtain⟨hd,hhd⟩:∃ hd,hd = Bo.Holds (n2:Int) ((2 * j + 1:Nat):Int) (i:Int):=⟨_,rfl⟩;rw [<- hhd] at HRH HNX;rw [<- hy] at HRH HW1;rw [<- hz] at HW0 HW1;clear hade c0a hj hlt hQl hjQ hg hok hr hints hcur hcs hsS hll hnx hQ hst hz hy hhd c65;have t0:=two_cell0 HT.out
       cases st with
       | false=>
        go_upto_region 19 with fail
        refine wp_region_lit ?_;iterate 7 (refine wW λK hK=>?_;go_simp;apply hK;clear hK K)
        (iterate 8 (refine @wpList_skip _ _ _ _ _ _ _ ?_ ?_;kernel_rfl;simp only [Act.put,sA,sB,sC]));refine wW λK hK=>?_;go_simp;apply hK;clear hK K;clear c0 t0 t1;go_wp2
        go_roundw
        case rel=>exact⟨j + 1,by simp,hid HLT.out,_,by rw [HNX.out HJQ.out,if_neg (by rw [<- HST.out,Bool.false_and]; decide)]; have:=HM.out; rw [<- HAD.out] at this; exact hid this,HF,by have:=HT.out; rw [<- HAD.out] at this; exact hid this,HR⟩
        case measure=>have:=HLT.out; simp [RowKit.intOf]; omega
       | true=>
        cases hd with
        | false=>
         go_upto_region 19 with fail
         refine wp_region_lit ?_;iterate 12 (refine wW λK hK=>?_;go_simp;apply hK;clear hK K)
         rw [HW0.out];refine wW λK hK=>?_;go_simp;apply hK;clear hK K;rw [HW1.out];refine wW λK hK=>?_;go_simp;apply hK;clear hK K;refine wW λK hK=>?_;go_simp;go_at_call 59
         refine(HRH.out _).mono ?_;rintro e wq ⟨rfl,hwq⟩;subst wq;apply hK;clear hK K;refine wW λK hK=>?_;go_simp;apply hK;clear hK K;clear c0 t0 t1;go_wp2
         go_roundw
         case rel=>exact⟨j + 1,by simp,hid HLT.out,_,by rw [HNX.out HJQ.out,if_neg (by rw [<- HST.out]; decide)]; have:=HM.out; rw [<- HAD.out] at this; exact hid this,HF,by have:=HT.out; rw [<- HAD.out] at this; exact hid this,HR⟩
         case measure=>have:=HLT.out; simp [RowKit.intOf]; omega
        | true=>
         go_upto_region 19 with fail
         refine wp_region_lit ?_;iterate 12 (refine wW λK hK=>?_;go_simp;apply hK;clear hK K)
         rw [HW0.out];refine wW λK hK=>?_;go_simp;apply hK;clear hK K;rw [HW1.out];refine wW λK hK=>?_;go_simp;apply hK;clear hK K;refine wW λK hK=>?_;go_simp;go_at_call 59
         refine(HRH.out _).mono ?_;rintro e wq ⟨rfl,hwq⟩;subst wq;apply hK;clear hK K;refine wW λK hK=>?_;go_simp;apply hK;clear hK K;clear c0 t0 t1
         go_upto_region 20 with fail
         refine wp_region_noPanic ?_;obtain⟨wd,hwd⟩:∃ wd,wd = wr.drew:=⟨_,rfl⟩;have hkd:Kept wr.heap.size wr.heap.size wr wd:=by rw [hwd]; exact(Kept.refl _ _ _).drew
         have MD:=hid (HM.out.kept hkd);have FD:=hid (HF.out.trans hkd.fr);have TD:=hid (rk HT.out hkd);have RD:=hid (rk HR.out hkd);have CD:=hid (rk HCU.out hkd);have hgw:=lt_of_block HCU.out;have c65d:=(hkd.cell (p:=⟨g,j * 66 + 65,none⟩) hgw (Nat.ne_of_lt hgw)).trans C65.out;have hgd:=lt_of_block CD.out;have HT2:=hid (λ(w':World) (k:Kept wd.heap.size wd.heap.size wd w')=>load_slice (d:=.int .u8) (two_cell1 (rk TD.out k)) (.inr rfl) rfl)
         have HS2:=hid (λ(w':World) (k:Kept wd.heap.size wd.heap.size wd w')=>load_ints ((k.cell (p:=⟨g,j * 66 + 65,none⟩) hgd (Nat.ne_of_lt hgd)).trans c65d))
         have HPU:=hid (λ(w':World) (k:Kept wd.heap.size wd.heap.size wd w')=>refput_calls _ _ (i:Int) w' (ints_nums ((HIN2.out.kept hkd).kept k)) HLL.out)
         clear hkd c65d hgw hgd;refine wp_region_heldTo 13 (S:=λw'=>Kept wd.heap.size wd.heap.size wd w') (by kernel_rfl) (by rw [hwd]; exact Kept.refl _ _ _) (λhH=>?_)
         rw [<- hwd] at hH |-;clear hwd;refine tkT (i:=0) 92 (.pointer (some ⟨tb,1,none⟩)) rfl (.inl ⟨by kernel_rfl,λw9 _=>by go_simp; first | done | rfl⟩) hH ?_
         simp only [sA,sB,sC];refine tkT (i:=1) 93 (.slice (some ⟨g,0,none⟩) q2 yc) rfl (yieldsIf_load_known (by kernel_rfl) 23 _ rfl (tb) (1) rfl (.slice (some ⟨g,0,none⟩) q2 yc) (HT2.out)) hH ?_
         simp only [sA,sB,sC];refine tkT (i:=2) 94 (.int .i64 (j:Int)) rfl (.inl ⟨by kernel_rfl,λw9 _=>by go_simp; first | done | rfl⟩) hH ?_
         simp only [sA,sB,sC];refine tkT (i:=3) 95 (.pointer (some ⟨tb,1,none⟩)) rfl (.inl ⟨by kernel_rfl,λw9 _=>by go_simp; first | done | rfl⟩) hH ?_
         simp only [sA,sB,sC];refine tkT (i:=4) 96 (.slice (some ⟨g,0,none⟩) q2 yc) rfl (yieldsIf_load_known (by kernel_rfl) 23 _ rfl (tb) (1) rfl (.slice (some ⟨g,0,none⟩) q2 yc) (HT2.out)) hH ?_
         simp only [sA,sB,sC];refine tkT (i:=5) 97 (.int .i64 (j:Int)) rfl (.inl ⟨by kernel_rfl,λw9 _=>by go_simp; first | done | rfl⟩) hH ?_
         simp only [sA,sB,sC];refine tkT (i:=6) 98 (.pointer (some ⟨g,j * 66,none⟩)) rfl (.inl ⟨by kernel_rfl,λw9 _=>by go_simp; first | done | rfl⟩) hH ?_
         simp only [sA,sB,sC];refine tkT (i:=7) 99 (.pointer (some ⟨g,j * 66 + 65,none⟩)) rfl (.inl ⟨by kernel_rfl,λw9 _=>by go_simp; first | done | rfl⟩) hH ?_
         simp only [sA,sB,sC];refine tkT (i:=8) 100 (.slice sad sn sc) rfl (yieldsIf_load_known (by kernel_rfl) 38 _ rfl (g) (j * 66 + 65) rfl (.slice sad sn sc) (HS2.out)) hH ?_
         simp only [sA,sB,sC];refine tkT (i:=9) 101 (.int .i64 (i:Int)) rfl (.inl ⟨by kernel_rfl,λw9 _=>by go_simp; first | done | rfl⟩) hH ?_
         simp only [sA,sB,sC];refine heldTo_one (i:=10) (by kernel_rfl) rfl (λK hK=>?_)
         rw [if_pos (by rfl)]
         go_simp
         go_wp2_with (go_at_call 64; refine(HPU.out _ (Kept.refl _ _ _)).mono ?_; rintro e wx ⟨v3,rfl,i3,k3⟩)
         obtain⟨vad,vn,vc,rfl⟩:=one_slice i3;refine hK.out _ _ k3 (λhH=>?_)
         clear hK K;refine heldTo_one (i:=11) (by kernel_rfl) rfl (λK hK=>?_)
         rw [if_pos (by rfl)]
         go_simp;refine hK.out _ _ hH (λhH=>?_)
         clear hK K;refine tkT (i:=12) 104 (.pointer (some ⟨g,j * 66 + 65,none⟩)) rfl (.inl ⟨by kernel_rfl,λw9 _=>by go_simp; first | done | rfl⟩) hH ?_
         simp only [sA,sB,sC];have hcx:=(k3.block g (lt_of_block CD.out) (Nat.ne_of_lt (lt_of_block CD.out))).trans CD.out;have hjS:j < SL.length:=(List.getElem?_eq_some_iff.1 HSS.out).1;have hSe:SL[j] = .slice sad sn sc:=(List.getElem?_eq_some_iff.1 HSS.out).2;obtain⟨m4,g4⟩:=Mine.loose MD.out j HJQ.out hjS (.slice vad vn vc) _ (w1:=wx) ⟨k3.os,k3.tape,k3.output,k3.size,λb hb _=>k3.block b hb (Nat.ne_of_lt hb)⟩ (owns_lower i3 (Nat.zero_le _)) (.inr λb hb=>(World.ownsRow.lt i3 b hb).1)
         have hne:∀ b,b < sz->some b≠some g:=λb hb e=>MD.out.op g rfl (by rw [<- Option.some.inj e]; exact hb)
         have F4:=hid ((FD.out.trans k3.fr).trans (grown_fr (B:=λk=>k < w.heap.size) g4 (λk e b=>MD.out.op g rfl (by rw [Option.some.inj e]; exact Nat.lt_of_lt_of_le b HWZ.out))))
         have tx:=(k3.block tb (lt_of_block TD.out) (Nat.ne_of_lt (lt_of_block TD.out))).trans TD.out;have rx:=(k3.block rb (lt_of_block RD.out) (Nat.ne_of_lt (lt_of_block RD.out))).trans RD.out;have T4:=hid ((g4.block tb (lt_of_block tx) (hne tb HTZ.out)).trans tx);have R4:=hid ((g4.block rb (lt_of_block rx) (hne rb HRZ.out)).trans rx);have hnx:=HNX.out HJQ.out;rw [<- HST.out,if_pos (by decide),show Tt.loosened i (Q[j]'HJQ.out) = { (Q[j]'HJQ.out) with loose:=Tt.put (Q[j]'HJQ.out).loose (i:Int) } by unfold Tt.loosened; rw [if_pos HST.out.symm]] at hnx
         rw [<- hnx] at m4;have M4:=hid m4;have HCX:=hid hcx;clear hcx hSe m4 g4 hne tx rx hnx i3 k3;refine heldTo_last (by kernel_rfl) rfl (λK hK=>?_)
         rw [if_pos (by rfl)]
         refine wp_store_part_none 38 _ _ rfl rfl g (j * 66 + 65) cur 68 (.slice vad vn vc) rfl rfl HCX.out HCS.out rfl (by kernel_rfl) ?_
         refine hK.out _ _ ?_;clear hK K;refine heldTo_done (by kernel_rfl) ?_ _
         refine NoPanic.normal ?_;generalize wx.setCell ⟨g,j * 66 + 65,none⟩ (.slice vad vn vc) = wy at M4 F4 T4 R4 |-;go_wp2
         go_roundw
         case rel=>exact⟨j + 1,by simp,hid HLT.out,_,by have:=M4.out; rw [<- HAD.out] at this; exact hid this,F4,by have:=T4.out; rw [<- HAD.out] at this; exact hid this,R4⟩
         case measure=>have:=HLT.out; simp [RowKit.intOf]; omega
      ·have HE:=hid (show j = q2 by have:=hj.out; omega)
       have hnl:¬ (j:Int) < (q2:Int):=by omega
       clear hlt hj
       go_upto_region 21 with fail
       clear t1;refine wp_region_lit ?_;refine wLk 25 (.tmp 2) rfl (tb) (0) rfl (.agg #[.slice (some ⟨g8,0,none⟩) n2 xc,.slice yad q2 yc]) (run_loadVar_row wr tb 25 25 _ (0,0) _ HT.out Tryz.underlying25 rfl treeInfo) ?_
       simp only [Act.put,sA,sB,sC];refine wW λK hK=>?_;go_simp;apply hK;clear hK K;refine wpList_store_row rfl 25 _ _ rfl (rb) #[.slice (some ⟨g8,0,none⟩) n2 xc,.slice yad q2 yc] rfl rfl 25 #[.slice none 0 0,.slice none 0 0] HR.out treeInfo rfl (tree_all _ _ _ _ _ _) ?_
       simp only [Act.put];iterate 2 (refine wW λK hK=>?_;go_simp;apply hK;clear hK K)
       have R12:=setRow_heap wr rb _ #[.slice (some ⟨g8,0,none⟩) n2 xc,.slice yad q2 yc] _ _ HR.out;have g12:=grown_setRow wr rb #[.slice (some ⟨g8,0,none⟩) n2 xc,.slice yad q2 yc];have M12:=hid (HM.out.aside (b:=rb) HRZ.out g12);have F12:=hid ((HF.out.trans (grown_fr (B:=λk=>k < w.heap.size) g12 (λk e b=>by cases e; exact HRB.out b))).kept (λk hk=>hk))
       generalize wr.setRow rb #[.slice (some ⟨g8,0,none⟩) n2 xc,.slice yad q2 yc] = wz at R12 g12 M12 F12 |-;go_wp2;refine bodyPost_ret (results_row3 rfl _ _ rb 25 _ (0,0) _ rfl R12 Tryz.underlying25 rfl treeInfo) rfl ?_
       have hm:=M12.out
       have hq:Tt.holdPuts (n2:Int) i P2 j = Tt.addP L P:=by
        rw [HE.out,HPN2.out,HLN2.out,Tt.holdPuts_loosens (by rw [<- HLN2.out]; exact HN64.out) (by rw [<- HLN2.out]; exact HFN.out) HQE.out,<- HAP1.out]
       rw [hq,<- HL9.out] at hm;exact⟨_,_,rfl,F12.out,SL,hm.mono (λ_ b=>Nat.lt_of_lt_of_le b HWZ.out)⟩
end Go.Proofs.YtinebhdilnndaaaGreatDoor
