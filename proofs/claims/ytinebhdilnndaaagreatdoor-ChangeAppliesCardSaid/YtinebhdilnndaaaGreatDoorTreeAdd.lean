/-
 The landed Add, where a leaf is put in.
-/
import Derived.Test.YtinebhdilnndaaaGreatDoorTreeCopied
set_option maxRecDepth 100000
set_option maxHeartbeats 6400000
namespace Go.Proofs.YtinebhdilnndaaaGreatDoor
open Go.RowKit Go.Lib
open List renaming setIfInBounds_toArray -> sA, set_cons_zero -> sB, set_cons_succ -> sC
open BigFrame renaming wpList_want -> wQ
namespace Tt
def put:List Int->Int->List Int
 | [],x=>[x]
 | y :: l,x=>if x < y then x :: y :: l else y :: put l x
def loosened (x:Nat)(p:Pr):Pr:=if p.set then { p with loose:=put p.loose (x:Int) } else p
def loosen1 (x:Nat)(P:List Pr)(y:Int):List Pr:=
 match P[y.toNat / 2]? with
 | Option.some p=>P.set (y.toNat / 2) (loosened x p)
 | Option.none=>P
def loosens (x:Nat)(ways:List Int)(P:List Pr):List Pr:=ways.foldl (loosen1 x) P
theorem loosen1_length (x:Nat)(P:List Pr)(y:Int):(loosen1 x P y).length = P.length:=by
 unfold loosen1
 split
 ·rw [List.length_set]
 ·rfl
theorem loosens_length (x:Nat)(ways:List Int):∀ P,(loosens x ways P).length = P.length:=by
 unfold loosens
 induction ways with
 | nil=>intro P; rfl
 | cons y ys ih=>intro P; rw [List.foldl_cons,ih,loosen1_length]
theorem loosens_next (x:Nat)(ways:List Int)(P:List Pr)(i:Nat)(hi:i < ways.length):loosens x (ways.take (i + 1)) P = loosen1 x (loosens x (ways.take i) P) ways[i]:=by
 unfold loosens;rw [List.take_succ_eq_append_getElem hi,List.foldl_append]
 rfl
theorem loosen1_at (x:Nat)(P:List Pr)(k:Nat)(hk:k < P.length)(y:Int)(hy:y.toNat / 2 = k):loosen1 x P y = P.set k (loosened x P[k]):=by
 unfold loosen1;rw [hy,List.getElem?_eq_getElem hk]
def wide (L:List Lf):List Lf:=if firstBlank L = L.length then L ++ [Lf.zero] else L
def wideP (L:List Lf)(P:List Pr):List Pr:=if firstBlank L = L.length then (if L.length = 0 then P else P ++ [Pr.zero]) else P
def addL (L:List Lf)(l:Lf):List Lf:=(wide L).set (firstBlank L) l
def addP (L:List Lf)(P:List Pr):List Pr:=loosens (firstBlank L) (Bo.Direct (wide L).length (firstBlank L)) (wideP L P)
end Tt
theorem owns_same {w w1:World}{base:Nat}{T:TypeId}{n m:Nat}{v:Value}{xs:List Value}(h:w.ownsRow base T n v m xs)(hb:∀ g,v.ownBlock = some g->w1.heap[g]? = w.heap[g]?):w1.ownsRow base T n v m xs:=by
 refine⟨h.1,h.2.imp (λx=>x) ?_⟩
 rintro ⟨g,cap,cur,rfl,hg,hh,rest⟩;exact⟨g,cap,cur,rfl,hg,(hb g rfl).trans hh,rest⟩
def LoosenK (place:Nat)(C:Nat->Pr->Prop):Prop:=
 ∀ (j:Nat),j < 66->∀ (B:Nat->Prop) (w:World) (lv:Value) (g n cap:Nat) (L:List Lf) (P:List Pr) (SL:List Value),Mine B w lv (.slice (some ⟨g,0,none⟩) n cap) L P SL->∀ (i:Nat) (hi:i < P.length),(∀ p∈P,C j p) ->
  Calls Tryz.prog 106 #[.pointer (some ⟨g,i * 66,none⟩),.int .i64 (place:Int)] w λe w'=>e = .returned (.tuple #[])/\Frm B w w'/\∃ SL',Mine B w' lv (.slice (some ⟨g,0,none⟩) n cap) L (P.set i (Tt.loosened place P[i])) SL'
theorem add_ok (lv pv:Value)(L:List Lf)(P:List Pr)(l:Lf)(w:World)(hL:Lvs w lv L)(hP:Pts w pv P)(hn:L.length<=1000)(hp:P.length<=1000)(hpl:∀ p∈P,p.loose.length<=1000)(hlo:l.Ok)(hr:Tt.right L P = true)(h1:1<=l.name)(h2:l.name<=64)(hix:Tt.index L l.name = -1)(hfb:Tt.firstBlank L≠64)
  (C:Nat->Pr->Prop) (hC0:∀ p∈P,C 0 p) (hCz:C 0 Pr.zero) (hCs:∀ j p,C j p->C (j + 1) p/\C (j + 1) (Tt.loosened (Tt.firstBlank L) p)) (HLO:LoosenK (Tt.firstBlank L) C) :
  Calls Tryz.prog 83 #[.agg #[lv,pv],.agg l.cells.toArray] w λe w'=>∃ lv' pv',e = .returned (.tuple #[.agg #[lv',pv'],.int .i64 (Tt.firstBlank L:Int),.int .i64 0])/\Kept w.heap.size w.heap.size w w'/\∃ SL,Mine (λk=>k < w.heap.size) w' lv' pv' (Tt.addL L l) (Tt.addP L P) SL:=by
 have hpe:P.length = L.length - 1:=by
  simp only [Tt.right,Bool.and_eq_true,decide_eq_true_eq] at hr;exact hr.2.1
 have hn64:L.length<=64:=by
  simp only [Tt.right,Bool.and_eq_true,decide_eq_true_eq] at hr;exact hr.1
 have HRR:=hid (λ(x:World) (k:Kept w.heap.size w.heap.size w x)=>right_calls8 lv pv L P x (hL.kept k) (hP.kept k) hn hp hpl)
 have HIN:=hid (λx=>(isname_calls l.name x).mono (λe w' h=>show e = .returned (.bool true)/\Kept x.heap.size x.heap.size x w' from⟨by rw [h.1,decide_eq_true h1,decide_eq_true h2]; rfl,kept_same h.2⟩))
 have hpla:Tt.place L P l.name = -1:=by
  unfold Tt.place;rw [hr,decide_eq_true h1,decide_eq_true h2,hix]
  rfl
 have HPL:=hid (λ(x:World) (k:Kept w.heap.size w.heap.size w x)=>place_calls8 lv pv L P l.name x (hL.kept k) (hP.kept k) hn hp hpl)
 rw [hr] at HRR;rw [hpla] at HPL;have HFB:=hid (λ(x:World) (k:Kept w.heap.size w.heap.size w x)=>firstblank_calls lv L x (hL.kept k) hn)
 have HCP:=hid (λ(x:World) (k:Kept w.heap.size w.heap.size w x)=>copied_calls lv pv L P x (hL.kept k) (hP.kept k) hn hp hpl)
 have hfl:=Tt.firstBlank_le L;obtain⟨lad,lc,rfl⟩:=hL.shape;obtain⟨pad,pc,rfl⟩:=hP.shape;obtain⟨ln,hln⟩:∃ ln,ln = L.length:=⟨_,rfl⟩;obtain⟨pn,hpn⟩:∃ pn,pn = P.length:=⟨_,rfl⟩;obtain⟨fb,hfbe⟩:∃ fb,fb = Tt.firstBlank L:=⟨_,rfl⟩;obtain⟨nm,hnm⟩:∃ nm,nm = l.name:=⟨_,rfl⟩;rw [<- hfbe] at hfb hfl HFB HLO hCs |-;rw [<- hln,<- hpn] at HRR HPL HCP |-;rw [<- hln] at HFB hfl;rw [<- hnm] at HPL HIN;have hfq:((fb:Int) == 64) = false:=by rw [beq_eq_false_iff_ne]; omega
 have hln9:(ln:Int)<=1000:=by omega
 have hfb9:(fb:Int)<=1000:=by omega
 have HLN:=hid hln;have HPN:=hid hpn;have HPE:=hid hpe;have HFE:=hid hfbe;have HFL:=hid hfl;have HN:=hid hn64;have HC0:=hid hC0;have HCZ:=hid hCz;have HCS:=hid hCs;have HLO2:=hid HLO;have HOK:=hid hlo;have hlsz:=Lf.size hlo;have hlal:=l.all;have hD0:l.cells.toArray[0]? = some (.int .i64 nm):=by rw [hnm]; exact l.at_name
 obtain⟨D,hD⟩:∃ D,D = l.cells.toArray:=⟨_,rfl⟩;rw [<- hD] at hlsz hlal hD0 |-;have HDE:=hid hD;have HSZ:=hid hlsz;have HAL:=hid hlal;clear hL hP hn hp hpl hlo hr h1 h2 hix hpla hpe hfb hln hpn hfbe hnm hC0 hCz hCs HLO hlsz hlal hD hfl hn64;have k1:=kA w (.cells #[.slice lad ln lc,.slice pad pn pc] 25)
 have t1:=heap_new w (.cells #[.slice lad ln lc,.slice pad pn pc] 25)
 have s1:(w.alloc (.cells #[.slice lad ln lc,.slice pad pn pc] 25)).heap.size = w.heap.size + 1:=by simp
 go_enter Tryz.func83,Tryz.ntmps83
 go_upto_region 1 with fail
 generalize w.alloc (.cells #[.slice lad ln lc,.slice pad pn pc] 25) = wa at k1 t1 s1 |-
 have k2:=kA wa (.cells D 48)
 have e2:=heap_new wa (.cells D 48)
 have s2:(wa.alloc (.cells D 48)).heap.size = wa.heap.size + 1:=by simp
 have t2:=rk t1 k2;generalize wa.alloc (.cells D 48) = wb at k2 e2 s2 t2 |-
 have k3:=kA wb (.cells #[.slice none 0 0,.slice none 0 0] 25)
 have r3:=heap_new wb (.cells #[.slice none 0 0,.slice none 0 0] 25)
 have t3:=rk t2 k3;have e3:=rk e2 k3;generalize wb.alloc (.cells #[.slice none 0 0,.slice none 0 0] 25) = w1 at k3 r3 t3 e3 |-
 have K1:=hid ((k1.next1 k2).next1 k3);rw [s2,s1] at r3;rw [s1] at e3
 (try rw [s2])
 (try rw [s1])
 obtain⟨tb,htb⟩:∃ tb,tb = w.heap.size:=⟨_,rfl⟩;obtain⟨lb,hlb⟩:∃ lb,lb = w.heap.size + 1:=⟨_,rfl⟩;obtain⟨rb,hrb⟩:∃ rb,rb = w.heap.size + 1 + 1:=⟨_,rfl⟩;rw [<- hrb] at r3
 (try rw [<- hrb])
 rw [<- hlb] at e3
 (try rw [<- hlb])
 rw [<- htb] at t3
 (try rw [<- htb])
 have HTB:=hid (show ¬ tb < w.heap.size by omega)
 have HRB:=hid (show ¬ rb < w.heap.size by omega)
 have HLB:=hid (show ¬ lb < w.heap.size by omega)
 have T1:=hid t3;have E1:=hid e3;have R1:=hid r3;have c0:w1.cell? ⟨lb,0,none⟩ = some (.int .i64 nm):=by rw [cell_of_row w1 lb 0 _ _ _ E1.out]; exact hD0
 clear k1 t1 s1 k2 e2 s2 t2 k3 r3 t3 e3 htb hlb hrb;refine wp_region_lit ?_;refine wLk 25 (.tmp 2) rfl (tb) (0) rfl (.agg #[.slice lad ln lc,.slice pad pn pc]) (run_loadVar_row w1 tb 25 25 _ (0,0) _ T1.out Tryz.underlying25 rfl treeInfo) ?_
 simp only [Act.put,sA,sB,sC];refine wW λK hK=>?_;go_simp;go_at_call 11
 refine(HRR.out _ K1.out).mono ?_;rintro e w2 ⟨rfl,k2⟩;have K2:=hid (K1.out.next1 k2);have T2:=hid (rk T1.out k2);have E2:=hid (rk E1.out k2);have R2:=hid (rk R1.out k2);clear k2;clear c0;have c0:w2.cell? ⟨lb,0,none⟩ = some (.int .i64 nm):=by rw [cell_of_row w2 lb 0 _ _ _ E2.out]; exact hD0
 apply hK;clear hK K;iterate 4 (refine wW λK hK=>?_;go_simp;apply hK;clear hK K)
 refine wW λK hK=>?_;go_simp;go_at_call 32
 refine(HIN.out _).mono ?_;rintro e w3 ⟨rfl,k3⟩;have K3:=hid (K2.out.next1 k3);have T3:=hid (rk T2.out k3);have E3:=hid (rk E2.out k3);have R3:=hid (rk R2.out k3);clear k3;clear c0;have c0:w3.cell? ⟨lb,0,none⟩ = some (.int .i64 nm):=by rw [cell_of_row w3 lb 0 _ _ _ E3.out]; exact hD0
 apply hK;clear hK K;iterate 2 (refine wW λK hK=>?_;go_simp;apply hK;clear hK K)
 go_upto_region 3 with fail
 refine wp_region_lit ?_;refine wLk 25 (.tmp 2) rfl (tb) (0) rfl (.agg #[.slice lad ln lc,.slice pad pn pc]) (run_loadVar_row w3 tb 25 25 _ (0,0) _ T3.out Tryz.underlying25 rfl treeInfo) ?_
 simp only [Act.put,sA,sB,sC];iterate 2 (refine wW λK hK=>?_;go_simp;apply hK;clear hK K)
 refine wW λK hK=>?_;go_simp;go_at_call 12
 refine(HPL.out _ K3.out).mono ?_;rintro e w4 ⟨rfl,k4⟩;have K4:=hid (K3.out.next1 k4);have T4:=hid (rk T3.out k4);have E4:=hid (rk E3.out k4);have R4:=hid (rk R3.out k4);clear k4;clear c0;apply hK;clear hK K;refine wW λK hK=>?_;go_simp;apply hK;clear hK K;have t0:=two_cell0 T4.out
 go_upto_region 5 with fail
 refine wp_region_lit ?_;iterate 2 (refine wW λK hK=>?_;go_simp;apply hK;clear hK K)
 refine wW λK hK=>?_;go_simp;go_at_call 103
 refine(HFB.out _ K4.out).mono ?_;rintro e w5 ⟨rfl,k5⟩;have K5:=hid (K4.out.next1 k5);have T5:=hid (rk T4.out k5);have E5:=hid (rk E4.out k5);have R5:=hid (rk R4.out k5);clear k5;clear t0;apply hK;clear hK K;refine wW λK hK=>?_;go_simp;apply hK;clear hK K
 go_upto_region 6 with fail
 refine wp_region_lit ?_;iterate 2 (refine wW λK hK=>?_;go_simp;apply hK;clear hK K)
 go_upto_region 8 with fail
 refine wp_region_lit ?_;refine wLk 25 (.tmp 2) rfl (tb) (0) rfl (.agg #[.slice lad ln lc,.slice pad pn pc]) (run_loadVar_row w5 tb 25 25 _ (0,0) _ T5.out Tryz.underlying25 rfl treeInfo) ?_
 simp only [Act.put,sA,sB,sC];refine wW λK hK=>?_;go_simp;go_at_call 85
 refine(HCP.out _ K5.out).mono ?_;rintro e w6 ⟨lv6,pv6,rfl,k6,SL6,m6⟩;obtain⟨lad6,lc6,rfl⟩:=m6.lvs.shape;obtain⟨pad6,pc6,rfl⟩:=m6.pts.shape;rw [<- HLN.out,<- HPN.out] at m6 |-;have HK56:=hid k6.size;apply hK;clear hK K;have K6:=hid (K5.out.next1 k6);have T6:=hid (rk T5.out k6);have E6:=hid (rk E5.out k6);have R6:=hid (rk R5.out k6);clear k6;refine @wpL_alloc _ _ _ _ _ _ _ _ ?_ 25 rfl _ (alloc_tree _) ?_;kernel_rfl
 simp only [Act.put,sA,sB,sC];refine wpList_store_row rfl 25 _ _ rfl (w6.heap.size) #[.slice lad6 ln lc6,.slice pad6 pn pc6] rfl rfl 25 #[.slice none 0 0,.slice none 0 0] (heap_new _ _) (treeInfo) (rfl) (tree_all _ _ _ _ _ _) ?_
 simp only [Act.put];rw [World.setRow_alloc_new];have m7:=m6.box (.cells #[.slice lad6 ln lc6,.slice pad6 pn pc6] 25)
 have hb7:=heap_new w6 (.cells #[.slice lad6 ln lc6,.slice pad6 pn pc6] 25)
 have k7:=kA w6 (.cells #[.slice lad6 ln lc6,.slice pad6 pn pc6] 25)
 obtain⟨mb,hmb⟩:∃ mb,mb = w6.heap.size:=⟨_,rfl⟩;obtain⟨sz,hsz⟩:∃ sz,sz = w5.heap.size:=⟨_,rfl⟩;have hs5:=K5.out.size;have hs6:=K6.out.size;have HSZW:=hid (show w.heap.size<=sz by omega)
 have HMB:=hid (show ¬ mb < w.heap.size by omega)
 have hs56:sz<=w6.heap.size:=by rw [hsz]; exact HK56.out
 have HMS:=hid (show ¬ mb < sz by omega)
 have HBR:=hid (show rb < sz by rw [hsz]; exact lt_of_block R5.out)
 have HBL:=hid (show lb < sz by rw [hsz]; exact lt_of_block E5.out)
 generalize w6.alloc (.cells #[.slice lad6 ln lc6,.slice pad6 pn pc6] 25) = w7 at m7 hb7 k7 |-
 rw [<- hmb] at m7 hb7
 (try rw [<- hmb])
 rw [<- hsz] at m7;have K7:=hid (K6.out.next1 k7);have E7:=hid (rk E6.out k7);have R7:=hid (rk R6.out k7);clear k7;have M7:=hid m7;have B7:=hid hb7;have F7:=hid (K7.out.fr (B:=λk=>k < w.heap.size))
 clear m6 m7 hb7 hmb hsz hs5 hs6 K6;have t0:=two_cell0 B7.out
 by_cases hq:fb = ln
 ·have HQ:=hid hq
  have hqb:((fb:Int) == (ln:Int)) = true:=by rw [beq_iff_eq]; omega
  clear hq;obtain⟨L1,hL1⟩:∃ L1,L1 = L ++ [Lf.zero]:=⟨_,rfl⟩;obtain⟨P1,hP1⟩:∃ P1,P1 = (if L.length = 0 then P else P ++ [Pr.zero]):=⟨_,rfl⟩
  obtain⟨ln1,hln1⟩:∃ ln1,ln1 = L1.length:=⟨_,rfl⟩;obtain⟨pn1,hpn1⟩:∃ pn1,pn1 = P1.length:=⟨_,rfl⟩;have hL1n:L1.length = ln + 1:=by rw [hL1,List.length_append,HLN.out]; rfl
  have hP1n:P1.length = ln:=by
   rw [hP1,HLN.out];have hpe:=HPE.out
   by_cases h0:L.length = 0
   ·rw [if_pos h0]; omega
   ·rw [if_neg h0,List.length_append,List.length_singleton]; omega
  have HWD:=hid (widened_calls _ _ _ L P SL6 w7 M7.out (by have:=HN.out; have:=HFL.out; omega) (by have:=HN.out; have:=HPE.out; omega))
  rw [<- HLN.out] at HWD;rw [HLN.out,<- hL1,<- hP1,<- HLN.out] at HWD;have HFI:=hid (show fb < (L1).length by rw [hL1n]; have:=HQ.out; omega)
  have HW:=hid (show ln1 = (L1).length by exact hln1)
  have hwide:Tt.wide L = L1:=by unfold Tt.wide; rw [if_pos (by rw [<- HFE.out,<- HLN.out]; exact HQ.out)]; exact hL1.symm
  have hwideP:Tt.wideP L P = P1:=by unfold Tt.wideP; rw [if_pos (by rw [<- HFE.out,<- HLN.out]; exact HQ.out)]; exact hP1.symm
  have HPW:=hid (show pn1 = (P1).length by exact hpn1)
  have HP1:=hid (show(P1).length = ln1 - 1 by rw [hP1n,hln1,hL1n]; rfl)
  have HPW9:=hid (show(pn1:Int)<=2000 by have:=HP1.out; have:=HPW.out; have:=HLN.out; have:=HN.out; have:=hL1n; have:=hln1; omega)
  obtain⟨ws,hws⟩:∃ ws,ws = Bo.Direct (ln1:Int) (fb:Int):=⟨_,rfl⟩;have HWO:=hid (λy (hy:y∈ws)=>Bo.direct_odd (n:=ln1) (a:=(fb:Int)) (by rw [<- hws]; exact hy))
  have HWL:=hid (Bo.direct_len66 (ln1:Int) (fb:Int));have HDI:=hid (λw=>direct_calls lenIs (ln1:Int) (fb:Int) w)
  rw [<- hws] at HWL HDI;have HAL1:=hid (show Tt.addL L l = (L1).set fb l by rw [Tt.addL,hwide,<- HFE.out])
  have HAP1:=hid (show Tt.addP L P = Tt.loosens fb ws (P1) by rw [Tt.addP,hwide,hwideP,<- HFE.out,hws,HW.out])
  have HC1:=hid (show ∀ p∈Tt.loosens fb (ws.take 0) (P1),C 0 p from λp hp=>by
    have hp:p∈P1:=hp;rw [hP1] at hp
    split at hp
    ·exact HC0.out p hp
    ·rcases List.mem_append.1 hp with hp | hp
     ·exact HC0.out p hp
     ·rw [List.mem_singleton.1 hp]; exact HCZ.out)
  clear hwide hwideP hws;have HRM:=hid (show rb≠mb by intro e; exact absurd HBR.out (by rw [e]; exact HMS.out))
  have HLM:=hid (show lb≠mb by intro e; exact absurd HBL.out (by rw [e]; exact HMS.out))
  clear hL1 hP1 hln1 hpn1 hL1n hP1n
  go_upto_region 9 with fail
  refine wp_region_lit ?_;iterate 5 (refine wW λK hK=>?_;go_simp;apply hK;clear hK K)
  clear hqb t0
  go_upto_region 10 with fail
  refine wp_region_lit ?_;refine wLk 25 (.tmp 8) rfl (mb) (0) rfl (.agg #[.slice lad6 ln lc6,.slice pad6 pn pc6]) (run_loadVar_row w7 mb 25 25 _ (0,0) _ B7.out Tryz.underlying25 rfl treeInfo) ?_
  simp only [Act.put,sA,sB,sC];refine wW λK hK=>?_;go_simp;go_at_call 104
  refine(HWD.out).mono ?_;rintro e w71 ⟨lv71,pv71,rfl,f71,SL71,m71⟩;obtain⟨lad71,lc71,rfl⟩:=m71.lvs.shape;obtain⟨pad71,pc71,rfl⟩:=m71.pts.shape;rw [<- HW.out,<- HPW.out] at m71 |-;apply hK;clear hK K;have b71:=(f71.block mb (lt_of_block B7.out) (.inr rfl)).trans B7.out;have r71:=(f71.block rb (lt_of_block R7.out) (.inl HBR.out)).trans R7.out;have e71:=(f71.block lb (lt_of_block E7.out) (.inl HBL.out)).trans E7.out;have ff71:=F7.out.trans (f71.mono (λk b=>.inl (Nat.lt_of_lt_of_le b HSZW.out)))
  refine wpList_store_row rfl 25 _ _ rfl (mb) #[.slice lad71 ln1 lc71,.slice pad71 pn1 pc71] rfl rfl 25 #[.slice lad6 ln lc6,.slice pad6 pn pc6] b71 treeInfo rfl (tree_all _ _ _ _ _ _) ?_
  simp only [Act.put];have b72:=setRow_heap w71 mb _ #[.slice lad71 ln1 lc71,.slice pad71 pn1 pc71] _ _ b71;have g72:=grown_setRow w71 mb #[.slice lad71 ln1 lc71,.slice pad71 pn1 pc71];have R72:=hid ((g72.block rb (lt_of_block r71) (λe=>HRM.out (Option.some.inj e))).trans r71)
  have E72:=hid ((g72.block lb (lt_of_block e71) (λe=>HLM.out (Option.some.inj e))).trans e71)
  have M72:=hid (m71.aside (b:=mb) (.inr rfl) g72);have F72:=hid (ff71.trans (grown_fr (B:=λk=>k < w.heap.size) g72 (λk e b=>by cases e; exact HMB.out b)))
  generalize w71.setRow mb #[.slice lad71 ln1 lc71,.slice pad71 pn1 pc71] = w72 at b72 g72 R72 E72 M72 F72 |-;have B72:=hid b72;clear f71 m71 b71 r71 e71 ff71 b72 g72;have t0:=two_cell0 B72.out;obtain⟨g8,cap8,he8,hgb8,hth8,hm8,hg8⟩:=M72.out.leaf fb HFI.out l HOK.out;rw [<- HW.out] at he8;injection he8 with hea hez hec
  subst hea;clear hez hec;have HLD:=hid (run_loadVar_row w72 lb 48 48 _ (0,0) _ E72.out Tryz.underlying48 rfl (leafInfo HSZ.out))
  have HTH:=hid hth8;have hb8:=(hg8.block mb (lt_of_block B72.out) (λe=>hgb8 (.inr (Option.some.inj e).symm))).trans B72.out
  have hr8:=(hg8.block rb (lt_of_block R72.out) (λe=>hgb8 (.inl (by rw [<- Option.some.inj e]; exact HBR.out)))).trans R72.out
  have hf8:=F72.out.trans (grown_fr (B:=λk=>k < w.heap.size) hg8 (λk e b=>by cases e; exact hgb8 (.inl (Nat.lt_of_lt_of_le b HSZW.out))))
  have hdl:l.cells = D.toList:=by rw [HDE.out]
  rw [hdl] at hm8 hg8 hb8 hr8 hf8;have M8:=hid hm8;have B8:=hid hb8;have R8:=hid hr8;have F8:=hid hf8;clear hgb8 hth8 hm8 hg8 hb8 hr8 hf8 hdl;have hflw:(fb:Int) < (ln1:Int):=by have:=HFI.out; have:=HW.out; omega
  have hfl0:¬ (fb:Int) < 0:=by omega
  go_upto_region 11 with fail
  refine wp_region_lit ?_;iterate 3 (refine wW λK hK=>?_;go_simp;apply hK;clear hK K)
  refine wLk 48 (.tmp 3) rfl (lb) (0) rfl (.agg D) (HLD.out) ?_
  simp only [Act.put,sA,sB,sC];refine wW λK hK=>?_;go_simp;apply hK;clear hK K;refine @wpL_store_mid _ _ _ _ _ _ _ ?_ 48 _ _ rfl (g8) (fb * 97) D rfl rfl (by rw [HSZ.out]; exact HTH.out) (leafInfo HSZ.out) HAL.out ?_;kernel_rfl
  simp only [Act.put];generalize w72.setCells g8 (fb * 97) D.toList = w8 at M8 B8 R8 F8 |-;clear t0 hflw hfl0 HTH HLD;have t0:=two_cell0 B8.out
  go_upto_region 12 with fail
  refine wp_region_lit ?_;iterate 4 (refine wW λK hK=>?_;go_simp;apply hK;clear hK K)
  refine wW λK hK=>?_;go_simp;go_at_call 105
  refine(HDI.out _).mono ?_;rintro e w9 ⟨v,rfl,hv,k9⟩;apply hK;clear hK K;obtain⟨wad,wc,rfl⟩:=(ints_nums hv).shape;have M9:=hid (M8.out.beside (v:=.slice wad ws.length wc) k9 (λg e=>hv.lt g e))
  have F9:=hid (F8.out.trans k9.fr);have B9:=hid (rk B8.out k9);have R9:=hid (rk R8.out k9);have V9:=hid (owns_lower hv (Nat.zero_le _));obtain⟨wn,hwn⟩:∃ wn,wn = ws.length:=⟨_,rfl⟩;rw [<- hwn] at M9 V9 |-;have HWN:=hid hwn;have hwn9:(wn:Int)<=66:=by have:=HWL.out; omega
  clear hv k9 t0 hwn;iterate 2 (refine wW λK hK=>?_;go_simp;apply hK;clear hK K)
  go_wp2
  go_loopw [53] (λs53 wr=>∃ i:Nat,s53 = .int .i64 (i:Int)/\Hid (i<=wn)/\∃ SL',Hid (Mine (λk=>(k < sz\/k = mb)\/(Value.slice wad wn wc).ownBlock = some k) wr (.slice (some ⟨g8,0,none⟩) ln1 lc71) (.slice pad71 pn1 pc71) (L1.set fb l) (Tt.loosens fb (ws.take i) P1) SL')/\Hid (Frm (λk=>k < w.heap.size) w wr)/\Hid (wr.heap[mb]? = some (.cells #[.slice (some ⟨g8,0,none⟩) ln1 lc71,.slice pad71 pn1 pc71] 25 (0,0)))/\Hid (wr.heap[rb]? = some (.cells #[.slice none 0 0,.slice none 0 0] 25 (0,0)))/\Hid (wr.ownsRow 0 3 1 (.slice wad wn wc) wn (ws.map (Value.int .i64)))/\Hid (∀ p∈Tt.loosens fb (ws.take i) P1,C i p)) (λs53 _=>wn - (RowKit.intOf s53).toNat)
  case atStart=>exact⟨0,rfl,hid (Nat.zero_le _),_,M9,F9,B9,R9,V9,HC1⟩
  case round=>
   obtain⟨i,rfl,hi,SL',HM,HF,HB,HR,HV,HC⟩:=hrel
   by_cases hlt:i < wn
   ·have hiw:i < ws.length:=by rw [<- HWN.out]; exact hlt
    have hlti:(i:Int) < (wn:Int):=by omega
    have hi0:¬ (i:Int) < 0:=by omega
    obtain⟨k,hk,hkn⟩:=HWO.out _ (List.getElem_mem hiw);have hnx:=Tt.loosens_next fb ws P1 i hiw;have hkp:k < (Tt.loosens fb (ws.take i) P1).length:=by rw [Tt.loosens_length]; have:=HP1.out; omega
    rw [Tt.loosen1_at fb _ k hkp _ (by rw [hk]; omega)] at hnx
    obtain⟨g,cap,hpv⟩:=own_shape HM.out.po (by rw [zip_len HM.out]; omega)
    injection hpv with hpa hpz hpc
    subst hpa;clear hpz hpc;have HLX:=hid (HLO2.out i (by have:=HWL.out; have:=HWN.out; omega) _ wr _ g pn1 pc71 _ _ SL' HM.out k hkp HC.out)
    rw [<- hnx] at HLX;have hwn0:0 < wn:=by omega
    have hvo:=HV.out
    rcases hvo.2 with ⟨_,hn0⟩ | ⟨wg,wcap,cur,hwv,_,_,_⟩
    ·exact absurd hn0 (by omega)
    injection hwv with hwa hwz hwc
    subst hwa;clear hwz hwc;have hcell:=World.ownsRow.cells (g:=wg) hvo rfl i (.int .i64 (((2 * k + 1:Nat):Int))) (by rw [List.getElem?_map,List.getElem?_eq_getElem hiw,hk]; rfl)
    rw [Addr.add_lit,Nat.zero_add] at hcell
    have HCN:=hid (show ∀ p∈Tt.loosens fb (ws.take (i + 1)) P1,C (i + 1) p from λp hp=>by
     rw [hnx] at hp
     rcases List.mem_or_eq_of_mem_set hp with hp | rfl
     ·exact(HCS.out i p (HC.out p hp)).1
     ·exact(HCS.out i _ (HC.out _ (List.getElem_mem hkp))).2)
    have HLT:=hid hlt;have hkl:(k:Int) < (pn1:Int):=by have:=HP1.out; have:=HPW.out; rw [Tt.loosens_length] at hkp; omega
    have hk0:¬ (k:Int) < 0:=by omega
    have HQ2:=hid (show IntKind.i64.wrap (((2 * k + 1:Nat):Int).tdiv 2) = (k:Int) by
     rw [show((2 * k + 1:Nat):Int).tdiv 2 = (k:Int) by rw [Int.tdiv_eq_ediv_of_nonneg (by omega)]; omega]
     exact wrap_small _ (by omega) (by have:=HPW9.out; omega))
    obtain⟨y,hy⟩:∃ y,y = ((2 * k + 1:Nat):Int):=⟨_,rfl⟩;rw [<- hy] at HQ2 hcell;clear hlt hi hiw hk hkn hnx hkp hwn0 hvo hy HC;have t1:=two_cell1 HB.out
    go_upto_region 14 with fail
    refine wp_region_lit ?_;iterate 3 (refine wW λK hK=>?_;go_simp;apply hK;clear hK K)
    go_upto_region 15 with fail
    refine wp_region_lit ?_;iterate 4 (refine wW λK hK=>?_;go_simp;apply hK;clear hK K)
    rw [HQ2.out];iterate 2 (refine wW λK hK=>?_;go_simp;apply hK;clear hK K)
    refine wW λK hK=>?_;go_simp;go_at_call 106
    refine(HLX.out).mono ?_;rintro e w10 ⟨rfl,f10,SL10,m10⟩;apply hK;clear hK K;have M10:=hid m10;have F10:=hid (HF.out.trans (f10.mono (λk b=>.inl (.inl (Nat.lt_of_lt_of_le b HSZW.out)))))
    have B10:=hid ((f10.block mb (lt_of_block HB.out) (.inl (.inr rfl))).trans HB.out);have R10:=hid ((f10.block rb (lt_of_block HR.out) (.inl (.inl HBR.out))).trans HR.out);have V10:=hid (owns_same HV.out (λq e=>f10.block q (World.ownsRow.lt HV.out q e).2 (.inr e)))
    clear f10 m10 t1;go_wp2
    go_roundw
    case rel=>exact⟨i + 1,by simp,hid HLT.out,_,M10,F10,B10,R10,V10,HCN⟩
    case measure=>have:=HLT.out; simp [RowKit.intOf]; omega
   ·have hnl:¬ (i:Int) < (wn:Int):=by omega
    have HE:=hid (show i = wn by have:=hi.out; omega)
    clear hlt hi
    go_upto_region 17 with fail
    refine wp_region_lit ?_;refine wLk 25 (.tmp 8) rfl (mb) (0) rfl (.agg #[.slice (some ⟨g8,0,none⟩) ln1 lc71,.slice pad71 pn1 pc71]) (run_loadVar_row wr mb 25 25 _ (0,0) _ HB.out Tryz.underlying25 rfl treeInfo) ?_
    simp only [Act.put,sA,sB,sC];refine wW λK hK=>?_;go_simp;apply hK;clear hK K;refine wpList_store_row rfl 25 _ _ rfl (rb) #[.slice (some ⟨g8,0,none⟩) ln1 lc71,.slice pad71 pn1 pc71] rfl rfl 25 #[.slice none 0 0,.slice none 0 0] HR.out treeInfo rfl (tree_all _ _ _ _ _ _) ?_
    simp only [Act.put];iterate 2 (refine wW λK hK=>?_;go_simp;apply hK;clear hK K)
    have R7:=setRow_heap wr rb _ #[.slice (some ⟨g8,0,none⟩) ln1 lc71,.slice pad71 pn1 pc71] _ _ HR.out;have g7:=grown_setRow wr rb #[.slice (some ⟨g8,0,none⟩) ln1 lc71,.slice pad71 pn1 pc71];have M7:=hid (HM.out.aside (b:=rb) (.inl (.inl HBR.out)) g7);have F7:=hid ((HF.out.trans (grown_fr (B:=λk=>k < w.heap.size) g7 (λk e b=>by cases e; exact HRB.out b))).kept (λk hk=>hk))
    generalize wr.setRow rb #[.slice (some ⟨g8,0,none⟩) ln1 lc71,.slice pad71 pn1 pc71] = wz at R7 g7 M7 F7 |-;go_wp2;refine bodyPost_ret (results_row3 rfl _ _ rb 25 _ (0,0) _ rfl R7 Tryz.underlying25 rfl treeInfo) rfl ?_
    refine⟨_,_,rfl,F7.out,SL',?_⟩;have hm:=M7.out;rw [HE.out,HWN.out,List.take_length] at hm;rw [HAL1.out,HAP1.out];exact hm.mono (λ_ b=>.inl (.inl (Nat.lt_of_lt_of_le b HSZW.out)))
 ·have HQ:=hid hq
  have hqb:((fb:Int) == (ln:Int)) = false:=by rw [beq_eq_false_iff_ne]; omega
  clear hq
  go_upto_region 9 with fail
  refine wp_region_lit ?_;iterate 5 (refine wW λK hK=>?_;go_simp;apply hK;clear hK K)
  clear hqb t0;have HFI:=hid (show fb < (L).length by rw [<- HLN.out]; have:=HFL.out; have:=HQ.out; omega)
  have HW:=hid (show ln = (L).length by exact HLN.out)
  have hwide:Tt.wide L = L:=by unfold Tt.wide; rw [if_neg (by rw [<- HFE.out,<- HLN.out]; exact HQ.out)]
  have hwideP:Tt.wideP L P = P:=by unfold Tt.wideP; rw [if_neg (by rw [<- HFE.out,<- HLN.out]; exact HQ.out)]
  have HPW:=hid (show pn = (P).length by exact HPN.out)
  have HP1:=hid (show(P).length = ln - 1 by rw [HLN.out]; exact HPE.out)
  have HPW9:=hid (show(pn:Int)<=2000 by have:=HP1.out; have:=HPW.out; have:=HLN.out; have:=HN.out; omega)
  obtain⟨ws,hws⟩:∃ ws,ws = Bo.Direct (ln:Int) (fb:Int):=⟨_,rfl⟩;have HWO:=hid (λy (hy:y∈ws)=>Bo.direct_odd (n:=ln) (a:=(fb:Int)) (by rw [<- hws]; exact hy))
  have HWL:=hid (Bo.direct_len66 (ln:Int) (fb:Int));have HDI:=hid (λw=>direct_calls lenIs (ln:Int) (fb:Int) w)
  rw [<- hws] at HWL HDI;have HAL1:=hid (show Tt.addL L l = (L).set fb l by rw [Tt.addL,hwide,<- HFE.out])
  have HAP1:=hid (show Tt.addP L P = Tt.loosens fb ws (P) by rw [Tt.addP,hwide,hwideP,<- HFE.out,hws,HW.out])
  have HC1:=hid (show ∀ p∈Tt.loosens fb (ws.take 0) (P),C 0 p from HC0.out);clear hwide hwideP hws;have t0:=two_cell0 B7.out;obtain⟨g8,cap8,he8,hgb8,hth8,hm8,hg8⟩:=M7.out.leaf fb HFI.out l HOK.out;rw [<- HW.out] at he8;injection he8 with hea hez hec
  subst hea;clear hez hec;have HLD:=hid (run_loadVar_row w7 lb 48 48 _ (0,0) _ E7.out Tryz.underlying48 rfl (leafInfo HSZ.out))
  have HTH:=hid hth8;have hb8:=(hg8.block mb (lt_of_block B7.out) (λe=>hgb8 (.inr (Option.some.inj e).symm))).trans B7.out
  have hr8:=(hg8.block rb (lt_of_block R7.out) (λe=>hgb8 (.inl (by rw [<- Option.some.inj e]; exact HBR.out)))).trans R7.out
  have hf8:=F7.out.trans (grown_fr (B:=λk=>k < w.heap.size) hg8 (λk e b=>by cases e; exact hgb8 (.inl (Nat.lt_of_lt_of_le b HSZW.out))))
  have hdl:l.cells = D.toList:=by rw [HDE.out]
  rw [hdl] at hm8 hg8 hb8 hr8 hf8;have M8:=hid hm8;have B8:=hid hb8;have R8:=hid hr8;have F8:=hid hf8;clear hgb8 hth8 hm8 hg8 hb8 hr8 hf8 hdl;have hflw:(fb:Int) < (ln:Int):=by have:=HFI.out; have:=HW.out; omega
  have hfl0:¬ (fb:Int) < 0:=by omega
  go_upto_region 11 with fail
  refine wp_region_lit ?_;iterate 3 (refine wW λK hK=>?_;go_simp;apply hK;clear hK K)
  refine wLk 48 (.tmp 3) rfl (lb) (0) rfl (.agg D) (HLD.out) ?_
  simp only [Act.put,sA,sB,sC];refine wW λK hK=>?_;go_simp;apply hK;clear hK K;refine @wpL_store_mid _ _ _ _ _ _ _ ?_ 48 _ _ rfl (g8) (fb * 97) D rfl rfl (by rw [HSZ.out]; exact HTH.out) (leafInfo HSZ.out) HAL.out ?_;kernel_rfl
  simp only [Act.put];generalize w7.setCells g8 (fb * 97) D.toList = w8 at M8 B8 R8 F8 |-;clear t0 hflw hfl0 HTH HLD;have t0:=two_cell0 B8.out
  go_upto_region 12 with fail
  refine wp_region_lit ?_;iterate 4 (refine wW λK hK=>?_;go_simp;apply hK;clear hK K)
  refine wW λK hK=>?_;go_simp;go_at_call 105
  refine(HDI.out _).mono ?_;rintro e w9 ⟨v,rfl,hv,k9⟩;apply hK;clear hK K;obtain⟨wad,wc,rfl⟩:=(ints_nums hv).shape;have M9:=hid (M8.out.beside (v:=.slice wad ws.length wc) k9 (λg e=>hv.lt g e))
  have F9:=hid (F8.out.trans k9.fr);have B9:=hid (rk B8.out k9);have R9:=hid (rk R8.out k9);have V9:=hid (owns_lower hv (Nat.zero_le _));obtain⟨wn,hwn⟩:∃ wn,wn = ws.length:=⟨_,rfl⟩;rw [<- hwn] at M9 V9 |-;have HWN:=hid hwn;have hwn9:(wn:Int)<=66:=by have:=HWL.out; omega
  clear hv k9 t0 hwn;iterate 2 (refine wW λK hK=>?_;go_simp;apply hK;clear hK K)
  go_wp2
  go_loopw [53] (λs53 wr=>∃ i:Nat,s53 = .int .i64 (i:Int)/\Hid (i<=wn)/\∃ SL',Hid (Mine (λk=>(k < sz\/k = mb)\/(Value.slice wad wn wc).ownBlock = some k) wr (.slice (some ⟨g8,0,none⟩) ln lc6) (.slice pad6 pn pc6) (L.set fb l) (Tt.loosens fb (ws.take i) P) SL')/\Hid (Frm (λk=>k < w.heap.size) w wr)/\Hid (wr.heap[mb]? = some (.cells #[.slice (some ⟨g8,0,none⟩) ln lc6,.slice pad6 pn pc6] 25 (0,0)))/\Hid (wr.heap[rb]? = some (.cells #[.slice none 0 0,.slice none 0 0] 25 (0,0)))/\Hid (wr.ownsRow 0 3 1 (.slice wad wn wc) wn (ws.map (Value.int .i64)))/\Hid (∀ p∈Tt.loosens fb (ws.take i) P,C i p)) (λs53 _=>wn - (RowKit.intOf s53).toNat)
  case atStart=>exact⟨0,rfl,hid (Nat.zero_le _),_,M9,F9,B9,R9,V9,HC1⟩
  case round=>
   obtain⟨i,rfl,hi,SL',HM,HF,HB,HR,HV,HC⟩:=hrel
   by_cases hlt:i < wn
   ·have hiw:i < ws.length:=by rw [<- HWN.out]; exact hlt
    have hlti:(i:Int) < (wn:Int):=by omega
    have hi0:¬ (i:Int) < 0:=by omega
    obtain⟨k,hk,hkn⟩:=HWO.out _ (List.getElem_mem hiw);have hnx:=Tt.loosens_next fb ws P i hiw;have hkp:k < (Tt.loosens fb (ws.take i) P).length:=by rw [Tt.loosens_length]; have:=HP1.out; omega
    rw [Tt.loosen1_at fb _ k hkp _ (by rw [hk]; omega)] at hnx
    obtain⟨g,cap,hpv⟩:=own_shape HM.out.po (by rw [zip_len HM.out]; omega)
    injection hpv with hpa hpz hpc
    subst hpa;clear hpz hpc;have HLX:=hid (HLO2.out i (by have:=HWL.out; have:=HWN.out; omega) _ wr _ g pn pc6 _ _ SL' HM.out k hkp HC.out)
    rw [<- hnx] at HLX;have hwn0:0 < wn:=by omega
    have hvo:=HV.out
    rcases hvo.2 with ⟨_,hn0⟩ | ⟨wg,wcap,cur,hwv,_,_,_⟩
    ·exact absurd hn0 (by omega)
    injection hwv with hwa hwz hwc
    subst hwa;clear hwz hwc;have hcell:=World.ownsRow.cells (g:=wg) hvo rfl i (.int .i64 (((2 * k + 1:Nat):Int))) (by rw [List.getElem?_map,List.getElem?_eq_getElem hiw,hk]; rfl)
    rw [Addr.add_lit,Nat.zero_add] at hcell
    have HCN:=hid (show ∀ p∈Tt.loosens fb (ws.take (i + 1)) P,C (i + 1) p from λp hp=>by
     rw [hnx] at hp
     rcases List.mem_or_eq_of_mem_set hp with hp | rfl
     ·exact(HCS.out i p (HC.out p hp)).1
     ·exact(HCS.out i _ (HC.out _ (List.getElem_mem hkp))).2)
    have HLT:=hid hlt;have hkl:(k:Int) < (pn:Int):=by have:=HP1.out; have:=HPW.out; rw [Tt.loosens_length] at hkp; omega
    have hk0:¬ (k:Int) < 0:=by omega
    have HQ2:=hid (show IntKind.i64.wrap (((2 * k + 1:Nat):Int).tdiv 2) = (k:Int) by
     rw [show((2 * k + 1:Nat):Int).tdiv 2 = (k:Int) by rw [Int.tdiv_eq_ediv_of_nonneg (by omega)]; omega]
     exact wrap_small _ (by omega) (by have:=HPW9.out; omega))
    obtain⟨y,hy⟩:∃ y,y = ((2 * k + 1:Nat):Int):=⟨_,rfl⟩;rw [<- hy] at HQ2 hcell;clear hlt hi hiw hk hkn hnx hkp hwn0 hvo hy HC;have t1:=two_cell1 HB.out
    go_upto_region 14 with fail
    refine wp_region_lit ?_;iterate 3 (refine wW λK hK=>?_;go_simp;apply hK;clear hK K)
    go_upto_region 15 with fail
    refine wp_region_lit ?_;iterate 4 (refine wW λK hK=>?_;go_simp;apply hK;clear hK K)
    rw [HQ2.out];iterate 2 (refine wW λK hK=>?_;go_simp;apply hK;clear hK K)
    refine wW λK hK=>?_;go_simp;go_at_call 106
    refine(HLX.out).mono ?_;rintro e w10 ⟨rfl,f10,SL10,m10⟩;apply hK;clear hK K;have M10:=hid m10;have F10:=hid (HF.out.trans (f10.mono (λk b=>.inl (.inl (Nat.lt_of_lt_of_le b HSZW.out)))))
    have B10:=hid ((f10.block mb (lt_of_block HB.out) (.inl (.inr rfl))).trans HB.out);have R10:=hid ((f10.block rb (lt_of_block HR.out) (.inl (.inl HBR.out))).trans HR.out);have V10:=hid (owns_same HV.out (λq e=>f10.block q (World.ownsRow.lt HV.out q e).2 (.inr e)))
    clear f10 m10 t1;go_wp2
    go_roundw
    case rel=>exact⟨i + 1,by simp,hid HLT.out,_,M10,F10,B10,R10,V10,HCN⟩
    case measure=>have:=HLT.out; simp [RowKit.intOf]; omega
   ·have hnl:¬ (i:Int) < (wn:Int):=by omega
    have HE:=hid (show i = wn by have:=hi.out; omega)
    clear hlt hi
    go_upto_region 17 with fail
    refine wp_region_lit ?_;refine wLk 25 (.tmp 8) rfl (mb) (0) rfl (.agg #[.slice (some ⟨g8,0,none⟩) ln lc6,.slice pad6 pn pc6]) (run_loadVar_row wr mb 25 25 _ (0,0) _ HB.out Tryz.underlying25 rfl treeInfo) ?_
    simp only [Act.put,sA,sB,sC];refine wW λK hK=>?_;go_simp;apply hK;clear hK K;refine wpList_store_row rfl 25 _ _ rfl (rb) #[.slice (some ⟨g8,0,none⟩) ln lc6,.slice pad6 pn pc6] rfl rfl 25 #[.slice none 0 0,.slice none 0 0] HR.out treeInfo rfl (tree_all _ _ _ _ _ _) ?_
    simp only [Act.put];iterate 2 (refine wW λK hK=>?_;go_simp;apply hK;clear hK K)
    have R7:=setRow_heap wr rb _ #[.slice (some ⟨g8,0,none⟩) ln lc6,.slice pad6 pn pc6] _ _ HR.out;have g7:=grown_setRow wr rb #[.slice (some ⟨g8,0,none⟩) ln lc6,.slice pad6 pn pc6];have M7:=hid (HM.out.aside (b:=rb) (.inl (.inl HBR.out)) g7);have F7:=hid ((HF.out.trans (grown_fr (B:=λk=>k < w.heap.size) g7 (λk e b=>by cases e; exact HRB.out b))).kept (λk hk=>hk))
    generalize wr.setRow rb #[.slice (some ⟨g8,0,none⟩) ln lc6,.slice pad6 pn pc6] = wz at R7 g7 M7 F7 |-;go_wp2;refine bodyPost_ret (results_row3 rfl _ _ rb 25 _ (0,0) _ rfl R7 Tryz.underlying25 rfl treeInfo) rfl ?_
    refine⟨_,_,rfl,F7.out,SL',?_⟩;have hm:=M7.out;rw [HE.out,HWN.out,List.take_length] at hm;rw [HAL1.out,HAP1.out];exact hm.mono (λ_ b=>.inl (.inl (Nat.lt_of_lt_of_le b HSZW.out)))
end Go.Proofs.YtinebhdilnndaaaGreatDoor
