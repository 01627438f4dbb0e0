/-
 EraFrame; EraKeep0; EraCopied: several texts in one.
-/
import Derived.Test.YtnlbgggnpoeleaaGreatDoorEA
import Derived.Test.YtnlbgggnpoeleaaGreatDoorHA
set_option maxRecDepth 100000
set_option maxHeartbeats 6400000
namespace Go.Proofs.YtnlbgggnpoeleaaGreatDoor
open Go.RowKit Go.Lib
open List renaming setIfInBounds_toArray -> sA, set_cons_zero -> sB, set_cons_succ -> sC
open BigFrame renaming wpList_want -> wQ
namespace Er
def wr (n:Int):Bool:=decide (0<=n)&&decide (n<=4611686018427387903)
def frameOk (L:List Lf)(P:List Pr)(d:Int)(ts:List Int):Bool:=Tt.right L P&&(wr d&&ts.all wr)
end Er
theorem Qjj (n:Int)(w:World):Calls Tryz.prog 89 #[.int .i64 n] w λe w'=>e=.returned (.bool (Er.wr n))/\w'=w:=by
 go_enter Tryz.func89,Tryz.ntmps89
 by_cases h:0<=n
 ·have hd:decide (n>=0)=true:=decide_eq_true h
  go_wp2;go_ret;simp[Er.wr,h]
 ·have h2:Er.wr n=false:=by rw[Er.wr,decide_eq_false h];rfl
  have hd:decide (n>=0)=false:=decide_eq_false h;go_wp2;go_ret;exact⟨by first|rfl|rw[h2],rfl⟩
theorem Qh9 (f:Fm)(hf:f.Ok)(lv pv:Value)(L:List Lf)(P:List Pr)(w:World)(hL:Lvs w lv L)(hP:Pts w pv P)(hn:L.length<=1000)(hp:P.length<=1000)(hpl:∀p∈P,p.loose.length<=1000):
  Calls Tryz.prog 65 #[.agg (f.cells lv pv).toArray] w λe w'=>e=.returned (.bool (Er.frameOk L P f.depth f.ts))/\Kept w.heap.size w.heap.size w w':=by
 have HRT:=hid (λ(x:World) (k:Kept w.heap.size w.heap.size w x)=>Qe1 lv pv L P x (hL.kept k) (hP.kept k) hn hp hpl)
 have HLT:=hid (λ(u:World) (b:Nat) (h:u.heap[b]?=some (.cells (f.cells lv pv).toArray 84 (0,0)))=>Qdm (Fm.at_tree (Qam h) hf))
 have HLD:=hid (λ(u:World) (b:Nat) (h:u.heap[b]?=some (.cells (f.cells lv pv).toArray 84 (0,0)))=>Fm.at_depth (Qam h) hf)
 have HLS:=hid (λ(u:World) (b:Nat) (h:u.heap[b]?=some (.cells (f.cells lv pv).toArray 84 (0,0)))=>Qne (Fm.at_ts (Qam h) hf) hf.2.2.2)
 have HIX:=hid (λi hi x=>Ql2 f.ts i hi hf.2.2.2 x)
 simp only[Nat.zero_add] at HLT HLD HLS;have H64:=hid hf.2.2.2;obtain⟨FR,hFR⟩:∃x,x=(f.cells lv pv).toArray:=⟨_,rfl⟩;rw[<-hFR] at HLT HLD HLS |-;obtain⟨ts,hts⟩:∃x,x=f.ts:=⟨_,rfl⟩;obtain⟨dp,hdp⟩:∃x,x=f.depth:=⟨_,rfl⟩;rw[<-hts] at HLS HIX H64 |-;rw[<-hdp] at HLD |-;obtain⟨TC,hTC⟩:∃x,x=(tcells ts).toArray:=⟨_,rfl⟩;rw[<-hTC] at HLS HIX;obtain⟨lad,lc,rfl⟩:=hL.shape;obtain⟨pad,pc,rfl⟩:=hP.shape;obtain⟨ln,hln⟩:∃x,x=L.length:=⟨_,rfl⟩;obtain⟨pn,hpn⟩:∃x,x=P.length:=⟨_,rfl⟩;rw[<-hln,<-hpn] at HRT HLT;have HIW:=hid Qjj;clear hFR hts hdp hTC hf hL hP hn hp hpl hln hpn
 go_enter Tryz.func65,Tryz.ntmps65
 go_upto_region 0 with fail
 refine zA ?_;iterate 2(refine wW λK hK=>?_;go_simp;apply hK;clear hK K)
 have kn:Kept w.heap.size w.heap.size w (w.alloc (.cells FR 84)):=zI.alloc (zB _) _
 have rb:=Qaa w (.cells FR 84)
 generalize w.alloc (.cells FR 84)=w1 at kn rb |-
 obtain⟨pb,hpb⟩:∃n,n=w.heap.size:=⟨_,rfl⟩;rw[<-hpb] at rb
 (try rw[<-hpb])
 clear hpb;have R1:=hid rb;have K1:=hid kn;clear kn rb
 cases hr:Tt.right L P
 ·have HF:=hid (show Er.frameOk L P dp ts=false by simp[Er.frameOk,hr])
  rw[hr] at HRT;clear hr
  go_upto_region 1 with fail
  refine zA ?_;refine wW λK hK=>?_;go_simp;apply hK;clear hK K;refine wLk 45 (.tmp 5) rfl (pb) (65) rfl (.agg #[.slice lad ln lc,.slice pad pn pc]) (HLT.out _ _ R1.out) ?_
  simp only[Act.put,sA,sB,sC];refine wW λK hK=>?_;go_simp;go_at_call 85
  refine(HRT.out _ K1.out).mono ?_;rintro e w2 ⟨rfl,k2⟩;have K2:=hid k2;clear k2;apply hK;clear hK K;iterate 2(refine wW λK hK=>?_;go_simp;apply hK;clear hK K)
  (iterate 4(refine @wpList_skip _ _ _ _ _ _ _ ?_ ?_;kernel_rfl;simp only[Act.put,sA,sB,sC]));refine wW λK hK=>?_;go_simp;apply hK;clear hK K;go_wp2;go_ret;exact⟨by rw[HF.out];rfl,K1.out.onto K2.out⟩
 ·have HRR:=hid hr
  rw[hr] at HRT;clear hr
  cases hd:Er.wr dp
  ·have HF:=hid (show Er.frameOk L P dp ts=false by simp[Er.frameOk,hd])
   have HID:=hid (λw=>hd ▸ HIW.out dp w)
   clear hd
   go_upto_region 1 with fail
   refine zA ?_;refine wW λK hK=>?_;go_simp;apply hK;clear hK K;refine wLk 45 (.tmp 5) rfl (pb) (65) rfl (.agg #[.slice lad ln lc,.slice pad pn pc]) (HLT.out _ _ R1.out) ?_
   simp only[Act.put,sA,sB,sC];refine wW λK hK=>?_;go_simp;go_at_call 85
   refine(HRT.out _ K1.out).mono ?_;rintro e w2 ⟨rfl,k2⟩;have K2:=hid k2;clear k2;apply hK;clear hK K;iterate 3(refine wW λK hK=>?_;go_simp;apply hK;clear hK K)
   have c64:=HLD.out _ _ (rK R1.out K2.out);refine wW λK hK=>?_;go_simp;apply hK;clear hK K;clear c64;refine wW λK hK=>?_;go_simp;go_at_call 89
   refine(HID.out _).mono ?_;rintro e w3 ⟨rfl,hw3⟩;subst hw3;apply hK;clear hK K;iterate 2(refine wW λK hK=>?_;go_simp;apply hK;clear hK K)
   go_wp2;go_ret;exact⟨by rw[HF.out];rfl,K1.out.onto K2.out⟩
  ·have HRD:=hid hd
   have HID:=hid (λw=>hd ▸ HIW.out dp w)
   clear hd
   go_upto_region 1 with fail
   refine zA ?_;refine wW λK hK=>?_;go_simp;apply hK;clear hK K;refine wLk 45 (.tmp 5) rfl (pb) (65) rfl (.agg #[.slice lad ln lc,.slice pad pn pc]) (HLT.out _ _ R1.out) ?_
   simp only[Act.put,sA,sB,sC];refine wW λK hK=>?_;go_simp;go_at_call 85
   refine(HRT.out _ K1.out).mono ?_;rintro e w2 ⟨rfl,k2⟩;have K2:=hid k2;clear k2;apply hK;clear hK K;iterate 3(refine wW λK hK=>?_;go_simp;apply hK;clear hK K)
   have c64:=HLD.out _ _ (rK R1.out K2.out);refine wW λK hK=>?_;go_simp;apply hK;clear hK K;clear c64;refine wW λK hK=>?_;go_simp;go_at_call 89
   refine(HID.out _).mono ?_;rintro e w3 ⟨rfl,hw3⟩;subst hw3;apply hK;clear hK K;iterate 2(refine wW λK hK=>?_;go_simp;apply hK;clear hK K)
   go_upto_region 3 with fail
   refine zA ?_;refine wW λK hK=>?_;go_simp;apply hK;clear hK K;refine wLk 47 (.tmp 15) rfl (pb) (99) rfl (.agg TC) (HLS.out _ _ (rK R1.out K2.out)) ?_
   simp only[Act.put,sA,sB,sC];refine wW λK hK=>?_;go_simp;apply hK;clear hK K
   go_wp2_with fail
   go_loopw [17] (λs17 wr=>∃i:Nat,s17=.int .i64 (i:Int)/\Hid (i<=64)/\Hid ((ts.take i).all Er.wr=true)/\Hid (Kept w.heap.size w.heap.size w wr)) (λs17 _=>64-(RowKit.intOf s17).toNat)
   case atStart=>exact⟨0,rfl,hid (Nat.zero_le _),hid (by simp),hid (K1.out.onto K2.out)⟩
   case round=>
    obtain⟨i,rfl,hi,HA,HK⟩:=hrel
    by_cases hlt:i<64
    ·have hlti:(i:Int)<64:=by omega
     have hiT:i<ts.length:=by rw[H64.out];exact hlt
     have HX:=hid (HIX.out i hiT);have HTK:=hid (List.take_succ_eq_append_getElem hiT);have HG:=hid (show ts[i]∈ts from List.getElem_mem hiT);generalize ts[i]=t at HX HTK HG;have HLT2:=hid hlt;clear hlt hiT hi
     cases hw:Er.wr t
     ·have HF:=hid (show Er.frameOk L P dp ts=false by
       simp only[Er.frameOk,Bool.and_eq_false_iff,List.all_eq_false]
       exact .inr (.inr ⟨t,HG.out,by rw[hw];simp⟩))
      have HID2:=hid (λw=>hw ▸ HIW.out t w)
      clear hw
      go_upto_region 4 with fail
      refine zA ?_;refine wW λK hK=>?_;go_simp;apply hK;clear hK K
      go_upto_region 5 with fail
      refine zA ?_;refine @Qg0 _ _ _ _ _ _ _ ?_ 47 _ _ rfl TC (i:Int) rfl rfl _ (HX.out _) ?_;kernel_rfl
      simp only[Act.put,sA,sB,sC];refine wW λK hK=>?_;go_simp;apply hK;clear hK K
      go_upto_region 6 with fail
      refine zA ?_;refine wW λK hK=>?_;go_simp;apply hK;clear hK K;refine wW λK hK=>?_;go_simp;go_at_call 89
      refine(HID2.out _).mono ?_;rintro e w3 ⟨rfl,hw3⟩;subst hw3;apply hK;clear hK K;refine wW λK hK=>?_;go_simp;apply hK;clear hK K;go_wp2;go_ret;exact⟨by rw[HF.out];rfl,HK.out⟩
     ·have HA2:=hid (show(ts.take (i+1)).all Er.wr=true by rw[HTK.out,List.all_append,HA.out];simp[hw])
      have HID2:=hid (λw=>hw ▸ HIW.out t w)
      clear hw
      go_upto_region 4 with fail
      refine zA ?_;refine wW λK hK=>?_;go_simp;apply hK;clear hK K
      go_upto_region 5 with fail
      refine zA ?_;refine @Qg0 _ _ _ _ _ _ _ ?_ 47 _ _ rfl TC (i:Int) rfl rfl _ (HX.out _) ?_;kernel_rfl
      simp only[Act.put,sA,sB,sC];refine wW λK hK=>?_;go_simp;apply hK;clear hK K
      go_upto_region 6 with fail
      refine zA ?_;refine wW λK hK=>?_;go_simp;apply hK;clear hK K;refine wW λK hK=>?_;go_simp;go_at_call 89
      refine(HID2.out _).mono ?_;rintro e w3 ⟨rfl,hw3⟩;subst hw3;apply hK;clear hK K;refine wW λK hK=>?_;go_simp;apply hK;clear hK K;go_wp2
      go_roundw
      case rel=>exact⟨i+1,by simp,hid HLT2.out,HA2,HK⟩
      case measure=>have:=HLT2.out;simp[RowKit.intOf];omega
    ·have hnl:¬(i:Int)<64:=by omega
     have HF:=hid (show Er.frameOk L P dp ts=true by
      have h1:=HA.out;rw[List.take_of_length_le (by rw[H64.out];omega)] at h1
      simp[Er.frameOk,HRR.out,HRD.out,h1])
     clear hlt hi;go_wp2;go_ret;exact⟨by rw[HF.out];rfl,HK.out⟩
theorem Qnk (ad:Option Addr)(n c:Nat)(h:n<=1)(F:Value)(w:World):Calls Tryz.prog 149 #[.slice ad n c,.int .i64 0,.int .i64 (n:Int),F] w λe w'=>e=.returned (.tuple #[])/\w'=w:=by
 have hn:¬(1:Int)<(n:Int):=by omega
 clear h
 go_enter Tryz.func149,Tryz.ntmps149
 go_wp2_with fail
 go_loopw [8] (λs8 wr=>s8=.int .i64 1/\wr=w) (λ_ _=>0)
 case atStart=>exact⟨rfl,rfl⟩
 case round=>
  obtain⟨rfl,hw0⟩:=hrel;subst hw0;go_wp2
  go_end0
  exact⟨rfl,rfl⟩
theorem Qms (ad:Option Addr)(n c:Nat)(h:n<=1)(F:Value)(w:World):Calls Tryz.prog 126 #[.slice ad n c,.int .i64 (n:Int),F] w λe w'=>e=.returned (.tuple #[])/\w'=w:=by
 have HI:=hid (λx=>Qnk ad n c h F x)
 have hn:¬(20:Int)<=(n:Int):=by omega
 have hn2:¬(20:Int)<(n:Int):=by omega
 clear h
 go_enter Tryz.func126,Tryz.ntmps126
 go_wp2_with fail
 go_loopw [7,8] (λs7 s8 wr=>s7=.int .i64 0/\s8=.int .i64 20/\wr=w) (λ_ _ _=>0)
 case atStart=>exact⟨rfl,rfl,rfl⟩
 case round=>
  obtain⟨rfl,rfl,hw0⟩:=hrel;have hw1:=hw0.symm;subst hw1;clear hw0
  go_wp2_with (go_at_call 149;refine(HI.out _).mono ?_;rintro e w2 ⟨rfl,hw⟩;subst hw)
  go_loopw [6] (λs6 wx=>s6=.int .i64 20/\wx=w2) (λ_ _=>0)
  case atStart=>exact⟨rfl,rfl⟩
  case round=>
   obtain⟨rfl,hw0⟩:=hrel;subst hw0;go_wp2
   go_end0
   exact⟨rfl,rfl⟩
theorem Qrk (ad:Option Addr)(n c:Nat)(h:n<=1)(F:Value)(w:World):Calls Tryz.prog 91 #[.slice ad n c,F] w λe w'=>e=.returned (.tuple #[])/\w'=w:=by
 have HI:=hid (λx=>Qms ad n c h F x)
 clear h
 go_enter Tryz.func91,Tryz.ntmps91
 go_wp2_with (go_at_call 126;refine(HI.out _).mono ?_;rintro e w2 ⟨rfl,hw⟩;subst hw)
 first|go_end0|refine bodyPost_ret (results_none rfl _ _ _) rfl ?_
 exact⟨rfl,rfl⟩
theorem Ql7 (ad:Option Addr)(n c:Nat)(h:n<=1)(F:Value)(w:World):Calls Tryz.prog 94 #[.slice ad n c,F] w λe w'=>e=.returned (.slice ad n c)/\w'=w:=by
 have hn:(n:Int)<2:=by omega
 clear h
 go_enter Tryz.func94,Tryz.ntmps94
 go_wp2;go_ret;exact⟨rfl,rfl⟩
theorem Qpg (lv pv:Value)(L:List Lf)(P:List Pr)(w:World)(hL:Lvs w lv L)(hP:Pts w pv P)(hn:L.length<=1000)(hp:P.length<=1000)(hpl:∀p∈P,p.loose.length<=1000):
  Calls Tryz.prog 67 #[.agg #[lv,pv],.slice none 0 0] w λe w'=>e=.returned (.slice none 0 0)/\Kept w.heap.size w.heap.size w w':=by
 have HRT:=hid (λ(x:World) (k:Kept w.heap.size w.heap.size w x)=>Qe1 lv pv L P x (hL.kept k) (hP.kept k) hn hp hpl)
 have HSO:=hid (λ(F:Value) x=>Qrk none 0 0 (Nat.zero_le _) F x)
 have HCO:=hid (λ(F:Value) x=>Ql7 none 0 0 (Nat.zero_le _) F x)
 obtain⟨lad,lc,rfl⟩:=hL.shape;obtain⟨pad,pc,rfl⟩:=hP.shape;obtain⟨ln,hln⟩:∃x,x=L.length:=⟨_,rfl⟩;obtain⟨pn,hpn⟩:∃x,x=P.length:=⟨_,rfl⟩;rw[<-hln,<-hpn] at HRT;rw[<-hln,<-hpn];clear hL hP hn hp hpl hln hpn
 go_enter Tryz.func67,Tryz.ntmps67
 go_upto_region 0 with fail
 refine zA ?_;iterate 2(refine wW λK hK=>?_;go_simp;apply hK;clear hK K)
 have kn:Kept w.heap.size w.heap.size w (w.alloc (.cells #[.slice lad ln lc,.slice pad pn pc] 45)):=zI.alloc (zB _) _
 have rt:=Qaa w (.cells #[.slice lad ln lc,.slice pad pn pc] 45)
 generalize w.alloc (.cells #[.slice lad ln lc,.slice pad pn pc] 45)=w1 at kn rt |-
 obtain⟨pb,hpb⟩:∃n,n=w.heap.size:=⟨_,rfl⟩;rw[<-hpb] at rt
 (try rw[<-hpb])
 clear hpb;have K1:=hid kn;have LT:=hid (run_loadVar_row w1 pb 45 45 _ (0,0) _ rt Tryz.underlying45 rfl treeInfo)
 clear kn rt
 cases hr:Tt.right L P
 ·rw[hr] at HRT
  clear hr
  go_upto_region 1 with fail
  refine zA ?_;refine wLk 45 (.tmp 2) rfl (pb) (0) rfl (.agg #[.slice lad ln lc,.slice pad pn pc]) (LT.out) ?_
  simp only[Act.put,sA,sB,sC];refine wW λK hK=>?_;go_simp;go_at_call 85
  refine(HRT.out _ K1.out).mono ?_;rintro e w2 ⟨rfl,k2⟩;have K2:=hid k2;clear k2;apply hK;clear hK K;refine wW λK hK=>?_;go_simp;apply hK;clear hK K;go_wp2;go_ret;exact⟨rfl,K1.out.onto K2.out⟩
 ·rw[hr] at HRT
  clear hr
  go_upto_region 1 with fail
  refine zA ?_;refine wLk 45 (.tmp 2) rfl (pb) (0) rfl (.agg #[.slice lad ln lc,.slice pad pn pc]) (LT.out) ?_
  simp only[Act.put,sA,sB,sC];refine wW λK hK=>?_;go_simp;go_at_call 85
  refine(HRT.out _ K1.out).mono ?_;rintro e w2 ⟨rfl,k2⟩;have K2:=hid k2;clear k2;apply hK;clear hK K;refine wW λK hK=>?_;go_simp;apply hK;clear hK K
  go_wp2_with fail
  go_loopw [5,13] (λs5 s13 wr=>s5=.slice none 0 0/\s13=.int .i64 0/\wr=w2) (λ_ _ _=>0)
  case atStart=>exact⟨rfl,rfl,rfl⟩
  case round=>
   obtain⟨rfl,rfl,rfl⟩:=hrel
   go_upto_region 10 with fail
   refine zA ?_;refine wW λK hK=>?_;go_simp;apply hK;clear hK K;refine wW λK hK=>?_;go_simp;go_at_call 91
   refine(HSO.out (.func (.func 92) #[] #[]) _).mono ?_
   rintro e w3 ⟨rfl,hw⟩;subst hw;apply hK;clear hK K
   go_upto_region 11 with fail
   refine zA ?_;refine wW λK hK=>?_;go_simp;apply hK;clear hK K;refine wW λK hK=>?_;go_simp;go_at_call 94
   refine(HCO.out (.func (.func 95) #[] #[]) _).mono ?_
   rintro e w4 ⟨rfl,hw⟩;subst hw;apply hK;clear hK K;refine wW λK hK=>?_;go_simp;apply hK;clear hK K;go_wp2;go_ret;exact⟨rfl,K1.out.onto K2.out⟩
theorem Qn6 (w:World)(ad:Option Addr)(n c:Nat)(L:List Lf)(hv:Lvs w (.slice ad n c) L)(hl:L.length<=100000):
  ∃v' w',(Builtin.append_ #[42,42] 42 #[.slice none 0 0,.slice ad n c]).run Tryz.prog w=.ok v' w'/\OwnC w' w.heap.size 122 97 v' (L.map Lf.cells)/\w.grownBy w' none:=by
 obtain⟨ad,g,o,c,hv2,h1,h2⟩:=hv
 cases hv2
 obtain⟨i0,z,hi,hz,hz1,hz2,hz3⟩:=Qdp leafFullAll
 by_cases h0:L=[]
 ·subst h0
  refine⟨.slice none 0 0,w,?_,OwnC.nil _ _ _ _,⟨rfl,rfl,rfl,zB _,λ_ _ _=>rfl⟩⟩
  cases ad with
  | none=>simp[Builtin.append_,run_underlying Tryz.underlying42,sizeOf,typeInfo,hi,Builtin.lenOf,Builtin.firstCells]
  | some a=>simp[Builtin.append_,run_underlying Tryz.underlying42,sizeOf,typeInfo,hi,Builtin.lenOf,Builtin.firstCells,loadCells,loadCellsFrom,Result.andThen]
 ·have hl0:0<L.length:=List.length_pos_iff.2 h0
  obtain⟨rfl,hg,_,_⟩:=h1 0 hl0
  obtain⟨v',w',e1,e2,e3⟩:=Qmf w w.heap.size (.slice none 0 0) [] (OwnC.nil _ _ _ _) (zB _) g o c (L.map Lf.cells) (λx hx=>by
   obtain⟨l,hl2,rfl⟩:=List.mem_map.1 hx;obtain⟨i,hi2,rfl⟩:=List.getElem_of_mem hl2;exact⟨Lf.cells_length (h1 i hi2).2.2.1,L[i].cells_one⟩) (λi hi2=>by
   rw[List.length_map] at hi2;rw[List.getElem_map]
   exact(h1 i hi2).2.2.2) (by rw[List.length_map];simp;omega)
  rw[List.length_map] at e1;rw[List.nil_append] at e2;exact⟨v',w',e1,e2,e3⟩
theorem OwnC.lower {w:World}{base b2:Nat}{T:TypeId}{n:Nat}{v:Value}{R:List (List Value)}(h:OwnC w base T n v R)(hb:b2<=base):OwnC w b2 T n v R:=⟨h.1,Qfi h.2 hb⟩
theorem Qjt (lv pv:Value)(L:List Lf)(P:List Pr)(w:World)(hL:Lvs w lv L)(hP:Pts w pv P)(hn:L.length<=1000)(hp:P.length<=1000)(hpl:∀p∈P,p.loose.length<=1000):
  Calls Tryz.prog 66 #[.agg #[lv,pv]] w λe w'=>∃lv' pv',e=.returned (.agg #[lv',pv'])/\Kept w.heap.size w.heap.size w w'/\∃SL,Mine (λk=>k<w.heap.size) w' lv' pv' L P SL:=by
 have hL9:=hL;obtain⟨lad,lg,lo,lc,rfl,hlc,hcap⟩:=hL;obtain⟨pad,pg,po,pc,rfl,hpc,_⟩:=hP
 have hlok:∀l∈L,l.Ok:=λl hl=>by
  obtain⟨i,hi,rfl⟩:=List.getElem_of_mem hl;exact(hlc i hi).2.2.1
 have HAP0:=hid (λ(u:World) (k:Kept w.heap.size w.heap.size w u)=>Qn6 u lad L.length lc L (hL9.kept k) (by omega))
 obtain⟨ln,hln⟩:∃ln,ln=L.length:=⟨_,rfl⟩;obtain⟨pn,hpn⟩:∃pn,pn=P.length:=⟨_,rfl⟩;rw[<-hln] at HAP0;rw[<-hln,<-hpn];have hpn9:(pn:Int)<=1000:=by omega
 have HLN:=hid hln;have HPN:=hid hpn;have HLB:=hid (show ln<=1000 by omega)
 have HPB:=hid (show pn<=1000 by omega)
 have HPL:=hid hpl;have HPC:=hid hpc;have HLOK:=hid hlok;clear hn hp hpl hln hpn hlc hpc hL9 hcap hlok
 go_enter Tryz.func66,Tryz.ntmps66
 go_upto_region 1 with fail
 have k1:=kA w (.cells #[.slice lad ln lc,.slice pad pn pc] 45)
 have t1:=Qaa w (.cells #[.slice lad ln lc,.slice pad pn pc] 45)
 have s1:(w.alloc (.cells #[.slice lad ln lc,.slice pad pn pc] 45)).heap.size=w.heap.size+1:=by simp
 generalize w.alloc (.cells #[.slice lad ln lc,.slice pad pn pc] 45)=wa at k1 t1 s1 |-
 have k2:=kA wa (.cells #[.slice none 0 0,.slice none 0 0] 45)
 have r2:=Qaa wa (.cells #[.slice none 0 0,.slice none 0 0] 45)
 have s2:(wa.alloc (.cells #[.slice none 0 0,.slice none 0 0] 45)).heap.size=wa.heap.size+1:=by simp
 have t2:=rk t1 k2;generalize wa.alloc (.cells #[.slice none 0 0,.slice none 0 0] 45)=wb at k2 r2 s2 t2 |-
 rw[s1] at r2
 (try rw[s1])
 obtain⟨tb,htb⟩:∃tb,tb=w.heap.size:=⟨_,rfl⟩;obtain⟨rb,hrb⟩:∃rb,rb=w.heap.size+1:=⟨_,rfl⟩;rw[<-hrb] at r2;rw[<-hrb];rw[<-htb] at t2;rw[<-htb];have k12:=k1.next1 k2;have hs9:wb.heap.size=w.heap.size+2:=by omega
 have t0:=Qac t2;obtain⟨vl,wc,ea,oa,ga⟩:=HAP0.out wb k12;have oa0:OwnC wc 0 122 97 vl (L.map Lf.cells):=oa.lower (Nat.zero_le _)
 have kc:Kept wb.heap.size wb.heap.size wb wc:=⟨ga.os,ga.tape,ga.output,ga.size,λk hk _=>ga.block k hk (λe=>nomatch e)⟩
 have tc:=rK t2 kc;have rc:=rK r2 kc;obtain⟨vad,vc,hv⟩:=(OwnC.lvs oa HLOK.out).shape;subst hv;have hob2:∀g,(Value.slice vad L.length vc).ownBlock=some g->wb.heap.size<=g/\g<wc.heap.size:=λg e=>World.ownsRow.lt oa.2 g e
 obtain⟨vn,hvn⟩:∃vn,vn=L.length:=⟨_,rfl⟩;rw[<-hvn] at ea oa0 hob2;have EA:=hid ea;have k3:=kA wc (.cells #[.slice vad vn vc,.slice none 0 0] 45)
 have o3:=Qaa wc (.cells #[.slice vad vn vc,.slice none 0 0] 45)
 have t3:=rK tc k3;have r3:=rK rc k3;have oa3:=oa0.alloc (.cells #[.slice vad vn vc,.slice none 0 0] 45)
 have K1:=hid ((k12.onto kc).onto k3);have HTB0:=hid htb;have HRB0:=hid hrb;have HS9:=hid hs9;have HVN:=hid hvn;have HT1:=hid (zF t1);clear ea oa0 oa k1 k2 htb hrb hs9 hvn s1 s2 t1;refine zA ?_;iterate 2(refine wW λK hK=>?_;go_simp;apply hK;clear hK K)
 refine Qal rfl _ _ 42 42 42 rfl rfl (.slice none 0 0) (.slice lad ln lc) rfl rfl EA.out ?_
 simp only[Act.put,sA,sB,sC];refine wW λK hK=>?_;go_simp;apply hK;clear hK K;refine @Qas _ _ _ _ _ _ _ _ ?_ 45 rfl _ (Qlf _) ?_;kernel_rfl
 simp only[Act.put,sA,sB,sC];refine wpList_store_row rfl 45 _ _ rfl (wc.heap.size) #[.slice vad vn vc,.slice none 0 0] rfl rfl 45 #[.slice none 0 0,.slice none 0 0] (Qaa _ _) (treeInfo) (rfl) (Qef _ _ _ _ _ _) ?_
 simp only[Act.put];rw[World.setRow_alloc_new];have htb:=HTB0.out;have hrb:=HRB0.out;have hs9:=HS9.out;have hlt1:=HT1.out
 obtain⟨ob,hob⟩:∃ob,ob=wc.heap.size:=⟨_,rfl⟩;rw[<-hob] at o3
 (try rw[<-hob])
 have hsz3:(wc.alloc (.cells #[.slice vad vn vc,.slice none 0 0] 45)).heap.size=wc.heap.size+1:=by simp
 generalize wc.alloc (.cells #[.slice vad vn vc,.slice none 0 0] 45)=w1 at K1 o3 t3 r3 oa3 hsz3 |-
 have hkc:=kc.size;have hlt2:=zF r2;have HTR:=hid (show tb≠rb by omega)
 have HTO:=hid (show tb≠ob by omega)
 have HRO:=hid (show rb≠ob by omega)
 have HWT:=hid (show ¬tb<w.heap.size by omega)
 have HWR:=hid (show ¬rb<w.heap.size by omega)
 have HWO:=hid (show ¬ob<w.heap.size by omega)
 have HBW:=hid (show ∀k,k<w.heap.size->k<w.heap.size\/k=tb\/k=rb\/k=ob from λk h=>.inl h)
 have T1:=hid t3;have R1:=hid r3;have O1:=hid o3
 have M1:=hid (show Mine (λk=>k<w.heap.size\/k=tb\/k=rb\/k=ob) w1 (.slice vad vn vc) (.slice none 0 0) L [] [] from
  { lok:=HLOK.out
    pok:=λ_ h=>nomatch h
    lo:=oa3
    len:=rfl
    po:=OwnC.nil _ _ _ _
    so:=λ_ _ _ h=>by simp at h
    dlp:=by
     cases vad with
     | none=>exact .inl rfl
     | some a=>exact .inr (λe=>nomatch e)
    dls:=λ_ h=>nomatch h
    dps:=λ_ h=>nomatch h
    dss:=λ_ _ _ _ _ h=>by simp at h
    ol:=λg e b=>by have:=hob2 g e;omega
    op:=λ_ h=>nomatch h
    os:=λ_ h=>nomatch h
    bnd:=λk b=>by omega })
 clear t2 r2 tc rc o3 t3 r3 oa3 kc hob2 htb hrb hob hsz3 hkc hlt2 hlt1 hs9 k12 k3 t0 EA HAP0 ga HTB0 HRB0 HS9 HT1;have t0:=Qab T1.out
 go_upto_region 2 with fail
 refine zA ?_;iterate 4(refine wW λK hK=>?_;go_simp;apply hK;clear hK K)
 go_wp2_with fail
 clear t0
 go_loopw [13] (λs13 wr=>∃i:Nat,∃vp,s13=.int .i64 (i:Int)/\Hid (i<=pn)/\∃SL,Hid (Mine (λk=>k<w.heap.size\/k=tb\/k=rb\/k=ob) wr (.slice vad vn vc) vp L (P.take i) SL)/\Hid (Kept w.heap.size w.heap.size w wr)/\Hid (wr.heap[tb]?=some (.cells #[.slice lad ln lc,.slice pad pn pc] 45 (0,0)))/\Hid (wr.heap[rb]?=some (.cells #[.slice none 0 0,.slice none 0 0] 45 (0,0)))/\Hid (wr.heap[ob]?=some (.cells #[.slice vad vn vc,vp] 45 (0,0)))) (λs13 _=>pn-(RowKit.intOf s13).toNat)
 case atStart=>exact⟨0,_,rfl,hid (Nat.zero_le _),[],M1,K1,T1,R1,O1⟩
 case round=>
  clear M1 K1 T1 R1 O1;obtain⟨i,vp,rfl,hi,SL,HM,HK,HT,HR,HO⟩:=hrel;obtain⟨qad,qc,hq⟩:=HM.out.pts.shape;subst hq;obtain⟨qn,hqn⟩:∃qn,qn=(P.take i).length:=⟨_,rfl⟩;rw[<-hqn] at HM HO;clear hqn
  by_cases hlt:i<pn
  ·have hiP:i<P.length:=by rw[<-HPN.out];exact hlt
   have hlti:(i:Int)<(pn:Int):=by omega
   have hi0:¬(i:Int)<0:=by omega
   obtain⟨rfl,hg,hok,sl,hr,hnums⟩:=HPC.out i hiP;have hrw:=Qaf HK.out hr hg (zD hg);have hl9:=HPL.out _ (List.getElem_mem hiP);have hnums2:=hnums;obtain⟨sad,sc,ng,no,rfl,hnc⟩:=hnums;have hmb:=HM.out.box (.cells (P[i].cells (.slice sad P[i].loose.length sc)).toArray 124)
   have kb:=HK.out.alloc HK.out.size (.cells (P[i].cells (.slice sad P[i].loose.length sc)).toArray 124)
   have hpb:=Qaa wr (.cells (P[i].cells (.slice sad P[i].loose.length sc)).toArray 124)
   have htb2:=(heap_alloc_old wr (.cells (P[i].cells (.slice sad P[i].loose.length sc)).toArray 124) (zF HT.out)).trans HT.out
   have hrb2:=(heap_alloc_old wr (.cells (P[i].cells (.slice sad P[i].loose.length sc)).toArray 124) (zF HR.out)).trans HR.out
   have hob2:=(heap_alloc_old wr (.cells (P[i].cells (.slice sad P[i].loose.length sc)).toArray 124) (zF HO.out)).trans HO.out
   have hla:=run_loadVar_mid wr pg (po+i*66) 124 _ _ hrw Tryz.underlying124 rfl (by have:=parentInfo (Pr.size hok (.slice sad P[i].loose.length sc));simpa using this)
   have hsz:=Pr.size hok (.slice sad P[i].loose.length sc);have hall:=Pr.all P[i] sad P[i].loose.length sc;have hpbl:=Qek hok hpb;have hcl:(P[i].cells (.slice sad P[i].loose.length sc)).length=66:=Pr.cells_length hok _;obtain⟨pb,hpbe⟩:∃pb,pb=wr.heap.size:=⟨_,rfl⟩;rw[<-hpbe] at hmb hpb hpbl;have hpw:w.heap.size<=pb:=by rw[hpbe];exact HK.out.size
   have hpt:tb≠pb:=λe=>by have:=zF HT.out;omega
   have hpr:rb≠pb:=λe=>by have:=zF HR.out;omega
   have hpo:ob≠pb:=λe=>by have:=zF HO.out;omega
   obtain⟨p,hpp⟩:∃p,p=P[i]:=⟨_,rfl⟩;have HPP:=hid (show P.take (i+1)=P.take i++[p] by rw[hpp];exact List.take_succ_eq_append_getElem hiP)
   rw[<-hpp] at hok hl9 hnc hnums2 hmb kb hpb hla hsz hall htb2 hrb2 hob2 hpbl hcl;obtain⟨s2,w3,e3,i3,g3⟩:=Qqa (wr.alloc (.cells (p.cells (.slice sad p.loose.length sc)).toArray 124)) _ p.loose (hnums2.kept kb) (by omega)
   obtain⟨xad,xn,xc,hxs⟩:=Qe8 i3;subst hxs;have k3:Kept (wr.alloc (.cells (p.cells (.slice sad p.loose.length sc)).toArray 124)).heap.size (wr.alloc (.cells (p.cells (.slice sad p.loose.length sc)).toArray 124)).heap.size (wr.alloc (.cells (p.cells (.slice sad p.loose.length sc)).toArray 124)) w3:=⟨g3.os,g3.tape,g3.output,g3.size,λk hk _=>g3.block k hk (λe=>nomatch e)⟩
   obtain⟨f1,f2,f3,f4⟩:=hmb.fresh i3;have m3:=hmb.kept k3;have p3:=rK hpb k3;have tt3:=rK htb2 k3;have rr3:=rK hrb2 k3;have oo3:=rK hob2 k3;have kk3:=kb.onto k3;have g4:=Qbb w3 pb 65 (.slice xad xn xc);have m4:=m3.aside (b:=pb) (.inr rfl) g4;have p4:=Qaj p3 65 (.slice xad xn xc);rw[Qt6 hok] at p4;have kk4:=kk3.grown g4 kk3.size (λk e=>by cases e;exact hpw)
   have hne:∀k,k≠pb->some k≠some pb:=λk hk e=>hk (Option.some.inj e)
   have tt4:=(g4.block tb (zF tt3) (hne tb hpt)).trans tt3;have rr4:=(g4.block rb (zF rr3) (hne rb hpr)).trans rr3;have oo4:=(g4.block ob (zF oo3) (hne ob hpo)).trans oo3;have i4:Ints (w3.setCell ⟨pb,65,none⟩ (.slice xad xn xc)) 0 (.slice xad xn xc) p.loose:=Qfi (World.ownsRow.kept i3 g4 (.inr (λe=>by have:=(World.ownsRow.lt i3 pb e).1;have:=zF hpb;omega))) (Nat.zero_le _)
   have hlb:=run_loadVar_row (w3.setCell ⟨pb,65,none⟩ (.slice xad xn xc)) pb 124 124 _ (0,0) _ p4 Tryz.underlying124 rfl (parentInfo (Pr.size hok _))
   have m5:=m4.alloc (.cells (p.cells (.slice xad xn xc)).toArray 124)
   have hnb:=Qaa (w3.setCell ⟨pb,65,none⟩ (.slice xad xn xc)) (.cells (p.cells (.slice xad xn xc)).toArray 124)
   have kk5:=kk4.alloc kk4.size (.cells (p.cells (.slice xad xn xc)).toArray 124)
   have i5:Ints ((w3.setCell ⟨pb,65,none⟩ (.slice xad xn xc)).alloc (.cells (p.cells (.slice xad xn xc)).toArray 124)) 0 (.slice xad xn xc) p.loose:=Ints.alloc i4 _
   have fa:=(Frm.refl (λk=>(k<w.heap.size\/k=tb\/k=rb\/k=ob)\/k=pb) (w3.setCell ⟨pb,65,none⟩ (.slice xad xn xc))).alloc (.cells (p.cells (.slice xad xn xc)).toArray 124)
   have eb:=Qgw (w3.setCell ⟨pb,65,none⟩ (.slice xad xn xc)) p hok (.slice xad xn xc);obtain⟨v5,w5,e5,m6,g5⟩:=m5.moreP (w3.setCell ⟨pb,65,none⟩ (.slice xad xn xc)).heap.size 1 p hok _ i5 f4 f1 f2 f3 (Qf4 hnb) (by rw[List.length_take];have:=HPB.out;have:=HPN.out;omega)
   rw[<-HPP.out] at m6;obtain⟨yad,yc,hys⟩:=m6.pts.shape;subst hys;obtain⟨yn,hyn⟩:∃yn,yn=(P.take (i+1)).length:=⟨_,rfl⟩;rw[<-hyn] at e5 m6;have fa5:=fa.trans (Qfk (B:=λk=>(k<w.heap.size\/k=tb\/k=rb\/k=ob)\/k=pb) g5 (λg e b=>m5.op g e b))
   have k5:=kk5.grown g5 kk5.size (λg e=>by have:=m5.op g e;simp only[not_or] at this;omega)
   have tt5:=(fa5.block tb (zF tt4) (.inl (.inr (.inl rfl)))).trans tt4;have rr5:=(fa5.block rb (zF rr4) (.inl (.inr (.inr (.inl rfl))))).trans rr4;have oo5:=(fa5.block ob (zF oo4) (.inl (.inr (.inr (.inr rfl))))).trans oo4;have g6:=Qbb w5 ob 1 (.slice yad yn yc);have m7:=(m6.mono (B':=λk=>k<w.heap.size\/k=tb\/k=rb\/k=ob) (λk b=>.inl b)).aside (b:=ob) (.inr (.inr (.inr rfl))) g6
   have k6:=k5.grown g6 k5.size (λk e=>by cases e;have:=HWO.out;omega)
   have tt6:=(g6.block tb (zF tt5) (λe=>HTO.out (Option.some.inj e))).trans tt5
   have rr6:=(g6.block rb (zF rr5) (λe=>HRO.out (Option.some.inj e))).trans rr5
   have oo6:(w5.setCell ⟨ob,1,none⟩ (.slice yad yn yc)).heap[ob]?=some (.cells #[.slice vad vn vc,.slice yad yn yc] 45 (0,0)):=Qaj (cs:=[.slice vad vn vc,.slice qad qn qc]) oo5 1 (.slice yad yn yc)
   have HSZ2:=hid (Pr.size hok (.slice xad xn xc));obtain⟨D2,hD2⟩:∃D2,D2=p.cells (.slice xad xn xc):=⟨_,rfl⟩;rw[<-hD2] at p4 hlb eb e5 HSZ2;rw[<-hD2] at hnb fa kk5 m5 i5 g5;obtain⟨sn,hsn⟩:∃sn,sn=p.loose.length:=⟨_,rfl⟩;obtain⟨D,hD⟩:∃D,D=p.cells (.slice sad p.loose.length sc):=⟨_,rfl⟩;rw[<-hD] at hpb hla hsz hall e3 p3 htb2 hrb2 hob2 hcl hpbl;rw[<-hsn] at e3 hpbl;have HLA:=hid hla;have HSZ:=hid hsz;have HALL:=hid hall;have HCL:=hid hcl;have HPBL:=hid hpbl;have E3:=hid e3;have P3:=hid p3;have P4:=hid p4;have HLB2:=hid hlb;have EB:=hid eb;have E5:=hid e5;have OO4:=hid oo4;have OO5:=hid oo5;have TT6:=hid tt6;have RR6:=hid rr6;have OO6:=hid oo6;have K6:=hid k6;have M7:=hid m7;have HLT:=hid hlt;clear hi hlt hiP hg hok hr hrw hl9 hnums2 hnc hmb kb hpb htb2 hrb2 hob2 hla hsz hall hpw hpt hpr hpo hpp i3 g3 k3 f1 f2 f3 f4 m3 p3 tt3 rr3 oo3 kk3 g4 m4 p4 kk4 hne tt4 rr4 oo4 i4 hlb m5 hnb kk5 i5 fa eb e5 m6 g5 hyn fa5 k5 tt5 rr5 oo5 g6 m7 k6 tt6 rr6 oo6 hD2 hD hsn hcl hpbl e3 HM HK HT HR HO
   go_upto_region 4 with fail
   refine zA ?_;refine wW λK hK=>?_;go_simp;apply hK;clear hK K;refine wLk 124 (.tmp 15) rfl (pg) (po+i*66) rfl (.agg D.toArray) (HLA.out) ?_
   simp only[Act.put,sA,sB,sC];refine @Qas _ _ _ _ _ _ _ _ ?_ 124 rfl _ (Qdy _) ?_;kernel_rfl
   simp only[Act.put,sA,sB,sC];refine wpList_store_row rfl 124 _ _ rfl (wr.heap.size) D.toArray rfl rfl 124 (Pr.zero.cells (.slice none 0 0)).toArray (Qaa _ _) (parentInfo HSZ.out) (by rw[HSZ.out];exact Pr.size Pr.zero_ok _) (HALL.out) ?_
   simp only[Act.put];rw[World.setRow_alloc_new];rw[<-hpbe];clear hpbe;generalize hwb2:wr.alloc (.cells D.toArray 124)=wb2 at E3 HPBL |-
   clear hwb2;have c65:=HPBL.out
   go_upto_region 5 with fail
   refine zA ?_;iterate 2(refine wW λK hK=>?_;go_simp;apply hK;clear hK K)
   refine Qal rfl _ _ 51 51 51 rfl rfl (.slice none 0 0) (.slice sad sn sc) rfl rfl E3.out ?_
   simp only[Act.put,sA,sB,sC];refine wW λK hK=>?_;go_simp;apply hK;clear hK K;refine @Qcd _ _ _ _ _ _ _ ?hw65a 51 _ _ rfl (pb) 65 D 124 (.slice xad xn xc) rfl rfl P3.out (by rw[HCL.out];decide) rfl (by kernel_rfl) ?_
   case hw65a=>kernel_rfl
   simp only[Act.put];clear c65;generalize hw4:w3.setCell ⟨pb,65,none⟩ (.slice xad xn xc)=w4 at P4 HLB2 EB E5 OO4 |-;clear hw4;have t1:=Qab OO4.out
   go_upto_region 6 with fail
   refine zA ?_;iterate 2(refine wW λK hK=>?_;go_simp;apply hK;clear hK K)
   refine wLk 124 (.tmp 5) rfl (pb) (0) rfl (.agg D2.toArray) (HLB2.out) ?_
   simp only[Act.put,sA,sB,sC];refine @Qex _ _ _ _ _ _ _ _ ?_ 43 (.tmp 23) rfl (.agg D2.toArray) _ rfl EB.out ?_;kernel_rfl
   simp only[Act.put,sA,sB,sC];refine Qal rfl (.tmp 22) (.tmp 24) 43 43 43 rfl rfl (.slice qad qn qc) (.slice (some ⟨w4.heap.size,0,none⟩) 1 1) rfl rfl E5.out ?_
   simp only[Act.put,sA,sB,sC];refine wW λK hK=>?_;go_simp;apply hK;clear hK K;refine @Qcd _ _ _ _ _ _ _ ?hw16s 43 _ _ rfl (ob) 1 [.slice vad vn vc,.slice qad qn qc] 45 (.slice yad yn yc) rfl rfl OO5.out (by simp) rfl (by kernel_rfl) ?_
   case hw16s=>kernel_rfl
   simp only[Act.put];generalize w5.setCell ⟨ob,1,none⟩ (.slice yad yn yc)=w6 at TT6 RR6 OO6 K6 M7 |-;clear t1;go_wp2
   go_roundw
   case rel=>exact⟨i+1,_,by simp,hid HLT.out,_,M7,K6,TT6,RR6,OO6⟩
   case measure=>have:=HLT.out;simp[RowKit.intOf];omega
  ·have hnl:¬(i:Int)<(pn:Int):=by omega
   have HE:=hid (show i=pn by have:=hi.out;omega)
   clear hlt hi
   go_upto_region 8 with fail
   refine zA ?_;refine wLk 45 (.tmp 3) rfl (ob) (0) rfl (.agg #[.slice vad vn vc,.slice qad qn qc]) (run_loadVar_row wr ob 45 45 _ (0,0) _ HO.out Tryz.underlying45 rfl treeInfo) ?_
   simp only[Act.put,sA,sB,sC];refine wpList_store_row rfl 45 _ _ rfl (rb) #[.slice vad vn vc,.slice qad qn qc] rfl rfl 45 #[.slice none 0 0,.slice none 0 0] HR.out treeInfo rfl (Qef _ _ _ _ _ _) ?_
   simp only[Act.put];have R7:=setRow_heap wr rb _ #[.slice vad vn vc,.slice qad qn qc] _ _ HR.out;have g7:=Qa6 wr rb #[.slice vad vn vc,.slice qad qn qc];have M8:=hid (HM.out.aside (b:=rb) (.inr (.inr (.inl rfl))) g7);have K7:=hid (HK.out.grown g7 HK.out.size (λk e=>by cases e;exact Nat.le_of_not_lt HWR.out))
   generalize wr.setRow rb #[.slice vad vn vc,.slice qad qn qc]=w7 at R7 g7 M8 K7 |-;go_wp2;refine bodyPost_ret (results_cell_row rfl _ _ rb 45 _ (0,0) _ rfl R7 Tryz.underlying45 rfl treeInfo) rfl ?_
   refine⟨_,_,rfl,K7.out,SL,?_⟩;have hm:=M8.out;rw[HE.out,HPN.out,List.take_length] at hm;exact hm.mono (λk b=>.inl b)
end Go.Proofs.YtnlbgggnpoeleaaGreatDoor
