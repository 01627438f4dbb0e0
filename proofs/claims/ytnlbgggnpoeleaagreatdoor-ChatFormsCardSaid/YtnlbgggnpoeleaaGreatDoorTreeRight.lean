/-
 The landed Right.
-/
import Derived.Test.YtnlbgggnpoeleaaGreatDoorGX
set_option maxRecDepth 100000
set_option maxHeartbeats 6400000
namespace Go.Proofs.YtnlbgggnpoeleaaGreatDoor
open Go.RowKit Go.Lib
open List renaming setIfInBounds_toArray -> sA, set_cons_zero -> sB, set_cons_succ -> sC
open BigFrame renaming wpList_want -> wQ
namespace Tt
def lastBlank (L:List Lf):Bool:=decide (0<L.length)&&nameAt L ((L.length-1:Nat):Int) == 0
def right (L:List Lf)(P:List Pr):Bool:=decide (L.length<=64)&&(decide (P.length=L.length-1)&&(!lastBlank L&&(leavesOk [] L&&parentsOk L 0 P)))
end Tt
theorem treeInfo {x y:Value}:(Tryz.prog.info? 45).map (·.size)=some (#[x,y]:Array Value).size:=by show _=some 2;kernel_rfl
theorem Qde {w:World}{g o:Nat}{t:TypeId}{d:TypeDesc}{a:Option Addr}{n c:Nat}(h:w.cell? ⟨g,o,none⟩=some (.slice a n c))(_ht:t=42\/t=43)(_hd:d=d):(loadVar t ⟨g,o,none⟩).run Tryz.prog w=.ok (.slice a n c) w:=by
 rcases _ht with rfl|rfl
 ·go_simp
 ·go_simp
theorem Qe1 (lv pv:Value)(L:List Lf)(P:List Pr)(w:World)(hL:Lvs w lv L)(hP:Pts w pv P)(hn:L.length<=1000)(hp:P.length<=1000)(hpl:∀p∈P,p.loose.length<=1000):
  Calls Tryz.prog 85 #[.agg #[lv,pv]] w λe w'=>e=.returned (.bool (Tt.right L P))/\Kept w.heap.size w.heap.size w w':=by
 have HRL:=hid (λ(x:World) (k:Kept w.heap.size w.heap.size w x)=>Qg4 lv L x (hL.kept k) hn)
 have HRP:=hid (λ(x:World) (k:Kept w.heap.size w.heap.size w x)=>Qgf lv pv L P x (hL.kept k) (hP.kept k) hn hp hpl)
 obtain⟨ad,g,o,c,rfl,hc,_⟩:=hL;obtain⟨pad,pc,rfl⟩:=hP.shape;obtain⟨ln,hln⟩:∃ln,ln=L.length:=⟨_,rfl⟩;obtain⟨pn,hpn⟩:∃pn,pn=P.length:=⟨_,rfl⟩;have hln9:(ln:Int)<=1000:=by omega
 have hpn9:(pn:Int)<=1000:=by omega
 have HLN:=hid hln;have HPN:=hid hpn;rw[<-hln,<-hpn] at HRP |-;rw[<-hln] at HRL;have HC:=hid hc;have HCO:=hid (λx=>(Qg7 ln (by omega) x).mono (λe w' h=>show e=.returned (.int .i64 ((ln-1:Nat):Int))/\Kept x.heap.size x.heap.size x w' from⟨h.1,Qnh h.2⟩))
 clear hc hln hpn hn hp hpl hP;have hk1:Kept w.heap.size w.heap.size w (w.alloc (.cells #[.slice ad ln c,.slice pad pn pc] 45)):=zI.alloc (zB _) _
 have ht1:=Qaa w (.cells #[.slice ad ln c,.slice pad pn pc] 45)
 have K1:=hid hk1;have T1:=hid ht1;clear hk1 ht1
 go_enter Tryz.func85,Tryz.ntmps85
 go_upto_region 1 with fail
 generalize w.alloc (.cells #[.slice ad ln c,.slice pad pn pc] 45)=w1 at K1 T1 |-
 obtain⟨tb,htb⟩:∃tb,tb=w.heap.size:=⟨_,rfl⟩;rw[<-htb] at T1 |-;clear htb;have t0:=Qac T1.out
 go_upto_region 2 with fail
 clear t0;have HT1:=hid (λ(x:World) (k:Kept w1.heap.size w1.heap.size w1 x)=>Qde (t:=43) (d:=.int .u8) (Qab (rk T1.out k)) (.inr rfl) rfl)
 have KD0:Kept w1.heap.size w1.heap.size w1 w1.drew:=zI.drew
 by_cases h1:64<ln
 ·have h1i:(ln:Int) > 64:=by omega
  have H1:=hid h1;clear h1;refine wp_region_noPanic ?_;refine wp_region_held_drew (S:=λw'=>Kept w1.heap.size w1.heap.size w1 w') (by kernel_rfl) (zI.drew) (λhH=>?_)
  refine tkE (i:=0) 7 rfl hH ?_
  apply zH
  ·intro w9 _
   go_simp
   first|done|rfl
  simp only[sA,sB,sC];refine tkE (i:=1) 8 rfl hH ?_
  apply zH
  ·intro w9 _
   go_simp
   first|done|rfl
  simp only[sA,sB,sC];refine tkE (i:=2) 9 rfl hH ?_
  apply zH
  ·intro w9 _
   go_simp
   first|done|rfl
  simp only[sA,sB,sC];refine tkA (i:=3) 10 undef rfl (.inr ⟨by kernel_rfl,rfl⟩) hH ?_
  simp only[sA,sB,sC];refine tkA (i:=4) 11 undef rfl (.inr ⟨by kernel_rfl,rfl⟩) hH ?_
  simp only[sA,sB,sC];refine tkA (i:=5) 12 undef rfl (.inr ⟨by kernel_rfl,rfl⟩) hH ?_
  simp only[sA,sB,sC];refine tkA (i:=6) 13 undef rfl (.inr ⟨by kernel_rfl,rfl⟩) hH ?_
  simp only[sA,sB,sC];refine tkA (i:=7) 14 undef rfl (.inr ⟨by kernel_rfl,rfl⟩) hH ?_
  simp only[sA,sB,sC];refine tkA (i:=8) 15 undef rfl (.inr ⟨by kernel_rfl,rfl⟩) hH ?_
  simp only[sA,sB,sC];refine tkE (i:=9) 16 rfl hH ?_
  apply zH
  ·intro w9 _
   go_simp
   first|done|rfl
  simp only[sA,sB,sC];refine wpAnyH_done (by kernel_rfl) ?_ _
  refine NoPanic.normal ?_;go_wp2;go_ret;refine⟨?_,K1.out.next1 KD0⟩
  have hf:Tt.right L P=false:=by
   unfold Tt.right;have h:¬L.length<=64:=by have:=H1.out;have:=HLN.out;omega
   rw[decide_eq_false h];rfl
  rw[hf];rfl
 ·have h1i:¬(ln:Int) > 64:=by omega
  have h1n:¬64<ln:=h1;have H1:=hid h1;clear h1
  by_cases h2:pn=ln-1
  ·subst h2
   refine wp_region_noPanic ?_;refine wp_region_held_drew (S:=λw'=>Kept w1.heap.size w1.heap.size w1 w') (by kernel_rfl) (zI.drew) (λhH=>?_)
   refine tkE (i:=0) 7 rfl hH ?_
   apply zH
   ·intro w9 _
    go_simp
    first|done|rfl
   simp only[sA,sB,sC];refine tkE (i:=1) 8 rfl hH ?_
   apply zH
   ·intro w9 _
    go_simp
    first|done|rfl
   simp only[sA,sB,sC];refine tkE (i:=2) 9 rfl hH ?_
   apply zH
   ·intro w9 _
    go_simp
    first|done|rfl
   simp only[sA,sB,sC];refine tkE (i:=3) 10 rfl hH ?_
   apply zH
   ·intro w9 _
    go_simp
    first|done|rfl
   simp only[sA,sB,sC];refine tkA (i:=4) 11 (.slice pad (ln-1) pc) rfl (yK (by kernel_rfl) 43 _ rfl (tb) (1) rfl (.slice pad (ln-1) pc) (λw' hw'=>HT1.out w' hw')) hH ?_
   simp only[sA,sB,sC];refine tkE (i:=5) 12 rfl hH ?_
   apply zH
   ·intro w9 _
    go_simp
    first|done|rfl
   simp only[sA,sB,sC];refine tkE (i:=6) 13 rfl hH ?_
   apply zH
   ·intro w9 _
    go_simp
    first|done|rfl
   simp only[sA,sB,sC];refine wpAnyH_ready (rs:=[7]) (by kernel_rfl) (by simp) ?_
   refine AllReadyH.cons rfl (λK hK=>?_) AllReadyH.nil
   rw[zG (by rfl)]
   go_simp
   go_wp2_with (go_at_call 115;refine(HCO.out _).mono ?_;rintro e w2 ⟨rfl,kw2⟩)
   have Kw2:Kept w1.heap.size w1.heap.size w1 w2:=KD0.trans (kw2.mono KD0.size (λi hi _=>zD (zC hi KD0.size)))
   refine hK.out _ _ (Kw2) (λhH=>?_)
   clear hK K;refine tkE (i:=8) 15 rfl hH ?_
   apply zH
   ·intro w9 _
    go_simp
    first|done|rfl
   simp only[sA,sB,sC];refine tkE (i:=9) 16 rfl hH ?_
   apply zH
   ·intro w9 _
    go_simp
    first|done|rfl
   simp only[sA,sB,sC];refine wpAnyH_done (by kernel_rfl) ?_ _
   refine NoPanic.normal ?_;clear h1i h1n;have K2:=hid (K1.out.next1 Kw2);have T2:=hid (rk T1.out Kw2);clear Kw2 KD0 kw2;have t0:=Qac T2.out
   by_cases h3:0<ln
   ·have h3i:(ln:Int) > 0:=by omega
    obtain⟨k,hk⟩:∃k,k=ln-1:=⟨_,rfl⟩;have hll:k<L.length:=by rw[<-HLN.out];omega
    obtain⟨rfl,hg,hok,hr⟩:=HC.out k hll
    have hnm:Tt.nameAt L ((L.length-1:Nat):Int)=L[k].name:=by
     unfold Tt.nameAt;rw[Int.toNat_natCast,<-HLN.out,<-hk,List.getElem?_eq_getElem hll]
     rfl
    have hsub:(ln:Int)-1=(k:Int):=by omega
    have hkl:(k:Int)<(ln:Int):=by omega
    have hk0:¬(k:Int)<0:=by omega
    have hwk:IntKind.i64.wrap (k:Int)=(k:Int):=by rw[IntKind.wrap_i64];omega
    have HIB:=hid (Qgq L[k]);have HLD:=hid (run_loadVar_mid w2 g (o+k*97) 122 L[k].cells _ (Qaf K2.out hr hg (zD hg)) Tryz.underlying122 rfl (by have:=leafInfo (Lf.size hok);simpa using this))
    rw[<-hnm] at HIB;obtain⟨D,hD⟩:∃D,D=L[k].cells.toArray:=⟨_,rfl⟩;rw[<-hD] at HIB HLD;obtain⟨nm,hN⟩:∃nm,nm=Tt.nameAt L ((L.length-1:Nat):Int):=⟨_,rfl⟩;rw[<-hN] at HIB;have HN:=hid hN;have H3:=hid h3;clear hD hr hok hnm hg hN hll hk
    by_cases hz:nm=0
    ·have HZ:=hid hz
     have HZB:=hid (show(nm == 0)=true by rw[beq_iff_eq];exact hz)
     rw[HZB.out] at HIB;clear hz
     go_upto_region 4 with fail
     refine zA ?_;iterate 8(refine wW λK hK=>?_;go_simp;apply hK;clear hK K)
     refine wLk 122 (.tmp 24) rfl (g) (o+k*97) rfl (.agg D) (HLD.out) ?_
     simp only[Act.put,sA,sB,sC];refine wW λK hK=>?_;go_simp;go_at_call 116
     refine(HIB.out _).mono ?_;rintro e w3 ⟨rfl,k3⟩;have K3:=hid (K2.out.next1 k3);have T3:=hid (rk T2.out k3);clear k3;apply hK;clear hK K;refine wW λK hK=>?_;go_simp;apply hK;clear hK K;clear t0 h3 h3i hsub hkl hk0 hwk;go_wp2;go_ret;refine⟨?_,K3.out⟩
     have hf:Tt.right L P=false:=by
      unfold Tt.right;have h:Tt.lastBlank L=true:=by unfold Tt.lastBlank;rw[decide_eq_true (show 0<L.length by rw[<-HLN.out];exact H3.out),<-HN.out,HZB.out];rfl
      rw[h];simp
     rw[hf];rfl
    ·have HZ:=hid hz
     have HZB:=hid (show(nm == 0)=false by rw[beq_eq_false_iff_ne];exact hz)
     rw[HZB.out] at HIB;clear hz
     go_upto_region 4 with fail
     refine zA ?_;iterate 8(refine wW λK hK=>?_;go_simp;apply hK;clear hK K)
     refine wLk 122 (.tmp 24) rfl (g) (o+k*97) rfl (.agg D) (HLD.out) ?_
     simp only[Act.put,sA,sB,sC];refine wW λK hK=>?_;go_simp;go_at_call 116
     refine(HIB.out _).mono ?_;rintro e w3 ⟨rfl,k3⟩;have K3:=hid (K2.out.next1 k3);have T3:=hid (rk T2.out k3);clear k3;apply hK;clear hK K;refine wW λK hK=>?_;go_simp;apply hK;clear hK K;clear t0 h3 h3i hsub hkl hk0 hwk;have LB:Hid (Tt.lastBlank L=false):=hid (by unfold Tt.lastBlank;rw[<-HN.out,HZB.out,Bool.and_false])
     have hR:Tt.right L P=(Tt.leavesOk [] L&&Tt.parentsOk L 0 P):=by
      unfold Tt.right;rw[decide_eq_true (show L.length<=64 by have:=H1.out;have:=HLN.out;omega),decide_eq_true (show P.length=L.length-1 by rw[<-HLN.out];exact HPN.out.symm),LB.out]
      rfl
     have HR:=hid hR;clear hR;obtain⟨b1,hb1⟩:∃b1,b1=Tt.leavesOk [] L:=⟨_,rfl⟩;obtain⟨b2,hb2⟩:∃b2,b2=Tt.parentsOk L 0 P:=⟨_,rfl⟩;rw[<-hb1] at HRL HR;rw[<-hb2] at HRP HR;clear hb1 hb2;have t0:=Qac T3.out
     cases b1 with
     | true=>
      go_upto_region 6 with fail
      refine zA ?_;iterate 2(refine wW λK hK=>?_;go_simp;apply hK;clear hK K)
      refine wW λK hK=>?_;go_simp;go_at_call 117
      refine(HRL.out _ K3.out).mono ?_;rintro e w7 ⟨rfl,k7⟩;have K7:=hid (K3.out.next1 k7);have T7:=hid (rk T3.out k7);clear k7;apply hK;clear hK K;refine wW λK hK=>?_;go_simp;apply hK;clear hK K;refine wLk 45 (.tmp 1) rfl (tb) (0) rfl (.agg #[.slice (some ⟨g,o,none⟩) ln c,.slice pad (ln-1) pc]) (run_loadVar_row w7 tb 45 45 _ (0,0) _ T7.out Tryz.underlying45 rfl treeInfo) ?_
      simp only[Act.put,sA,sB,sC];refine wW λK hK=>?_;go_simp;go_at_call 118
      refine(HRP.out _ K7.out).mono ?_;rintro e w8 ⟨rfl,k8⟩;have K8:=hid (K7.out.next1 k8);clear k8;apply hK;clear hK K;iterate 2(refine wW λK hK=>?_;go_simp;apply hK;clear hK K)
      clear t0;go_wp2;go_ret;exact⟨by rw[HR.out];cases b2 <;> rfl,K8.out⟩
     | false=>
      go_upto_region 6 with fail
      refine zA ?_;iterate 2(refine wW λK hK=>?_;go_simp;apply hK;clear hK K)
      refine wW λK hK=>?_;go_simp;go_at_call 117
      refine(HRL.out _ K3.out).mono ?_;rintro e w7 ⟨rfl,k7⟩;have K7:=hid (K3.out.next1 k7);clear k7;apply hK;clear hK K;refine wW λK hK=>?_;go_simp;apply hK;clear hK K;(iterate 2(refine @wpList_skip _ _ _ _ _ _ _ ?_ ?_;kernel_rfl;simp only[Act.put,sA,sB,sC]));iterate 2(refine wW λK hK=>?_;go_simp;apply hK;clear hK K)
      clear t0;go_wp2;go_ret;exact⟨by rw[HR.out];rfl,K7.out⟩
   ·have h3i:¬(ln:Int) > 0:=by omega
    have H3:=hid h3
    go_upto_region 4 with fail
    refine zA ?_;iterate 3(refine wW λK hK=>?_;go_simp;apply hK;clear hK K)
    (iterate 7(refine @wpList_skip _ _ _ _ _ _ _ ?_ ?_;kernel_rfl;simp only[Act.put,sA,sB,sC]));refine wW λK hK=>?_;go_simp;apply hK;clear hK K;clear t0 h3 h3i;have LB:Hid (Tt.lastBlank L=false):=hid (by unfold Tt.lastBlank;rw[decide_eq_false (show ¬0<L.length by rw[<-HLN.out];exact H3.out)];rfl)
    have hR:Tt.right L P=(Tt.leavesOk [] L&&Tt.parentsOk L 0 P):=by
     unfold Tt.right;rw[decide_eq_true (show L.length<=64 by have:=H1.out;have:=HLN.out;omega),decide_eq_true (show P.length=L.length-1 by rw[<-HLN.out];exact HPN.out.symm),LB.out]
     rfl
    have HR:=hid hR;clear hR;obtain⟨b1,hb1⟩:∃b1,b1=Tt.leavesOk [] L:=⟨_,rfl⟩;obtain⟨b2,hb2⟩:∃b2,b2=Tt.parentsOk L 0 P:=⟨_,rfl⟩;rw[<-hb1] at HRL HR;rw[<-hb2] at HRP HR;clear hb1 hb2;have t0:=Qac T2.out
    cases b1 with
    | true=>
     go_upto_region 6 with fail
     refine zA ?_;iterate 2(refine wW λK hK=>?_;go_simp;apply hK;clear hK K)
     refine wW λK hK=>?_;go_simp;go_at_call 117
     refine(HRL.out _ K2.out).mono ?_;rintro e w7 ⟨rfl,k7⟩;have K7:=hid (K2.out.next1 k7);have T7:=hid (rk T2.out k7);clear k7;apply hK;clear hK K;refine wW λK hK=>?_;go_simp;apply hK;clear hK K;refine wLk 45 (.tmp 1) rfl (tb) (0) rfl (.agg #[.slice ad ln c,.slice pad (ln-1) pc]) (run_loadVar_row w7 tb 45 45 _ (0,0) _ T7.out Tryz.underlying45 rfl treeInfo) ?_
     simp only[Act.put,sA,sB,sC];refine wW λK hK=>?_;go_simp;go_at_call 118
     refine(HRP.out _ K7.out).mono ?_;rintro e w8 ⟨rfl,k8⟩;have K8:=hid (K7.out.next1 k8);clear k8;apply hK;clear hK K;iterate 2(refine wW λK hK=>?_;go_simp;apply hK;clear hK K)
     clear t0;go_wp2;go_ret;exact⟨by rw[HR.out];cases b2 <;> rfl,K8.out⟩
    | false=>
     go_upto_region 6 with fail
     refine zA ?_;iterate 2(refine wW λK hK=>?_;go_simp;apply hK;clear hK K)
     refine wW λK hK=>?_;go_simp;go_at_call 117
     refine(HRL.out _ K2.out).mono ?_;rintro e w7 ⟨rfl,k7⟩;have K7:=hid (K2.out.next1 k7);clear k7;apply hK;clear hK K;refine wW λK hK=>?_;go_simp;apply hK;clear hK K;(iterate 2(refine @wpList_skip _ _ _ _ _ _ _ ?_ ?_;kernel_rfl;simp only[Act.put,sA,sB,sC]));iterate 2(refine wW λK hK=>?_;go_simp;apply hK;clear hK K)
     clear t0;go_wp2;go_ret;exact⟨by rw[HR.out];rfl,K7.out⟩
  ·have h2i:((pn:Int) == ((ln-1:Nat):Int))=false:=by rw[beq_eq_false_iff_ne];omega
   have h2j:((pn:Int) != ((ln-1:Nat):Int))=true:=by rw[bne,h2i];rfl
   have H2:=hid h2;clear h2;refine wp_region_noPanic ?_;refine wp_region_held_drew (S:=λw'=>Kept w1.heap.size w1.heap.size w1 w') (by kernel_rfl) (zI.drew) (λhH=>?_)
   refine tkE (i:=0) 7 rfl hH ?_
   apply zH
   ·intro w9 _
    go_simp
    first|done|rfl
   simp only[sA,sB,sC];refine tkE (i:=1) 8 rfl hH ?_
   apply zH
   ·intro w9 _
    go_simp
    first|done|rfl
   simp only[sA,sB,sC];refine tkE (i:=2) 9 rfl hH ?_
   apply zH
   ·intro w9 _
    go_simp
    first|done|rfl
   simp only[sA,sB,sC];refine tkE (i:=3) 10 rfl hH ?_
   apply zH
   ·intro w9 _
    go_simp
    first|done|rfl
   simp only[sA,sB,sC];refine tkA (i:=4) 11 (.slice pad pn pc) rfl (yK (by kernel_rfl) 43 _ rfl (tb) (1) rfl (.slice pad pn pc) (λw' hw'=>HT1.out w' hw')) hH ?_
   simp only[sA,sB,sC];refine tkE (i:=5) 12 rfl hH ?_
   apply zH
   ·intro w9 _
    go_simp
    first|done|rfl
   simp only[sA,sB,sC];refine tkE (i:=6) 13 rfl hH ?_
   apply zH
   ·intro w9 _
    go_simp
    first|done|rfl
   simp only[sA,sB,sC];refine wpAnyH_ready (rs:=[7]) (by kernel_rfl) (by simp) ?_
   refine AllReadyH.cons rfl (λK hK=>?_) AllReadyH.nil
   rw[zG (by rfl)]
   go_simp
   go_wp2_with (go_at_call 115;refine(HCO.out _).mono ?_;rintro e w2 ⟨rfl,kw2⟩)
   have Kw2:Kept w1.heap.size w1.heap.size w1 w2:=KD0.trans (kw2.mono KD0.size (λi hi _=>zD (zC hi KD0.size)))
   refine hK.out _ _ (Kw2) (λhH=>?_)
   clear hK K;refine tkE (i:=8) 15 rfl hH ?_
   apply zH
   ·intro w9 _
    go_simp
    first|done|rfl
   simp only[sA,sB,sC];refine tkE (i:=9) 16 rfl hH ?_
   apply zH
   ·intro w9 _
    go_simp
    first|done|rfl
   simp only[sA,sB,sC];refine wpAnyH_done (by kernel_rfl) ?_ _
   refine NoPanic.normal ?_;clear h1i h1n;go_wp2;go_ret;refine⟨?_,K1.out.next1 Kw2⟩
   have hf:Tt.right L P=false:=by
    unfold Tt.right;have h:¬P.length=L.length-1:=by have:=H2.out;rw[HLN.out,HPN.out] at this;exact this
    rw[decide_eq_false h];simp
   rw[hf];rfl
end Go.Proofs.YtnlbgggnpoeleaaGreatDoor
